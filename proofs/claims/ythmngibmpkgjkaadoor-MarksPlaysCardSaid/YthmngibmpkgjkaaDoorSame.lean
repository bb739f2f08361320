/- MarksSame: plain facts, and the walk. -/
import Derived.Test.YthmngibmpkgjkaaDoorSome
import Derived.Test.YthmngibmpkgjkaaDoorLawBelow
import Derived.Test.YthmngibmpkgjkaaDoorMap
import Derived.Carry
import Derived.Deep.CutBlock
namespace Go.Proofs.YthmngibmpkgjkaaDoor
open Go.RowKit
set_option linter.unusedVariables false
set_option linter.unusedSimpArgs false

def mods (zs : List Int) : List Int := zs.map (· % 1024)
theorem same_fwd (zs : List Int) (k : Nat) (hk : k < zs.length) : ins (insL noneF (mods (zs.take k))) (zs.getD k 0 % 1024) = insL noneF (mods (zs.take (k + 1))) := by
  unfold insL mods
  rw [List.take_succ_eq_append_getElem hk, List.map_append, List.foldl_append]
  simp [List.getD_eq_getElem?_getD, hk]
theorem same_back (l : List Int) (i : Nat) (hi : i < l.length) : ins (ins (insL noneF (mods (l.drop (i + 1)))) (l.getD i 0 % 1024)) (l.getD i 0 % 1024) = insL noneF (mods (l.drop i)) := by
  have e : l.drop i = l.getD i 0 :: l.drop (i + 1) := by
    rw [List.drop_eq_getElem_cons hi]; simp [List.getD_eq_getElem?_getD, hi]
  rw [e]
  funext k
  simp only [ins, insL_has, noneF, mods, List.map_cons, List.mem_cons, Bool.false_or]
  clear e
  generalize l.getD i 0 % 1024 = z
  by_cases h : (k : Int) = z <;> simp [h]
theorem getD_take (zs : List Int) (n i : Nat) (h : i < n) : (zs.take n).getD i 0 = zs.getD i 0 := by
  rw [List.getD_eq_getElem?_getD, List.getD_eq_getElem?_getD, List.getElem?_take_of_lt h]

/-- What a round of the law's loops holds on to. -/
def LK (w : World) (x : Addr) (k : Nat) (W : World) : Prop := KeptT w W ∧ (x.add k).block < w.heap.size
theorem lk_step {w W W' : World} {x : Addr} {k : Nat} {u : Value} (h : W.cell? (x.add k) = some u ∧ LK w x k W) (hb : Below W.heap.size W W') : W'.cell? (x.add k) = some u ∧ LK w x k W' :=
  ⟨by rw [hb.cell (p := x.add k) (Nat.lt_of_lt_of_le h.2.2 h.2.1.1.size)]; exact h.1, h.2.1.step hb, h.2.2⟩
theorem tab_store {w W : World} {b : Nat} (h : KeptT w W) (zb : ∃ f, Box W b f) (g : Nat → Bool) (hw : w.heap.size ≤ b) (h0 : 0 < w.heap.size) : KeptT w (W.setCells b 0 (cellsL g)) := by
  obtain ⟨f, zb⟩ := zb
  refine ⟨below_setCells h.1 zb g hw, fun i v hv => ?_⟩
  have hb : Below b W (W.setCells b 0 (cellsL g)) := below_setCells (Below.refl _ _) zb g (Nat.le_refl _)
  rw [hb.cell (p := ⟨0, i, none⟩) (Nat.lt_of_lt_of_le h0 hw)]; exact h.2 i v hv
theorem lk_store {w W : World} {x : Addr} {k b : Nat} {u : Value} {f : Nat → Bool} (h : W.cell? (x.add k) = some u ∧ LK w x k W) (zb : Box W b f) (g : Nat → Bool) (hw : w.heap.size ≤ b) (h0 : 0 < w.heap.size) :
    (W.setCells b 0 (cellsL g)).cell? (x.add k) = some u ∧ LK w x k (W.setCells b 0 (cellsL g)) := by
  have hb : Below b W (W.setCells b 0 (cellsL g)) := below_setCells (Below.refl _ _) zb g (Nat.le_refl _)
  exact ⟨by rw [hb.cell (p := x.add k) (Nat.lt_of_lt_of_le h.2.2 hw)]; exact h.1, tab_store h.2.1 ⟨f, zb⟩ g hw h0, h.2.2⟩
theorem lk_drew {w W : World} {x : Addr} {k : Nat} {u : Value} (h : W.cell? (x.add k) = some u ∧ LK w x k W) : W.drew.cell? (x.add k) = some u ∧ LK w x k W.drew := lk_step h (below_drew W)
theorem Box.putObj {w : World} {b : Nat} {f : Nat → Bool} (h : Box w b f) (r : Nat) (o : Obj) (hne : b ≠ r) : Box (w.putObj r o) b f := ⟨(World.putObj_heap_other hne).trans h.is⟩
/-- A new map with one entry in it: what is left of the world. -/
theorem map_new {w W : World} {b4 b5 : Nat} {g : Nat → Bool} (B4 : Box W b4 g) (B5 : Box W b5 g) (K : KeptT w W) (v : Value) :
    ∃ W2, (W.alloc (.map #[] 0)).putObj W.heap.size (.map #[{ key := setV g, val := v, born := 0 }] (0 + 1)) = W2 ∧ Box W2 b4 g ∧ Box W2 b5 g ∧ Below w.heap.size w W2 ∧ W2.heap[W.heap.size]? = some (.map #[{ key := setV g, val := v, born := 0 }] (0 + 1)) := by
  refine ⟨_, rfl, (B4.alloc _).putObj _ _ (Nat.ne_of_lt B4.lt), (B5.alloc _).putObj _ _ (Nat.ne_of_lt B5.lt), ?_, World.putObj_heap_same (by rw [World.size_alloc]; omega)⟩
  have k1 := K.1.size
  exact (K.1.alloc k1 _).trans ⟨rfl, rfl, rfl, by simp, fun k hk => World.putObj_heap_other (by omega)⟩
section
variable {ops : Array Oper} {rest : List Oper} {o : Oper} {a : Act} {w : World} {Q : Exit → Act → World → Prop}
theorem wpList_insert_set (hw : Region.wanted o (yielded ops a.tmps) = true) (m k v : Operand) (f : Nat → Bool) (u : Value) (r c : Nat) (ho : o.op = .insert 44 m k v) (hm : a.eval m = .map (some r)) (hk : a.eval k = setV f) (hv : a.eval v = u) (h0 : w.heap[r]? = some (.map #[] c))
    (h : wpList Tryd.prog ops Q rest (a.put o.dst undef) (w.putObj r (.map #[{ key := setV f, val := u, born := c }] (c + 1)))) : wpList Tryd.prog ops Q (o :: rest) a w :=
  wpList_step fun K hK => by
    rw [if_pos hw]
    unfold Oper.wp execOp
    simp only [ho, hm, hk, hv, Sem.run_bind, run_mapUpdate_new f u r c w h0, Result.andThen_ok, Sem.run_pure]
    exact hK _ _ h
theorem wpList_lookup_set (hw : Region.wanted o (yielded ops a.tmps) = true) (m k : Operand) (f : Nat → Bool) (u : Value) (r b c : Nat) (ho : o.op = .lookup 44 m k false) (hm : a.eval m = .map (some r)) (hk : a.eval k = setV f) (h0 : w.heap[r]? = some (.map #[{ key := setV f, val := u, born := b }] c))
    (h : wpList Tryd.prog ops Q rest (a.put o.dst u) w) : wpList Tryd.prog ops Q (o :: rest) a w :=
  wpList_step fun K hK => by
    rw [if_pos hw]
    unfold Oper.wp execOp
    simp only [ho, hm, hk, Sem.run_bind, run_lookup_same f u r b c w h0, Result.andThen_ok, Sem.run_pure]
    exact hK _ _ h
end
theorem zero_agg' : Value.agg #[.int .u64 0, .int .u64 0, .int .u64 0, .int .u64 0, .int .u64 0, .int .u64 0, .int .u64 0, .int .u64 0, .int .u64 0, .int .u64 0, .int .u64 0, .int .u64 0, .int .u64 0, .int .u64 0, .int .u64 0, .int .u64 0] = setV noneF := by rw [setV, cellsL_none]
/-- Two sets, one op: a set held against itself, by an operation that a guard lets by. -/
theorem wpList_eql_g {ops : Array Oper} {rest : List Oper} {o : Oper} {a : Act} {w : World} {Q : Exit → Act → World → Prop} (hw : Region.wanted o (yielded ops a.tmps) = true) (x y : Operand) (f : Nat → Bool) (ho : o.op = .binOp .eql 26 x y 26) (hx : a.eval x = setV f) (hy : a.eval y = setV f)
    (h : wpList Tryd.prog ops Q rest (a.put o.dst (.bool true)) w) : wpList Tryd.prog ops Q (o :: rest) a w :=
  wpList_step fun K hK => by
    rw [if_pos hw]
    unfold Oper.wp
    rw [run_eql_same x y f ho hx hy w]
    exact hK _ _ h

set_option maxRecDepth 100000 in
set_option maxHeartbeats 4000000 in
theorem same_row (x : Addr) (len cap : Nat) (zs : List Int) (w : World) (hT : Tab w) (hlen : zs.length = len) (hmax : cap ≤ maxLen) (hle : len ≤ cap) (hc : ∀ i, i < len → w.cell? (x.add i) = some (.int .i64 (zs.getD i 0))) (hz : InI zs) :
    Calls Tryd.prog 5 #[.slice (some x) len cap] w fun e w' => e = .returned (.bool true) ∧ Below w.heap.size w w' := by
  unfold maxLen at hmax
  have hp0 := hT.pos
  have HC := Lib.hid hc
  have HL := Lib.hid hlen
  clear hc hlen hz
  have K0 : KeptT w w := KeptT.refl hT
  go_enter Tryd.func5, Tryd.ntmps5
  go_upto_region 4 with (first
    | (go_at_call 9; refine (awake_any _ hT).mono ?_; rintro e w1 ⟨rfl, h1⟩; have K1 := K0.step h1; clear h1)
    | ((with_reducible show wpList _ _ _ (⟨none, Op.store 26 (.tmp 4) _, _, _, _, _⟩ :: _) _ _); refine wpList_store_mid rfl 26 _ _ rfl _ _ (cellsL noneF).toArray rfl zero_agg' ((zero_box _).there _) (info26' _) (cellsL_all _) ?_; rw [alloc_stored]; obtain ⟨W4, hW4, B4, K4⟩ := held_new K1 noneF; rw [hW4]; clear hW4)
    | ((with_reducible show wpList _ _ _ (⟨none, Op.store 26 (.tmp 5) _, _, _, _, _⟩ :: _) _ _); refine wpList_store_mid rfl 26 _ _ rfl _ _ (cellsL noneF).toArray rfl zero_agg' ((zero_box _).there _) (info26' _) (cellsL_all _) ?_; rw [alloc_stored]; have B4' := B4.alloc (.cells (cellsL noneF).toArray 26); obtain ⟨W5, hW5, B5, K5⟩ := held_new K4 noneF; rw [hW5] at B4' ⊢; clear hW5))
  (try simp only [Act.put, List.setIfInBounds_toArray, List.set_cons_zero, List.set_cons_succ])
  have l4 : w1.heap.size < W4.heap.size := B4.lt
  have hB4 : w.heap.size ≤ w1.heap.size := K1.1.size
  have hB5 : w.heap.size ≤ W4.heap.size := K4.1.size
  have hne : W4.heap.size ≠ w1.heap.size := by omega
  clear B4 K0 K1 K4 hT
  generalize w1.heap.size = b4 at *
  generalize W4.heap.size = b5 at *
  go_upto_block 0 with fail
  go_cut [6] from 12 to 28 (fun s6 wr => ∃ k : Nat, k ≤ len ∧ k ≤ 40 ∧ (k = len ∨ k = 40) ∧ s6 = .int .i64 k ∧ Box wr b4 (insL noneF (mods (zs.take k))) ∧ Box wr b5 noneF ∧ KeptT w wr)
  case first =>
   go_wp2_with fail
   go_loopw [6] (fun i wr => ∃ k : Nat, k ≤ len ∧ k ≤ 40 ∧ i = .int .i64 k ∧ Box wr b4 (insL noneF (mods (zs.take k))) ∧ Box wr b5 noneF ∧ KeptT w wr) (fun i _ => len - (intOf i).toNat)
   case atStart => exact ⟨0, Nat.zero_le _, by omega, rfl, B4', B5, K5⟩
   case round =>
     clear B4' B5 K5
     obtain ⟨k, hk, hk4, rfl, B4, B5, K⟩ := hrel
     by_cases hlt : k < len ∧ k < 40
     · obtain ⟨hlt, hl4⟩ := hlt
       have hkz : k < zs.length := by rw [HL.out]; exact hlt
       have h0 := HC.out k hlt
       have hcell : wr.cell? (x.add k) = some (.int .i64 (zs.getD k 0)) := by
         rw [K.1.cell (World.block_lt_of_cell? w _ h0)]; exact h0
       have S0 := And.intro hcell (show LK w x k wr from ⟨K, World.block_lt_of_cell? w _ h0⟩)
       have HS := Lib.hid (same_fwd zs k hkz)
       have a1 := and1023 (zs.getD k 0)
       have hi0 : (0 : Int) ≤ (k : Int) := by omega
       have hi1 : (k : Int) < (len : Int) := by omega
       have hd4 : decide ((k : Int) < 40) = true := decide_eq_true (by omega)
       have hdl : decide ((k : Int) < (len : Int)) = true := decide_eq_true (by omega)
       clear hkz h0 hcell
       generalize zs.getD k 0 = z at *
       have W1 := Lib.hid (fun w => with_any (insL noneF (mods (zs.take k))) (z % 1024) w (by omega) (by omega))
       generalize insL noneF (mods (zs.take k)) = g at *
       generalize hg2 : ins g (z % 1024) = g2 at *
       have HG2 := Lib.hid hg2
       clear hg2
       go_wp2
       refine wp_region_noPanic ?_
       refine wp_region_held_drew (S := fun W => W.cell? (x.add k) = some (.int .i64 z) ∧ LK w x k W) (by kernel_rfl) (lk_drew S0) (fun hHeld => ?_)
       refine wpAnyH_take (i := 1) (oi := ⟨some 23, _, _, _, _, _⟩) (v := .slice (some x) len cap) rfl (by kernel_rfl) (by kernel_rfl) (by kernel_rfl) (fun _ _ _ h => h) (Or.inl ⟨by rfl, ?_⟩) (by assumption) ?_
       · intro w0 hSw
         (try dsimp only at hSw)
         go_simp
         (try with_reducible rfl)
       (try simp only [Act.put, List.setIfInBounds_toArray, List.set_cons_zero, List.set_cons_succ])
       refine wpAnyH_take (i := 2) (oi := ⟨some 24, _, _, _, _, _⟩) (v := .int .i64 k) rfl (by kernel_rfl) (by kernel_rfl) (by kernel_rfl) (fun _ _ _ h => h) (Or.inl ⟨by rfl, ?_⟩) (by assumption) ?_
       · intro w0 hSw
         (try dsimp only at hSw)
         go_simp
         (try with_reducible rfl)
       (try simp only [Act.put, List.setIfInBounds_toArray, List.set_cons_zero, List.set_cons_succ])
       refine wpAnyH_take (i := 3) (oi := ⟨some 25, _, _, _, _, _⟩) (v := .pointer (some (x.add k))) rfl (by kernel_rfl) (by kernel_rfl) (by kernel_rfl) (fun _ _ _ h => h) (Or.inl ⟨by rfl, ?_⟩) (by assumption) ?_
       · intro w0 hSw
         (try dsimp only at hSw)
         go_simp
         (try with_reducible rfl)
       (try simp only [Act.put, List.setIfInBounds_toArray, List.set_cons_zero, List.set_cons_succ])
       refine wpAnyH_take (i := 4) (oi := ⟨some 26, _, _, _, _, _⟩) (v := .int .i64 z) rfl (by kernel_rfl) (by kernel_rfl) (by kernel_rfl) (fun _ _ _ h => h) (Or.inl ⟨by rfl, ?_⟩) (by assumption) ?_
       · intro w0 hSw
         (try dsimp only at hSw)
         go_simp
         (try with_reducible rfl)
       (try simp only [Act.put, List.setIfInBounds_toArray, List.set_cons_zero, List.set_cons_succ])
       refine wpAnyH_take (i := 5) (oi := ⟨some 27, _, _, _, _, _⟩) (v := .int .i64 (z % 1024)) rfl (by kernel_rfl) (by kernel_rfl) (by kernel_rfl) (fun _ _ _ h => h) (Or.inl ⟨by rfl, ?_⟩) (by assumption) ?_
       · intro w0 hSw
         (try dsimp only at hSw)
         go_simp
         (try with_reducible rfl)
       (try simp only [Act.put, List.setIfInBounds_toArray, List.set_cons_zero, List.set_cons_succ])
       refine wpAnyH_ready (rs := [0]) (by kernel_rfl) (by simp) ?_
       refine AllReadyH.cons (o := ⟨some 22, _, _, _, _, _⟩) rfl (fun K hK => ?_) AllReadyH.nil
       rw [if_pos (by rfl)]
       refine wp_load_mid 26 _ rfl _ 0 rfl (cellsL g) _ (B4.drew).range Tryd.underlying26 rfl (info26 _) ?_
       refine hK.out _ _ (by assumption) (fun hHeld => ?_)
       clear hK K
       (try simp only [Act.put, List.setIfInBounds_toArray, List.set_cons_zero, List.set_cons_succ])
       refine wpAnyH_ready (rs := [6]) (by kernel_rfl) (by simp) ?_
       refine AllReadyH.cons (o := ⟨some 28, _, _, _, _, _⟩) rfl (fun K hK => ?_) AllReadyH.nil
       go_simp
       refine (W1.out _).mono ?_
       rintro e wm ⟨rfl, hbm⟩
       refine hK.out _ _ (lk_step (by assumption) hbm) (fun hHeld => ?_)
       clear hK K
       (try simp only [Act.put, List.setIfInBounds_toArray, List.set_cons_zero, List.set_cons_succ])
       refine wpAnyH_ready (rs := [7]) (by kernel_rfl) (by simp) ?_
       refine AllReadyH.cons (o := ⟨none, _, _, _, _, _⟩) rfl (fun K hK => ?_) AllReadyH.nil
       rw [if_pos (by rfl)]
       have zb := B4.drew.later hbm
       refine wp_store_mid 26 _ _ rfl _ 0 (cellsL g2).toArray rfl rfl (zb.there g2) (info26' g2) (cellsL_all g2) ?_
       simp only [List.toList_toArray]
       have hS2 := lk_store (by assumption) zb g2 hB4 hp0
       have c4 := zb.setCells g2
       have c5 := (B5.drew.later hbm).setCells_other zb g2 hne
       refine hK.out _ _ hS2 (fun hHeld => ?_)
       clear hK K
       (try simp only [Act.put, List.setIfInBounds_toArray, List.set_cons_zero, List.set_cons_succ])
       refine wpAnyH_done (by kernel_rfl) ?_ _
       refine NoPanic.normal ?_
       have hfin : KeptT w _ := hS2.2.1
       clear hS2 hHeld S0 zb
       go_wp2_with fail
       go_roundw
       case rel => exact ⟨k + 1, hlt, by omega, rfl, c4.of_eq (by rw [HS.out]), c5, hfin⟩
       · show len - (k + 1) < len - k
         omega
     · by_cases hkl : k = len
       · subst hkl
         have hd1 : decide ((k : Int) < (k : Int)) = false := decide_eq_false (by omega)
         clear hlt
         go_wp2_with fail
         go_meet
         exact ⟨k, hk, hk4, Or.inl rfl, rfl, B4, B5, K⟩
       · have e40 : k = 40 := by omega
         subst e40
         have hd1 : decide (((40 : Nat) : Int) < (len : Int)) = true := decide_eq_true (by omega)
         have hd2 : decide (((40 : Nat) : Int) < 40) = false := by decide
         clear hlt
         go_wp2_with fail
         go_meet
         exact ⟨40, hk, hk4, Or.inr rfl, rfl, B4, B5, K⟩
  case rest =>
    clear B4' B5 K5
    obtain ⟨k, hk, hk4, hor, rfl, B4, B5, K⟩ := hcut
    have hmin : min (len : Int) 40 = (k : Int) := by omega
    have hkl : k ≤ zs.length := by rw [HL.out]; exact hk
    have hkI : (k : Int) ≤ (len : Int) := by omega
    have hw1 : IntKind.i64.wrap ((len : Int) - 1) = (len : Int) - 1 := IntWalk.i64_in _ (by omega)
    go_upto_region 8 with fail
    go_cut [7] from 29 to 32 (fun s7 wr => s7 = .int .i64 ((k : Int) - 1) ∧ Box wr b4 (insL noneF (mods (zs.take k))) ∧ Box wr b5 noneF ∧ KeptT w wr)
    case first =>
      go_wp2_with fail
      · go_meet
        have e40 : k = 40 := by omega
        subst e40
        exact ⟨rfl, B4, B5, K⟩
      · go_meet
        have e40 : k = len := by omega
        subst e40
        exact ⟨by simp only [hw1], B4, B5, K⟩
    clear B4 B5 K hor
    obtain ⟨rfl, B4, B5, K⟩ := hcut
    go_wp2
    (try simp only [Act.put, List.setIfInBounds_toArray, List.set_cons_zero, List.set_cons_succ])
    go_loopw [7] (fun i wr => ∃ j : Nat, j ≤ k ∧ i = .int .i64 ((j : Int) - 1) ∧ Box wr b4 (insL noneF (mods (zs.take k))) ∧ Box wr b5 (insL noneF (mods ((zs.take k).drop j))) ∧ KeptT w wr) (fun i _ => (intOf i + 1).toNat)
    case atStart => exact ⟨k, Nat.le_refl _, rfl, B4, B5.of_eq (by rw [List.drop_take]; simp [mods, insL]), K⟩
    case round =>
      clear B4 B5 K hw1 hmin
      obtain ⟨j, hj, rfl, B4, B5, K⟩ := hrel
      cases j with
      | zero =>
        rw [List.drop_zero] at B5
        generalize insL noneF (mods (zs.take k)) = g at *
        have hd : decide (((0 : Nat) : Int) - 1 ≥ 0) = false := by decide
        clear HC HL
        have hmm := @run_makeMap Tryd.prog
        go_upto_region 13 with (first
          | ((with_reducible show wpList _ _ _ (⟨some 51, _, _, _, _, _⟩ :: _) _ _); refine wpList_load_mid rfl 26 _ rfl _ _ rfl _ _ (B4.alloc _).range Tryd.underlying26 rfl (info26 _) ?_)
          | ((with_reducible show wpList _ _ _ (⟨none, Op.insert _ _ _ _, _, _, _, _⟩ :: _) _ _); refine wpList_insert_set rfl _ _ _ g (.int .i64 7) _ 0 rfl rfl rfl rfl (heap_alloc_new _ _) ?_))
        obtain ⟨W2, hW2, C4, C5, hB, hM⟩ := map_new B4 B5 K (.int .i64 7)
        (try simp only [Act.put, List.setIfInBounds_toArray, List.set_cons_zero, List.set_cons_succ])
        rw [hW2]
        clear hW2 B4 B5 K hmm
        generalize wr.heap.size = r at *
        go_wp2_with (first
          | ((with_reducible show wpList _ _ _ (⟨some 55, _, _, _, _, _⟩ :: _) _ _); refine wpList_load_g rfl _ rfl _ _ rfl C4 ?_)
          | ((with_reducible show wpList _ _ _ (⟨some 56, _, _, _, _, _⟩ :: _) _ _); refine wpList_load_g rfl _ rfl _ _ rfl C5 ?_)
          | ((with_reducible show wpList _ _ _ (⟨some 57, _, _, _, _, _⟩ :: _) _ _); refine wpList_eql_g rfl _ _ g rfl rfl rfl ?_)
          | ((with_reducible show wpList _ _ _ (⟨some 61, _, _, _, _, _⟩ :: _) _ _); refine wpList_load_g rfl _ rfl _ _ rfl C5 ?_)
          | ((with_reducible show wpList _ _ _ (⟨some 62, _, _, _, _, _⟩ :: _) _ _); refine wpList_lookup_set rfl _ _ g (.int .i64 7) _ _ _ rfl rfl rfl hM ?_))
        go_ret
        exact ⟨rfl, hB⟩
      | succ j =>
        have hjl : j < len := by omega
        have hjz : j < (zs.take k).length := by rw [List.length_take]; omega
        have h0 := HC.out j hjl
        have hcell : wr.cell? (x.add j) = some (.int .i64 (zs.getD j 0)) := by
          rw [K.1.cell (World.block_lt_of_cell? w _ h0)]; exact h0
        have S0 := And.intro hcell (show LK w x j wr from ⟨K, World.block_lt_of_cell? w _ h0⟩)
        have hsb := same_back (zs.take k) j hjz
        rw [getD_take zs k j (by omega)] at hsb
        have HS := Lib.hid hsb
        have a1 := and1023 (zs.getD j 0)
        have ej : ((j + 1 : Nat) : Int) - 1 = (j : Int) := by omega
        rw [ej]
        have hi0 : (0 : Int) ≤ (j : Int) := by omega
        have hi1 : (j : Int) < (len : Int) := by omega
        have hd4 : decide ((j : Int) ≥ 0) = true := decide_eq_true (by omega)
        have hwj : IntKind.i64.wrap ((j : Int) - 1) = (j : Int) - 1 := IntWalk.i64_in _ (by omega)
        clear hjz h0 hcell hsb
        generalize zs.getD j 0 = z at *
        have W1 := Lib.hid (fun w => with_any (insL noneF (mods ((zs.take k).drop (j + 1)))) (z % 1024) w (by omega) (by omega))
        generalize insL noneF (mods ((zs.take k).drop (j + 1))) = g at *
        generalize hg2 : ins g (z % 1024) = g2 at *
        have W2 := Lib.hid (fun w => with_any g2 (z % 1024) w (by omega) (by omega))
        generalize hg3 : ins g2 (z % 1024) = g3 at *
        clear hg2 hg3
        generalize insL noneF (mods (zs.take k)) = gf at *
        go_wp2
        refine wp_region_noPanic ?_
        refine wp_region_held_drew (S := fun W => W.cell? (x.add j) = some (.int .i64 z) ∧ LK w x j W) (by kernel_rfl) (lk_drew S0) (fun hHeld => ?_)
        refine wpAnyH_take (i := 1) (oi := ⟨some 38, _, _, _, _, _⟩) (v := .slice (some x) len cap) rfl (by kernel_rfl) (by kernel_rfl) (by kernel_rfl) (fun _ _ _ h => h) (Or.inl ⟨by rfl, ?_⟩) (by assumption) ?_
        · intro w0 hSw
          (try dsimp only at hSw)
          go_simp
          (try with_reducible rfl)
        (try simp only [Act.put, List.setIfInBounds_toArray, List.set_cons_zero, List.set_cons_succ])
        refine wpAnyH_take (i := 2) (oi := ⟨some 39, _, _, _, _, _⟩) (v := .int .i64 j) rfl (by kernel_rfl) (by kernel_rfl) (by kernel_rfl) (fun _ _ _ h => h) (Or.inl ⟨by rfl, ?_⟩) (by assumption) ?_
        · intro w0 hSw
          (try dsimp only at hSw)
          go_simp
          (try with_reducible rfl)
        (try simp only [Act.put, List.setIfInBounds_toArray, List.set_cons_zero, List.set_cons_succ])
        refine wpAnyH_take (i := 3) (oi := ⟨some 40, _, _, _, _, _⟩) (v := .pointer (some (x.add j))) rfl (by kernel_rfl) (by kernel_rfl) (by kernel_rfl) (fun _ _ _ h => h) (Or.inl ⟨by rfl, ?_⟩) (by assumption) ?_
        · intro w0 hSw
          (try dsimp only at hSw)
          go_simp
          (try with_reducible rfl)
        (try simp only [Act.put, List.setIfInBounds_toArray, List.set_cons_zero, List.set_cons_succ])
        refine wpAnyH_take (i := 4) (oi := ⟨some 41, _, _, _, _, _⟩) (v := .int .i64 z) rfl (by kernel_rfl) (by kernel_rfl) (by kernel_rfl) (fun _ _ _ h => h) (Or.inl ⟨by rfl, ?_⟩) (by assumption) ?_
        · intro w0 hSw
          (try dsimp only at hSw)
          go_simp
          (try with_reducible rfl)
        (try simp only [Act.put, List.setIfInBounds_toArray, List.set_cons_zero, List.set_cons_succ])
        refine wpAnyH_take (i := 5) (oi := ⟨some 42, _, _, _, _, _⟩) (v := .int .i64 (z % 1024)) rfl (by kernel_rfl) (by kernel_rfl) (by kernel_rfl) (fun _ _ _ h => h) (Or.inl ⟨by rfl, ?_⟩) (by assumption) ?_
        · intro w0 hSw
          (try dsimp only at hSw)
          go_simp
          (try with_reducible rfl)
        (try simp only [Act.put, List.setIfInBounds_toArray, List.set_cons_zero, List.set_cons_succ])
        refine wpAnyH_take (i := 7) (oi := ⟨some 44, _, _, _, _, _⟩) (v := .slice (some x) len cap) rfl (by kernel_rfl) (by kernel_rfl) (by kernel_rfl) (fun _ _ _ h => h) (Or.inl ⟨by rfl, ?_⟩) (by assumption) ?_
        · intro w0 hSw
          (try dsimp only at hSw)
          go_simp
          (try with_reducible rfl)
        (try simp only [Act.put, List.setIfInBounds_toArray, List.set_cons_zero, List.set_cons_succ])
        refine wpAnyH_take (i := 8) (oi := ⟨some 45, _, _, _, _, _⟩) (v := .int .i64 j) rfl (by kernel_rfl) (by kernel_rfl) (by kernel_rfl) (fun _ _ _ h => h) (Or.inl ⟨by rfl, ?_⟩) (by assumption) ?_
        · intro w0 hSw
          (try dsimp only at hSw)
          go_simp
          (try with_reducible rfl)
        (try simp only [Act.put, List.setIfInBounds_toArray, List.set_cons_zero, List.set_cons_succ])
        refine wpAnyH_take (i := 9) (oi := ⟨some 46, _, _, _, _, _⟩) (v := .pointer (some (x.add j))) rfl (by kernel_rfl) (by kernel_rfl) (by kernel_rfl) (fun _ _ _ h => h) (Or.inl ⟨by rfl, ?_⟩) (by assumption) ?_
        · intro w0 hSw
          (try dsimp only at hSw)
          go_simp
          (try with_reducible rfl)
        (try simp only [Act.put, List.setIfInBounds_toArray, List.set_cons_zero, List.set_cons_succ])
        refine wpAnyH_take (i := 10) (oi := ⟨some 47, _, _, _, _, _⟩) (v := .int .i64 z) rfl (by kernel_rfl) (by kernel_rfl) (by kernel_rfl) (fun _ _ _ h => h) (Or.inl ⟨by rfl, ?_⟩) (by assumption) ?_
        · intro w0 hSw
          (try dsimp only at hSw)
          go_simp
          (try with_reducible rfl)
        (try simp only [Act.put, List.setIfInBounds_toArray, List.set_cons_zero, List.set_cons_succ])
        refine wpAnyH_take (i := 11) (oi := ⟨some 48, _, _, _, _, _⟩) (v := .int .i64 (z % 1024)) rfl (by kernel_rfl) (by kernel_rfl) (by kernel_rfl) (fun _ _ _ h => h) (Or.inl ⟨by rfl, ?_⟩) (by assumption) ?_
        · intro w0 hSw
          (try dsimp only at hSw)
          go_simp
          (try with_reducible rfl)
        (try simp only [Act.put, List.setIfInBounds_toArray, List.set_cons_zero, List.set_cons_succ])
        refine wpAnyH_ready (rs := [0]) (by kernel_rfl) (by simp) ?_
        refine AllReadyH.cons (o := ⟨some 37, _, _, _, _, _⟩) rfl (fun K hK => ?_) AllReadyH.nil
        rw [if_pos (by rfl)]
        refine wp_load_mid 26 _ rfl _ 0 rfl (cellsL g) _ (B5.drew).range Tryd.underlying26 rfl (info26 _) ?_
        refine hK.out _ _ (by assumption) (fun hHeld => ?_)
        clear hK K
        (try simp only [Act.put, List.setIfInBounds_toArray, List.set_cons_zero, List.set_cons_succ])
        refine wpAnyH_ready (rs := [6]) (by kernel_rfl) (by simp) ?_
        refine AllReadyH.cons (o := ⟨some 43, _, _, _, _, _⟩) rfl (fun K hK => ?_) AllReadyH.nil
        go_simp
        refine (W1.out _).mono ?_
        rintro e wm ⟨rfl, hbm⟩
        refine hK.out _ _ (lk_step (by assumption) hbm) (fun hHeld => ?_)
        clear hK K
        (try simp only [Act.put, List.setIfInBounds_toArray, List.set_cons_zero, List.set_cons_succ])
        refine wpAnyH_ready (rs := [12]) (by kernel_rfl) (by simp) ?_
        refine AllReadyH.cons (o := ⟨some 49, _, _, _, _, _⟩) rfl (fun K hK => ?_) AllReadyH.nil
        go_simp
        refine (W2.out _).mono ?_
        rintro e wn ⟨rfl, hbn⟩
        refine hK.out _ _ (lk_step (by assumption) hbn) (fun hHeld => ?_)
        clear hK K
        (try simp only [Act.put, List.setIfInBounds_toArray, List.set_cons_zero, List.set_cons_succ])
        refine wpAnyH_ready (rs := [13]) (by kernel_rfl) (by simp) ?_
        refine AllReadyH.cons (o := ⟨none, _, _, _, _, _⟩) rfl (fun K hK => ?_) AllReadyH.nil
        rw [if_pos (by rfl)]
        have zb := (B5.drew.later hbm).later hbn
        refine wp_store_mid 26 _ _ rfl _ 0 (cellsL g3).toArray rfl rfl (zb.there g3) (info26' g3) (cellsL_all g3) ?_
        simp only [List.toList_toArray]
        have hS2 := lk_store (by assumption) zb g3 hB5 hp0
        have c5 := zb.setCells g3
        have c4 := ((B4.drew.later hbm).later hbn).setCells_other zb g3 hne.symm
        refine hK.out _ _ hS2 (fun hHeld => ?_)
        clear hK K
        (try simp only [Act.put, List.setIfInBounds_toArray, List.set_cons_zero, List.set_cons_succ])
        refine wpAnyH_done (by kernel_rfl) ?_ _
        refine NoPanic.normal ?_
        have hfin : KeptT w _ := hS2.2.1
        clear hS2 hHeld S0 zb
        go_wp2_with fail
        go_roundw
        case rel => exact ⟨j, by omega, rfl, c4, c5.of_eq (by rw [HS.out]), hfin⟩
        · show (((j : Int) - 1) + 1).toNat < ((j : Int) + 1).toNat
          omega


set_option maxRecDepth 100000 in
set_option maxHeartbeats 4000000 in
theorem same_nil (w : World) (hT : Tab w) : Calls Tryd.prog 5 #[.slice none 0 0] w fun e w' => e = .returned (.bool true) ∧ Below w.heap.size w w' := by
  have K0 : KeptT w w := KeptT.refl hT
  go_enter Tryd.func5, Tryd.ntmps5
  go_upto_region 4 with (first
    | (go_at_call 9; refine (awake_any _ hT).mono ?_; rintro e w1 ⟨rfl, h1⟩; have K1 := K0.step h1; clear h1)
    | ((with_reducible show wpList _ _ _ (⟨none, Op.store 26 (.tmp 4) _, _, _, _, _⟩ :: _) _ _); refine wpList_store_mid rfl 26 _ _ rfl _ _ (cellsL noneF).toArray rfl zero_agg' ((zero_box _).there _) (info26' _) (cellsL_all _) ?_; rw [alloc_stored]; obtain ⟨W4, hW4, B4, K4⟩ := held_new K1 noneF; rw [hW4]; clear hW4)
    | ((with_reducible show wpList _ _ _ (⟨none, Op.store 26 (.tmp 5) _, _, _, _, _⟩ :: _) _ _); refine wpList_store_mid rfl 26 _ _ rfl _ _ (cellsL noneF).toArray rfl zero_agg' ((zero_box _).there _) (info26' _) (cellsL_all _) ?_; rw [alloc_stored]; have B4' := B4.alloc (.cells (cellsL noneF).toArray 26); obtain ⟨W5, hW5, B5, K5⟩ := held_new K4 noneF; rw [hW5] at B4' ⊢; clear hW5))
  (try simp only [Act.put, List.setIfInBounds_toArray, List.set_cons_zero, List.set_cons_succ])
  clear B4 K0 K1 K4 hT
  generalize w1.heap.size = b4 at *
  generalize W4.heap.size = b5 at *
  generalize noneF = g at *
  go_upto_block 0 with fail
  go_wp2_with fail
  refine wp_loop_rounds 1 ?_
  rw [rounds_succ]
  go_wp2_with fail
  refine wp_loop_rounds 1 ?_
  rw [rounds_succ]
  have hmm := @run_makeMap Tryd.prog
  go_upto_region 13 with (first
    | ((with_reducible show wpList _ _ _ (⟨some 51, _, _, _, _, _⟩ :: _) _ _); refine wpList_load_mid rfl 26 _ rfl _ _ rfl _ _ (B4'.alloc _).range Tryd.underlying26 rfl (info26 _) ?_)
    | ((with_reducible show wpList _ _ _ (⟨none, Op.insert _ _ _ _, _, _, _, _⟩ :: _) _ _); refine wpList_insert_set rfl _ _ _ g (.int .i64 7) _ 0 rfl rfl rfl rfl (heap_alloc_new _ _) ?_))
  obtain ⟨W2, hW2, C4, C5, hB, hM⟩ := map_new B4' B5 K5 (.int .i64 7)
  (try simp only [Act.put, List.setIfInBounds_toArray, List.set_cons_zero, List.set_cons_succ])
  rw [hW2]
  clear hW2 B4' B5 K5 hmm
  generalize W5.heap.size = r at *
  go_wp2_with (first
    | ((with_reducible show wpList _ _ _ (⟨some 55, _, _, _, _, _⟩ :: _) _ _); refine wpList_load_g rfl _ rfl _ _ rfl C4 ?_)
    | ((with_reducible show wpList _ _ _ (⟨some 56, _, _, _, _, _⟩ :: _) _ _); refine wpList_load_g rfl _ rfl _ _ rfl C5 ?_)
    | ((with_reducible show wpList _ _ _ (⟨some 57, _, _, _, _, _⟩ :: _) _ _); refine wpList_eql_g rfl _ _ g rfl rfl rfl ?_)
    | ((with_reducible show wpList _ _ _ (⟨some 61, _, _, _, _, _⟩ :: _) _ _); refine wpList_load_g rfl _ rfl _ _ rfl C5 ?_)
    | ((with_reducible show wpList _ _ _ (⟨some 62, _, _, _, _, _⟩ :: _) _ _); refine wpList_lookup_set rfl _ _ g (.int .i64 7) _ _ _ rfl rfl rfl hM ?_))
  go_ret
  exact ⟨rfl, hB⟩

theorem same_walk (v : Value) (zs : List Int) (w : World) (hT : Tab w) (n : Nums w v zs) (i : InI zs) : Calls Tryd.prog 5 #[v] w fun e w' => e = .returned (.bool true) ∧ Below w.heap.size w w' := by
  rcases n with ⟨rfl, rfl⟩ | ⟨x, cap, rfl, hle, hmax, hc⟩
  · exact same_nil w hT
  · exact same_row x _ cap zs w hT rfl hmax hle hc i
end Go.Proofs.YthmngibmpkgjkaaDoor
