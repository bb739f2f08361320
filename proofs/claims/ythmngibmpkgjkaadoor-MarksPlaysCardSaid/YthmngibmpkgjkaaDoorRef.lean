/- The document's own set: a block of 1024 Booleans. -/
import Derived.Test.YthmngibmpkgjkaaDoorSome
namespace Go.Proofs.YthmngibmpkgjkaaDoor
open Go.RowKit
set_option linter.unusedVariables false
set_option linter.unusedSimpArgs false

def bcells (g : Nat → Bool) : List Value := (List.range 1024).map fun i => .bool (g i)
theorem bcells_length (g : Nat → Bool) : (bcells g).length = 1024 := by unfold bcells; rw [List.length_map, List.length_range]
theorem bcells_get (g : Nat → Bool) (i : Nat) (hi : i < 1024) : (bcells g)[i]? = some (.bool (g i)) := by unfold bcells; rw [List.getElem?_map, List.getElem?_range hi]; rfl
theorem bcells_none : bcells noneF = List.replicate 1024 (.bool false) := by
  refine List.ext_getElem? fun i => ?_
  by_cases h : i < 1024
  · rw [bcells_get _ _ h, List.getElem?_replicate, if_pos h]; rfl
  · rw [List.getElem?_eq_none (by rw [bcells_length]; omega), List.getElem?_eq_none (by rw [List.length_replicate]; omega)]

/-- Block r holds the document's set g. -/
structure RBox (w : World) (r : Nat) (g : Nat → Bool) : Prop where
  is : w.heap[r]? = some (.cells (bcells g).toArray 37 (0, 0))
theorem RBox.lt {w : World} {r : Nat} {g : Nat → Bool} (h : RBox w r g) : r < w.heap.size := (Array.getElem?_eq_some_iff.1 h.is).1
theorem RBox.cell {w : World} {r : Nat} {g : Nat → Bool} (h : RBox w r g) (i : Nat) (hi : i < 1024) : w.cell? ⟨r, i, none⟩ = some (.bool (g i)) := by
  rw [cell_of_row w r i _ _ _ h.is]; simpa using bcells_get g i hi
theorem RBox.frozen {w : World} {r : Nat} {g : Nat → Bool} (h : RBox w r g) (i : Nat) : w.frozen? ⟨r, i, none⟩ = false := frozen_of_row w r i _ _ h.is
theorem RBox.later {w w' : World} {r : Nat} {g : Nat → Bool} (h : RBox w r g) (hb : Below w.heap.size w w') : RBox w' r g := ⟨(hb.block r h.lt).trans h.is⟩
theorem RBox.below {w w' : World} {r B : Nat} {g : Nat → Bool} (h : RBox w r g) (hb : Below B w w') (hB : r < B) : RBox w' r g := ⟨(hb.block r hB).trans h.is⟩
theorem RBox.alloc {w : World} {r : Nat} {g : Nat → Bool} (h : RBox w r g) (o : Obj) : RBox (w.alloc o) r g := ⟨(Below.heap_alloc w o r h.lt).trans h.is⟩
theorem RBox.new (w : World) (g : Nat → Bool) : RBox (w.alloc (.cells (bcells g).toArray 37)) w.heap.size g := ⟨heap_alloc_new w _⟩
theorem RBox.congr {w : World} {r : Nat} {g g' : Nat → Bool} (h : RBox w r g) (e : ∀ k, k < 1024 → g k = g' k) : RBox w r g' := by
  have : bcells g = bcells g' := by
    unfold bcells
    exact List.map_congr_left fun k hk => by rw [e k (by simpa using hk)]
  exact ⟨by rw [← this]; exact h.is⟩
def putF (g : Nat → Bool) (n : Int) (b : Bool) : Nat → Bool := fun k => if (k : Int) = n then b else g k
theorem RBox.put {w : World} {r : Nat} {g : Nat → Bool} (h : RBox w r g) (i : Nat) (b : Bool) : RBox (w.setCell ⟨r, i, none⟩ (.bool b)) r (putF g (i : Int) b) := by
  refine ⟨?_⟩
  rw [heap_setCell_same w r i _ _ _ h.is]
  simp only [List.setIfInBounds_toArray]
  have e : (bcells g).set i (.bool b) = bcells (putF g (i : Int) b) := by
    refine List.ext_getElem? fun j => ?_
    rw [List.getElem?_set]
    by_cases hj : j < 1024
    · rw [bcells_get _ _ hj, bcells_get _ _ hj, bcells_length]
      by_cases e : i = j
      · subst e; simp [hj, putF]
      · rw [if_neg e]
        have : ¬ ((j : Int) = (i : Int)) := by omega
        simp [putF, this]
    · rw [List.getElem?_eq_none (by rw [bcells_length]; omega), List.getElem?_eq_none (by rw [bcells_length]; omega), bcells_length]
      by_cases e : i = j
      · rw [if_pos e, if_neg (by omega)]
      · rw [if_neg e]
  rw [e]
theorem build_ref (w : World) : (Instr.build 37 #[]).run Tryd.prog w = .ok (.agg (bcells noneF).toArray) w := by
  rw [bcells_none]
  kernel_rfl
section
variable {ops : Array Oper} {rest : List Oper} {o : Oper} {a : Act} {w : World} {Q : Exit → Act → World → Prop}
theorem wpList_build_ref (hw : Region.wanted o (yielded ops a.tmps) = true) (ho : o.op = .build 37 #[]) (h : wpList Tryd.prog ops Q rest (a.put o.dst (.agg (bcells noneF).toArray)) w) : wpList Tryd.prog ops Q (o :: rest) a w :=
  wpList_step fun K hK => by
    rw [if_pos hw]
    unfold Oper.wp execOp
    have e : (#[] : Array (Nat × Operand)).map (fun (i, x) => (i, a.eval x)) = #[] := by simp
    simp only [ho, e, Sem.run_bind, build_ref w, Result.andThen_ok, Sem.run_pure]
    exact hK _ _ h
end

set_option maxHeartbeats 1000000 in
theorem rPut_in (r i : Nat) (b : Bool) (g : Nat → Bool) (w : World) (h : RBox w r g) (hi : i < 1024) :
    Calls Tryd.prog 16 #[.pointer (some ⟨r, 0, none⟩), .int .i64 (i : Int), .bool b] w fun e w' => e = .returned (.tuple #[]) ∧ w' = w.setCell ⟨r, i, none⟩ (.bool b) := by
  have c := h.cell i hi
  have f := h.frozen i
  have h0 : decide ((0 : Int) ≤ (i : Int)) = true := by simp
  have h1 : decide ((i : Int) < 1024) = true := by simp; omega
  have hi0 : (0 : Int) ≤ (i : Int) := by omega
  have hi1 : (i : Int) < 1024 := by omega
  go_enter Tryd.func16, Tryd.ntmps16
  go_wp2
  go_end0
  exact ⟨rfl, rfl⟩
set_option maxHeartbeats 1000000 in
theorem rPut_out (p : Value) (n : Int) (b : Bool) (w : World) (hn : n < 0 ∨ 1024 ≤ n) :
    Calls Tryd.prog 16 #[p, .int .i64 n, .bool b] w fun e w' => e = .returned (.tuple #[]) ∧ w' = w := by
  by_cases h0 : n < 0
  · have e0 : decide (n ≥ 0) = false := by simp; omega
    go_enter Tryd.func16, Tryd.ntmps16
    go_wp2
    go_end0
    exact ⟨rfl, rfl⟩
  · have e0 : decide (n ≥ 0) = true := by simp; omega
    have e1 : decide (n < 1024) = false := by simp; omega
    go_enter Tryd.func16, Tryd.ntmps16
    go_wp2
    go_end0
    exact ⟨rfl, rfl⟩
set_option maxHeartbeats 1000000 in
theorem rHas_any (r : Nat) (n : Int) (g : Nat → Bool) (w : World) (h : RBox w r g) :
    Calls Tryd.prog 30 #[.pointer (some ⟨r, 0, none⟩), .int .i64 n] w fun e w' => e = .returned (.bool (hasB g n)) ∧ w' = w := by
  by_cases h0 : n < 0
  · have e0 : decide (n ≥ 0) = false := by simp; omega
    have e2 : hasB g n = false := by
      have : ¬ (0 ≤ n ∧ n < 1024) := by omega
      simp [hasB, mayB, this]
    rw [e2]
    go_enter Tryd.func30, Tryd.ntmps30
    go_wp2
    go_ret
    exact ⟨rfl, rfl⟩
  · by_cases h1 : n < 1024
    · obtain ⟨i, rfl⟩ : ∃ i : Nat, n = (i : Int) := ⟨n.toNat, by omega⟩
      have hi : i < 1024 := by omega
      have c := h.cell i hi
      have e2 : hasB g (i : Int) = g i := by
        have : (0 : Int) ≤ (i : Int) ∧ (i : Int) < 1024 := by omega
        simp [hasB, mayB, this]
      rw [e2]
      have e0 : decide ((i : Int) ≥ 0) = true := by simp
      have e1 : decide ((i : Int) < 1024) = true := by simp; omega
      have hi0 : (0 : Int) ≤ (i : Int) := by omega
      generalize g i = b at *
      go_enter Tryd.func30, Tryd.ntmps30
      go_wp2
      go_ret
      exact ⟨rfl, rfl⟩
    · have e0 : decide (n ≥ 0) = true := by simp; omega
      have e1 : decide (n < 1024) = false := by simp; omega
      have e2 : hasB g n = false := by
        have : ¬ (0 ≤ n ∧ n < 1024) := by omega
        simp [hasB, mayB, this]
      rw [e2]
      go_enter Tryd.func30, Tryd.ntmps30
      go_wp2
      go_ret
      exact ⟨rfl, rfl⟩

/-! ### Of -/
theorem RBox.put_any {w : World} {r : Nat} {g : Nat → Bool} (h : RBox w r g) (n : Int) (b : Bool) :
    Calls Tryd.prog 16 #[.pointer (some ⟨r, 0, none⟩), .int .i64 n, .bool b] w fun e w' => e = .returned (.tuple #[]) ∧ RBox w' r (putF g n b) ∧ Below r w w' := by
  by_cases hn : n < 0 ∨ 1024 ≤ n
  · refine (rPut_out _ n b w hn).mono ?_
    rintro e w' ⟨rfl, rfl⟩
    refine ⟨rfl, h.congr fun k hk => ?_, Below.refl _ _⟩
    rw [putF, if_neg (by omega)]
  · obtain ⟨i, rfl⟩ : ∃ i : Nat, n = (i : Int) := ⟨n.toNat, by omega⟩
    refine (rPut_in r i b g w h (by omega)).mono ?_
    rintro e w' ⟨rfl, rfl⟩
    exact ⟨rfl, h.put i b, (Below.refl r w).setCell (p := ⟨r, i, none⟩) (Nat.le_refl _) _⟩
theorem putF_true (g : Nat → Bool) (n : Int) : putF g n true = ins g n := by
  funext k
  by_cases h : (k : Int) = n <;> simp [putF, ins, h]

set_option maxRecDepth 100000 in
set_option maxHeartbeats 1000000 in
theorem rOf_nil (w : World) : Calls Tryd.prog 12 #[.slice none 0 0] w fun e w' => ∃ r, e = .returned (.pointer (some ⟨r, 0, none⟩)) ∧ w.heap.size ≤ r ∧ RBox w' r noneF ∧ Below w.heap.size w w' := by
  go_enter Tryd.func12, Tryd.ntmps12
  go_wp2_with ((with_reducible show wpList _ _ _ (⟨some 5, _, _, _, _, _⟩ :: _) _ _); refine wpList_build_ref rfl rfl ?_)
  refine wp_loop_rounds 1 ?_
  rw [rounds_succ]
  go_wp2
  go_ret
  exact ⟨_, rfl, Nat.le_refl _, RBox.new _ _, (Below.refl _ _).alloc (Nat.le_refl _) _⟩
set_option maxRecDepth 100000 in
set_option maxHeartbeats 1000000 in
theorem rOf_row (x : Addr) (len cap : Nat) (zs : List Int) (w : World) (hlen : zs.length = len) (hmax : cap ≤ maxLen) (hle : len ≤ cap) (hc : ∀ i, i < len → w.cell? (x.add i) = some (.int .i64 (zs.getD i 0))) :
    Calls Tryd.prog 12 #[.slice (some x) len cap] w fun e w' => ∃ r, e = .returned (.pointer (some ⟨r, 0, none⟩)) ∧ w.heap.size ≤ r ∧ RBox w' r (insL noneF zs) ∧ Below w.heap.size w w' := by
  unfold maxLen at hmax
  have HC := Lib.hid hc
  have HL := Lib.hid hlen
  clear hc hlen
  have B0 := RBox.new w noneF
  have K0 := (Below.refl w.heap.size w).alloc (Nat.le_refl _) (.cells (bcells noneF).toArray 37)
  go_enter Tryd.func12, Tryd.ntmps12
  go_wp2_with ((with_reducible show wpList _ _ _ (⟨some 5, _, _, _, _, _⟩ :: _) _ _); refine wpList_build_ref rfl rfl ?_)
  go_loopw [4] (fun i wr => ∃ k : Nat, k ≤ len ∧ i = .int .i64 k ∧ RBox wr w.heap.size (insL noneF (zs.take k)) ∧ Below w.heap.size w wr) (fun i _ => len - (intOf i).toNat)
  case atStart => exact ⟨0, Nat.zero_le _, rfl, B0, K0⟩
  case round =>
    clear B0 K0
    obtain ⟨k, hk, rfl, c1, hb1⟩ := hrel
    by_cases hlt : k < len
    · have hkz : k < zs.length := by rw [HL.out]; exact hlt
      have hcell : wr.cell? (x.add k) = some (.int .i64 (zs.getD k 0)) := by
        have h := HC.out k hlt
        rw [Below.cell hb1 (World.block_lt_of_cell? w _ h)]; exact h
      have HS := Lib.hid (insL_snoc noneF zs k hkz)
      clear hkz
      generalize insL noneF (zs.take k) = g at *
      generalize zs.getD k 0 = z at *
      go_wp2_with (go_at_call 16; refine (c1.put_any z true).mono ?_; rintro e w1 ⟨rfl, d1, h1⟩; have hb2 := hb1.trans h1)
      go_roundw
      case rel => exact ⟨k + 1, by omega, by go_num, by rw [HS.out, ← putF_true]; exact d1, hb2⟩
      case measure => simp [intOf]; omega
    · have e : zs.take k = zs := List.take_of_length_le (by rw [HL.out]; omega)
      rw [e] at c1
      clear e
      obtain rfl : k = len := by omega
      go_wp2
      go_ret
      exact ⟨_, rfl, Nat.le_refl _, c1, hb1⟩
theorem rOf_any (v : Value) (zs : List Int) (w : World) (h : Nums w v zs) :
    Calls Tryd.prog 12 #[v] w fun e w' => ∃ r, e = .returned (.pointer (some ⟨r, 0, none⟩)) ∧ w.heap.size ≤ r ∧ RBox w' r (insL noneF zs) ∧ Below w.heap.size w w' := by
  rcases h with ⟨rfl, rfl⟩ | ⟨x, cap, rfl, hle, hmax, hc⟩
  · exact rOf_nil w
  · exact rOf_row x _ cap zs w rfl hmax hle hc
end Go.Proofs.YthmngibmpkgjkaaDoor
