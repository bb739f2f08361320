/- Rows one behind the other; all things of a queue in a row of their own. -/
import Derived.Test.YtgcchmenadgboaaFAI
namespace Go.Proofs.Ytgcchmenadgboaa
open Go.RowKit
set_option linter.unusedVariables false
set_option linter.unusedSimpArgs false
attribute [local go_sem ↓] Go.wp_at_zero Go.wp_at_succ

theorem infoTI : (Try.prog.info? 3).map (fun i => (i.zero, i.size, i.bytes)) = some (some (.int .i64 0), 1, 8) := by kernel_rfl
theorem grow_zeroI (w : World) : Calls Try.prog 34 #[.slice none 0 0, .int .i64 0] w fun e w' => e = .returned (.slice none 0 0) ∧ w' = w :=
  Any8.slices_Grow_room Try.growI none 0 0 0 w (by omega) (by omega) (by omega) (by omega)
def GrownToI (n : Nat) (w : World) (e : Ending) (w' : World) : Prop := ∃ cap, e = .returned (.slice (some ⟨w.heap.size, 0, none⟩) 0 cap) ∧ n ≤ cap ∧ cap ≤ 9223372036854775807 ∧ w'.ownsRow w.heap.size 3 1 (.slice (some ⟨w.heap.size, 0, none⟩) 0 cap) 0 [] ∧ Below w.heap.size w w'
theorem grow_someI (w : World) (n : Nat) (h0 : 0 < n) (h1 : n ≤ 4000000) : Calls Try.prog 34 #[.slice none 0 0, .int .i64 (n : Int)] w (GrownToI n w) := by
  obtain ⟨i0, hi, hz0, hz1, hz2⟩ := info_parts infoTI
  refine (Any8.slices_Grow_grow Try.growI i0 _ hi hz0 (by omega) none 0 0 n [] w (Nat.le_refl _) (by omega) (by rw [hz2]; omega) (by omega) (by simp) (fun _ => rfl) (fun a h => by cases h)).mono ?_
  rintro e w' ⟨rfl, rfl⟩
  have e25 : Try.growI_ren.t 25 = 3 := rfl
  have hg := grownCap_ge w (0 + n) 0 3
  have hm := grownCap_le_maxLen w (0 + n) 0 3 (by unfold maxLen; omega)
  refine ⟨grownCap w (0 + n) 0 3, rfl, by omega, by unfold maxLen at hm; omega, ?_, ?_⟩
  · refine World.ownsRow_made w.drew _ _ (Nat.le_refl _) hm ?_
    rw [Nat.zero_add] at hg
    simp [Builtin.zeroCells, Value.cells, e25]
    omega
  · exact Below.trans (below_drew w) (show Below w.drew.heap.size w.drew _ from (Below.refl _ _).alloc (Nat.le_refl _) _)
/-- Things that lie in a row. -/
def RowAI (w : World) (a : Addr) (xs : List Int) : Prop := ∀ (i : Nat) (x : Int), xs[i]? = some x → w.cell? (a.add i) = some (.int .i64 x)
theorem RowAI.later {w w' : World} {a : Addr} {xs : List Int} (h : RowAI w a xs) (hb : Below w.heap.size w w') : RowAI w' a xs := by
  intro i x hx
  have h0 := h i x hx
  exact (hb.cell (p := a.add i) (World.block_lt_of_cell? w _ h0)).trans h0
theorem RowAI.cells {w : World} {a : Addr} {xs : List Int} (h : RowAI w a xs) : ∀ (j : Nat) (u : Value), (clI xs)[j]? = some u → w.cell? (a.add j) = some u := by
  intro j u hu
  obtain ⟨x, hx, rfl⟩ := cl_get'I hu
  exact h j x hx
def RowPI (w : World) (B n : Nat) (xs : List Int) (e : Ending) (w' : World) : Prop := ∃ v, e = .returned v ∧ w'.ownsRow B 3 1 v n (clI xs) ∧ Below w.heap.size w w'
def TwoI (W0 : World) (t : Nat) (A1 A2 : Option Addr) (p q c1 c2 : Nat) (W : World) : Prop := W.cell? ⟨t, 0, none⟩ = some (.slice A1 p c1) ∧ W.cell? ⟨t, 1, none⟩ = some (.slice A2 q c2) ∧ Below W0.heap.size W0 W
theorem TwoI.step {W0 W W' : World} {t : Nat} {A1 A2 : Option Addr} {p q c1 c2 : Nat} (h : TwoI W0 t A1 A2 p q c1 c2 W) (hb : Below W.heap.size W W') : TwoI W0 t A1 A2 p q c1 c2 W' :=
  ⟨(hb.cell (p := ⟨t, 0, none⟩) (World.block_lt_of_cell? W _ h.1)).trans h.1, (hb.cell (p := ⟨t, 1, none⟩) (World.block_lt_of_cell? W ⟨t, 1, none⟩ h.2.1)).trans h.2.1, h.2.2.trans (hb.mono h.2.2.size)⟩
theorem TwoI.own {W0 W W' : World} {t n : Nat} {A1 A2 : Option Addr} {p q c1 c2 : Nat} {e : TypeId} {u : Value} {zs : List Value} (h : TwoI W0 t A1 A2 p q c1 c2 W) (ht : t < W0.heap.size) (hg : W.grownBy W' u.ownBlock) (hr : W.ownsRow W0.heap.size e 1 u n zs) : TwoI W0 t A1 A2 p q c1 c2 W' := by
  have B : Below W0.heap.size W0 W' := h.2.2.grown hg h.2.2.size (fun k e => (hr.lt k e).1)
  exact ⟨((B.cell (p := ⟨t, 0, none⟩) ht).trans (h.2.2.cell (p := ⟨t, 0, none⟩) ht).symm).trans h.1, ((B.cell (p := ⟨t, 1, none⟩) ht).trans (h.2.2.cell (p := ⟨t, 1, none⟩) ht).symm).trans h.2.1, B⟩
set_option maxRecDepth 100000 in
set_option maxHeartbeats 4000000 in
/-- Of rows that lie somewhere. -/
theorem concat_someI (w : World) {t p q c1 c2 : Nat} {a1 a2 : Addr} {xs ys : List Int} (h1 : w.cell? ⟨t, 0, none⟩ = some (.slice (some a1) p c1)) (h2 : w.cell? ⟨t, 1, none⟩ = some (.slice (some a2) q c2)) (hx : RowAI w a1 xs) (hy : RowAI w a2 ys) (hp : xs.length = p) (hq : ys.length = q) (hn : p + q ≤ 2000000) (h0 : 0 < p + q) :
    Calls Try.prog 35 #[.slice (some ⟨t, 0, none⟩) 2 2] w (RowPI w w.heap.size (p + q) (xs ++ ys)) := by
  obtain ⟨i0, hi, hz0, hz1, hz2⟩ := info_parts infoTI
  obtain ⟨n, hpq⟩ : ∃ n, p + q = n := ⟨_, rfl⟩
  have hpqI : (p : Int) + (q : Int) = (n : Int) := by omega
  have TL := Lib.hid (World.block_lt_of_cell? w ⟨t, 0, none⟩ h1)
  have T0 := Lib.hid (show TwoI w t (some a1) (some a2) p q c1 c2 w from ⟨h1, h2, Below.refl _ _⟩)
  have HX := Lib.hid hx
  have HY := Lib.hid hy
  have G := Lib.hid (grow_someI w n (by omega) (by omega))
  have HP := Lib.hid hp
  have HQ := Lib.hid hq
  have HPQ := Lib.hid hpq
  have hn2 : n ≤ 2000000 := by omega
  have hp2 : p ≤ 2000000 := by omega
  have hq2 : q ≤ 2000000 := by omega
  clear hx hy hp hq h0 hn
  rw [hpq]
  clear hpq
  go_enter Try.func35, Try.ntmps35
  go_wp2
  go_loopw [3, 11] (fun s i wr => wr = w ∧ ((i = .int .i64 0 ∧ s = .int .i64 0) ∨ (i = .int .i64 1 ∧ s = .int .i64 (p : Int)) ∨ (i = .int .i64 2 ∧ s = .int .i64 (n : Int)))) (fun s i _ => 2 - (intOf i).toNat)
  case atStart => exact ⟨rfl, .inl ⟨rfl, rfl⟩⟩
  case round =>
    obtain ⟨hwr, hr⟩ := hrel
    obtain rfl : w = wr := hwr.symm
    rcases hr with ⟨rfl, rfl⟩ | ⟨rfl, rfl⟩ | ⟨rfl, rfl⟩
    · go_wp2
      go_roundw
      case rel => first | exact ⟨rfl, .inr (.inl ⟨rfl, by simp⟩)⟩ | (simp; done)
      case measure => simp [intOf]
    · go_wp2
      go_roundw
      case rel => first | exact ⟨rfl, .inr (.inr ⟨rfl, by simp⟩)⟩ | (simp; done) | trace_state
      case measure => simp [intOf]
    · clear h1 h2
      go_wp2_with (go_at_call 34; (with_reducible refine G.out.mono ?_); rintro e w1 ⟨cap, rfl, hcap, hcap2, hown, hB1⟩)
      have T1 := Lib.hid (T0.out.step hB1)
      have O1 := Lib.hid hown
      generalize hbase : w.heap.size = base at *
      have hbs : base ≤ w1.heap.size := by have := hB1.size; omega
      clear hown hB1 G
      go_loopw [6, 27] (fun v i wr => Hid (TwoI w t (some a1) (some a2) p q c1 c2 wr) ∧ Hid (base ≤ wr.heap.size) ∧ ((i = .int .i64 0 ∧ Hid (wr.ownsRow base 3 1 v 0 [])) ∨ (i = .int .i64 1 ∧ Hid (wr.ownsRow base 3 1 v p (clI xs))) ∨ (i = .int .i64 2 ∧ Hid (wr.ownsRow base 3 1 v n (clI xs ++ clI ys))))) (fun v i _ => 2 - (intOf i).toNat)
      case atStart => exact ⟨T1, Lib.hid hbs, .inl ⟨rfl, O1⟩⟩
      case round =>
        obtain ⟨hT, hb, hr⟩ := hrel
        clear T1 O1
        have x1 := hT.out.1
        have x2 := hT.out.2.1
        have hX := Lib.hid ((HX.out.later hT.out.2.2).cells)
        have hY := Lib.hid ((HY.out.later hT.out.2.2).cells)
        rcases hr with ⟨rfl, hO⟩ | ⟨rfl, hO⟩ | ⟨rfl, hO⟩
        · go_wp2_with (at_builtin; refine wpList_append_own _ rfl _ _ 22 rfl base 3 i0 _ 1 8 Try.underlying22 hi hz0 hz1 hz2 rfl (by decide) u6 0 [] rfl hO.out a1 p c1 (clI xs) rfl (by rw [cl_lenI, HP.out, Nat.mul_one]) hX.out (cl_oneI xs) (by unfold maxLen; omega) (by omega) hb.out ?_; intro v' w2 hown' hgrow hnil')
          have hT2 := hT.out.own (by rw [hbase]; exact TL.out) hgrow (by rw [hbase]; exact hO.out)
          go_roundw
          case rel => exact ⟨Lib.hid hT2, Lib.hid (by have := hT2.2.2.size; omega), .inr (.inl ⟨rfl, Lib.hid (by simpa using hown')⟩)⟩
          case measure => simp [intOf]
        · go_wp2_with (at_builtin; refine wpList_append_own _ rfl _ _ 22 rfl base 3 i0 _ 1 8 Try.underlying22 hi hz0 hz1 hz2 rfl (by decide) u6 p (clI xs) rfl hO.out a2 q c2 (clI ys) rfl (by rw [cl_lenI, HQ.out, Nat.mul_one]) hY.out (cl_oneI ys) (by unfold maxLen; omega) (by omega) hb.out ?_; intro v' w2 hown' hgrow hnil')
          have hT2 := hT.out.own (by rw [hbase]; exact TL.out) hgrow (by rw [hbase]; exact hO.out)
          go_roundw
          case rel => exact ⟨Lib.hid hT2, Lib.hid (by have := hT2.2.2.size; omega), .inr (.inr ⟨rfl, Lib.hid (by rw [HPQ.out] at hown'; exact hown')⟩)⟩
          case measure => simp [intOf]
        · go_wp2
          go_ret
          exact ⟨_, rfl, by rw [cl_appI]; exact hO.out, hT.out.2.2⟩
theorem run_append_zeroI (w : World) (ty : TypeId) (A : Option Addr) (c : Nat) : (Builtin.append_ #[22, 22] ty #[.slice none 0 0, .slice A 0 c]).run Try.prog w = .ok (.slice none 0 0) w := by
  obtain ⟨i0, hi, hz0, hz1, hz2⟩ := info_parts infoTI
  cases A <;> simp [Builtin.append_, run_underlying (P := Try.prog) Try.underlying22, sizeOf, typeInfo, hi, Builtin.lenOf, Builtin.firstCells, loadCells, loadCellsFrom]
theorem wpList_app0I (w : World) {ops : Array Oper} {rest : List Oper} {o : Oper} {a : Act} {Q : Exit → Act → World → Prop} (hg : o.guard = none) (s x : Operand)
    (hop : o.op = Op.call { callee := Callee.builtin Builtin.append, args := #[s, x], argTypes := #[22, 22] }) (A : Option Addr) (c : Nat) (hs : a.eval s = .slice none 0 0) (hx : a.eval x = .slice A 0 c)
    (hK : wpList Try.prog ops Q rest (a.put o.dst (.slice none 0 0)) w) : wpList Try.prog ops Q (o :: rest) a w := by
  refine wpList_plain hg fun K hK' => ?_
  have hrun := run_append_zeroI w o.type A c
  unfold Oper.wp
  simp [execOp, hop, resolve, invoke, builtin, hs, hx, hrun, Result.andThen]
  exact hK' _ _ hK
set_option maxRecDepth 100000 in
set_option maxHeartbeats 4000000 in
/-- Of none. -/
theorem concat_noneI (w : World) {t c1 c2 : Nat} {A1 A2 : Option Addr} (h1 : w.cell? ⟨t, 0, none⟩ = some (.slice A1 0 c1)) (h2 : w.cell? ⟨t, 1, none⟩ = some (.slice A2 0 c2)) :
    Calls Try.prog 35 #[.slice (some ⟨t, 0, none⟩) 2 2] w (RowPI w w.heap.size 0 []) := by
  have G := Lib.hid (grow_zeroI w)
  have RZ := fun ty A c => run_append_zeroI w ty A c
  go_enter Try.func35, Try.ntmps35
  go_wp2
  go_loopw [3, 11] (fun s i wr => wr = w ∧ ((i = .int .i64 0 ∧ s = .int .i64 0) ∨ (i = .int .i64 1 ∧ s = .int .i64 0) ∨ (i = .int .i64 2 ∧ s = .int .i64 0))) (fun s i _ => 2 - (intOf i).toNat)
  case atStart => exact ⟨rfl, .inl ⟨rfl, rfl⟩⟩
  case round =>
    obtain ⟨hwr, hr⟩ := hrel
    obtain rfl : w = wr := hwr.symm
    rcases hr with ⟨rfl, rfl⟩ | ⟨rfl, rfl⟩ | ⟨rfl, rfl⟩
    · go_wp2
      go_roundw
      case rel => first | exact ⟨rfl, .inr (.inl ⟨rfl, by simp⟩)⟩ | (simp; done)
      case measure => simp [intOf]
    · go_wp2
      go_roundw
      case rel => first | exact ⟨rfl, .inr (.inr ⟨rfl, by simp⟩)⟩ | (simp; done)
      case measure => simp [intOf]
    · go_wp2_with (go_at_call 34; (with_reducible refine G.out.mono ?_); rintro e w1 ⟨rfl, rfl⟩)
      go_loopw [6, 27] (fun v i wr => wr = w1 ∧ v = .slice none 0 0 ∧ ((i = .int .i64 0) ∨ (i = .int .i64 1) ∨ (i = .int .i64 2))) (fun v i _ => 2 - (intOf i).toNat)
      case atStart => exact ⟨rfl, rfl, .inl rfl⟩
      case round =>
        obtain ⟨hwr, rfl, hr⟩ := hrel
        obtain rfl : w1 = wr := hwr.symm
        rcases hr with rfl | rfl | rfl
        · go_wp2_with (at_builtin; refine wpList_app0I _ rfl _ _ rfl A1 c1 rfl rfl ?_)
          go_roundw
          case rel => first | exact ⟨rfl, rfl, .inr (.inl rfl)⟩ | (simp; done)
          case measure => simp [intOf]
        · go_wp2_with (at_builtin; refine wpList_app0I _ rfl _ _ rfl A2 c2 rfl rfl ?_)
          go_roundw
          case rel => first | exact ⟨rfl, rfl, .inr (.inr rfl)⟩ | (simp; done)
          case measure => simp [intOf]
        · go_wp2
          go_ret
          exact ⟨_, rfl, World.ownsRow_nil _ _ _ _, Below.refl _ _⟩
end Go.Proofs.Ytgcchmenadgboaa
