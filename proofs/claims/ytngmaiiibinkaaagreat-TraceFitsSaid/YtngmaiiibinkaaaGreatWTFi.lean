/- The law law:TraceFits: its walk. -/
import Derived.Test.YtngmaiiibinkaaaGreatG15
import Derived.Test.YtngmaiiibinkaaaGreatG17
import Derived.Deep.CutRange
import Derived.Test.YtngmaiiibinkaaaGreatG10
namespace Go.Proofs.YtngmaiiibinkaaaGreat
open Go.RowKit
set_option linter.unusedVariables false
set_option linter.unusedSimpArgs false
attribute [local go_sem ↓] Go.wp_at_zero Go.wp_at_succ
theorem sqC_set : ∀ (l : List Sq) (i : Nat) (x y : Sq), l[i]? = some x → ∀ (r : Nat) (u : Value), r < 3 → sqL y = (sqL x).set r u → sqC (l.set i y) = (sqC l).set (i * 3 + r) u
  | [], i, x, y, h, r, u, hr, he => by simp at h
  | a :: l, 0, x, y, h, r, u, hr, he => by
    simp at h
    subst h
    have hl : r < (sqL a).length := by simp [sqL]; omega
    simp only [List.set_cons_zero, sqC, List.flatMap_cons, he, Nat.zero_mul, Nat.zero_add]
    rw [List.set_append, if_pos hl]
  | a :: l, i + 1, x, y, h, r, u, hr, he => by
    simp only [List.getElem?_cons_succ] at h
    have ih := sqC_set l i x y h r u hr he
    have hl : (sqL a).length = 3 := rfl
    simp only [List.set_cons_succ, sqC, List.flatMap_cons] at ih ⊢
    rw [ih, List.set_append, if_neg (by rw [hl]; omega)]
    congr 2
    rw [hl]
    omega
def QW (l : List Sq) : Prop := ∀ x ∈ l, in64 x.j ∧ in64 x.f ∧ in64 x.t
/-- The law's own spans. -/
structure XsS (w0 : World) (v : Value) (l : List Sq) (w : World) : Prop where
  own : w.ownsRow w0.heap.size TSp 3 v l.length (sqC l)
  wf : QW l
  bel : Below w0.heap.size w0 w
section
variable {w0 w w' : World} {v : Value} {l : List Sq} {g m cap i : Nat} {x y : Sq}
theorem XsS.later (h : XsS w0 v l w) (hb : Below w.heap.size w w') : XsS w0 v l w' := ⟨(Kept.of [] hb).row h.own (by simp), h.wf, h.bel.trans (hb.mono h.bel.size)⟩
theorem XsS.set (h : XsS w0 (.slice (some ⟨g, 0, none⟩) m cap) l w) (hx : l[i]? = some x) (r : Nat) (hr : r < 3) (u : Value) (he : sqL y = (sqL x).set r u) (hy : in64 y.j ∧ in64 y.f ∧ in64 y.t) : XsS w0 (.slice (some ⟨g, 0, none⟩) m cap) (l.set i y) (w.setCell ⟨g, i * 3 + r, none⟩ u) := by
  have hil := (List.getElem?_eq_some_iff.1 hx).1
  refine ⟨?_, fun z hz => ?_, h.bel.setCell (p := ⟨g, i * 3 + r, none⟩) (h.own.lt g rfl).1 _⟩
  · rw [List.length_set, sqC_set l i x y hx r u hr he]
    exact own_set h.own rfl (by omega) u
  · rcases List.mem_or_eq_of_mem_set hz with hz | rfl
    · exact h.wf z hz
    · exact hy
theorem XsS.cell (h : XsS w0 (.slice (some ⟨g, 0, none⟩) m cap) l w) (hx : l[i]? = some x) : w.cell? ⟨g, i * 3, none⟩ = some (.int .i64 x.j) ∧ w.cell? ⟨g, i * 3 + 1, none⟩ = some (.int .i64 x.f) ∧ w.cell? ⟨g, i * 3 + 2, none⟩ = some (.int .i64 x.t) :=
  ⟨own_cell h.own rfl (sqC_get l i x hx 0 _ rfl), own_cell h.own rfl (sqC_get l i x hx 1 _ rfl), own_cell h.own rfl (sqC_get l i x hx 2 _ rfl)⟩
theorem XsS.fz (h : XsS w0 (.slice (some ⟨g, 0, none⟩) m cap) l w) (hn : 0 < l.length) (j : Nat) : w.frozen? ⟨g, j, none⟩ = false := by
  obtain ⟨g', c', hv, -, -, -, -, hf⟩ := own_form h.own hn
  simp only [Value.slice.injEq, Option.some.injEq, Addr.mk.injEq, and_true] at hv
  obtain ⟨rfl, -⟩ := hv
  exact hf j
/-- One more span. -/
theorem XsS.push {W1 : World} {v' : Value} (h : XsS w0 v l w) (hb : Below w.heap.size w W1) (hy : in64 y.j ∧ in64 y.f ∧ in64 y.t) (ho : w'.ownsRow w0.heap.size TSp 3 v' (l.length + 1) (sqC l ++ sqL y)) (hg : W1.grownBy w' v.ownBlock) : XsS w0 v' (l ++ [y]) w' := by
  have e : sqC (l ++ [y]) = sqC l ++ sqL y := by simp [sqC]
  refine ⟨by rw [e, List.length_append, List.length_singleton]; exact ho, fun z hz => ?_, (h.bel.trans (hb.mono h.bel.size)).grown hg ?_ (fun q hq => (h.own.lt q hq).1)⟩
  · rcases List.mem_append.1 hz with hz | hz
    · exact h.wf z hz
    · rw [List.mem_singleton.1 hz]; exact hy
  · have := h.bel.size
    have := hb.size
    omega
end
theorem run_append_zero (w : World) (ty : TypeId) {B n c : Nat} {v : Value} {xs : List Value} (hown : w.ownsRow B TSp 3 v n xs) : (Builtin.append_ #[TSl, TSl] ty #[v, .slice none 0 c]).run Tryz.prog w = .ok v w := by
  obtain ⟨i0, hi, hz0, hz1, hz2⟩ := info_parts infoSp
  rcases hown.2 with ⟨rfl, rfl⟩ | ⟨g, cap, cur, rfl, _, _, hnc, _⟩
  · simp [Builtin.append_, run_underlying Tryz.underlying30, sizeOf, typeInfo, hi, Builtin.lenOf, Builtin.firstCells]
  · simp [Builtin.append_, run_underlying Tryz.underlying30, sizeOf, typeInfo, hi, Builtin.lenOf, Builtin.firstCells, hnc, storeCells]
/-- Spans behind a row of the law's own. -/
theorem run_appS {w : World} (ty : TypeId) {B n : Nat} {v : Value} {xs : List Value} {A : Option Addr} {cap m : Nat} {M : List Sq} (hown : w.ownsRow B TSp 3 v n xs) (hA : A = none → m = 0) (hM : M.length = m) (hS : ∀ a, A = some a → ∀ j u, (sqC M)[j]? = some u → w.cell? (a.add j) = some u) (hn : n ≤ 1000000) (hm : m ≤ 1000000) (hB : B ≤ w.heap.size) :
    ∃ v' w', (Builtin.append_ #[TSl, TSl] ty #[v, .slice A m cap]).run Tryz.prog w = .ok v' w' ∧ w'.ownsRow B TSp 3 v' (n + m) (xs ++ sqC M) ∧ w.grownBy w' v.ownBlock := by
  obtain ⟨i0, hi, hz0, hz1, hz2⟩ := info_parts infoSp
  cases A with
  | none =>
    have h0 := hA rfl
    subst h0
    obtain rfl : M = [] := List.eq_nil_of_length_eq_zero hM
    exact ⟨v, w, run_append_zero w ty hown, by simpa [sqC] using hown, ⟨rfl, rfl, rfl, Nat.le_refl _, fun _ _ _ => rfl⟩⟩
  | some a =>
    obtain ⟨v', w', h1, h2, h3, -⟩ := run_append_own (P := Tryz.prog) w B TSl ty TSp i0 _ 3 24 Tryz.underlying30 hi hz0 hz1 hz2 rfl (by omega) v n xs hown a m cap (sqC M) (by rw [sqC_len, hM]) (hS a rfl) (sqC_one M) (by unfold maxLen; omega) (by omega) hB
    exact ⟨v', w', h1, h2, h3⟩
theorem wpList_append_run {ops : Array Oper} {rest : List Oper} {o : Oper} {a : Act} {Q : Exit → Act → World → Prop} {w w' : World} {v u v' : Value} (hgd : o.guard = none) (s x : Operand) (ho : o.op = Op.call { callee := Callee.builtin Builtin.append, args := #[s, x], argTypes := #[TSl, TSl] })
    (hv : a.eval s = v) (hx : a.eval x = u) (hrun : ∀ ty, (Builtin.append_ #[TSl, TSl] ty #[v, u]).run Tryz.prog w = .ok v' w') (hK : wpList Tryz.prog ops Q rest (a.put o.dst v') w') : wpList Tryz.prog ops Q (o :: rest) a w := by
  refine wpList_plain hgd fun K hK' => ?_
  unfold Oper.wp
  simp [execOp, ho, resolve, invoke, builtin, hv, hx, hrun, Result.andThen]
  exact hK' _ _ hK
theorem step_append_run {ops : Array Oper} {o : Oper} {a : Act} {w w' : World} {K : Act → World → Prop} {Q : Exit → Act → World → Prop} {E : Prop} {v u v' : Value} (hgd : o.guard = none) (s x : Operand) (ho : o.op = Op.call { callee := Callee.builtin Builtin.append, args := #[s, x], argTypes := #[TSl, TSl] })
    (hv : a.eval s = v) (hx : a.eval x = u) (hrun : ∀ ty, (Builtin.append_ #[TSl, TSl] ty #[v, u]).run Tryz.prog w = .ok v' w') (hK : K (a.put o.dst v') w') : if Region.wanted o (yielded ops a.tmps) = true then Oper.wp Tryz.prog o a w K Q else E := by
  have hw : Region.wanted o (yielded ops a.tmps) = true := by simp [Region.wanted, hgd]
  rw [if_pos hw]
  unfold Oper.wp
  simp [execOp, ho, resolve, invoke, builtin, hv, hx, hrun, Result.andThen]
  exact hK
theorem XsS.sqr {w0 w : World} {A : Option Addr} {k n c : Nat} {l : List Sq} (h : XsS w0 (.slice A k c) l w) (hn : l.length = n) : SqR w A c l := by
  obtain ⟨A', c', hv, hS⟩ := sqr_own h.own h.wf
  simp only [Value.slice.injEq] at hv
  obtain ⟨rfl, -, rfl⟩ := hv
  exact hS
theorem sqr_one (w : World) (y : Sq) (hy : in64 y.j ∧ in64 y.f ∧ in64 y.t) : SqR (w.alloc (.cells #[.int .i64 y.j, .int .i64 y.f, .int .i64 y.t] TSp)) (some ⟨w.heap.size, 0, none⟩) 1 [y] := by
  have h : (w.alloc (.cells #[.int .i64 y.j, .int .i64 y.f, .int .i64 y.t] TSp)).ownsRow w.heap.size TSp 3 (.slice (some ⟨w.heap.size, 0, none⟩) 1 1) [y].length (sqC [y]) := World.ownsRow_lit w _ 1 (Nat.le_refl _) (by unfold maxLen; omega) rfl
  obtain ⟨A', c', hv, hS⟩ := sqr_own h (fun x hx => by rw [List.mem_singleton.1 hx]; exact hy)
  simp only [List.length_singleton, Value.slice.injEq, true_and] at hv
  obtain ⟨rfl, rfl⟩ := hv
  exact hS
theorem in64_wr (n : Int) : in64 (wrap64 n) := by unfold in64 wrap64; omega
theorem take_at {α : Type} {l : List α} {n k : Nat} {x : α} (h : (l.take n)[k]? = some x) : l[k]? = some x := by
  rw [List.getElem?_take] at h
  split at h
  · exact h
  · cases h
theorem sqC_take : ∀ (l : List Sq) (i : Nat), sqC (l.take i) = (sqC l).take (i * 3)
  | [], i => by simp [sqC]
  | a :: l, 0 => by simp [sqC]
  | a :: l, i + 1 => by
    have ih := sqC_take l i
    simp only [sqC, List.take_succ_cons, List.flatMap_cons] at ih ⊢
    rw [ih, List.take_append, List.take_of_length_le (l := sqL a) (by simp [sqL]; omega)]
    congr 2
    simp [sqL]
    omega
theorem sqC_drop : ∀ (l : List Sq) (i : Nat), sqC (l.drop i) = (sqC l).drop (i * 3)
  | [], i => by simp [sqC]
  | a :: l, 0 => by simp [sqC]
  | a :: l, i + 1 => by
    have ih := sqC_drop l i
    simp only [sqC, List.drop_succ_cons, List.flatMap_cons] at ih ⊢
    rw [ih, List.drop_append, List.drop_of_length_le (l := sqL a) (by simp [sqL]; omega), List.nil_append]
    congr 1
    simp [sqL]
    omega
/-- One span left out: behind the first i, written as a slice with no room, what comes behind it. -/
theorem run_cutS {w0 w : World} {g m cap i c : Nat} {a : Addr} {l : List Sq} (h : XsS w0 (.slice (some ⟨g, 0, none⟩) m cap) l w) (hm : l.length = m) (hi : i < m) (hmx : m ≤ 1000) (ha : a = ⟨g, (i + 1) * 3, none⟩ ∨ m - (i + 1) = 0) :
    ∃ v' w', (∀ ty, (Builtin.append_ #[TSl, TSl] ty #[.slice (some ⟨g, 0, none⟩) i i, .slice (some a) (m - (i + 1)) c]).run Tryz.prog w = .ok v' w') ∧ (∃ A c', v' = .slice A (m - 1) c' ∧ SqR w' A c' (l.take i ++ l.drop (i + 1))) ∧ Below w.heap.size w w' := by
  obtain ⟨i0, hi0, hz0, hz1, hz2⟩ := info_parts infoSp
  have hlen : (l.take i ++ l.drop (i + 1)).length = m - 1 := by simp [hm]; omega
  have hwf : QW (l.take i ++ l.drop (i + 1)) := fun x hx => h.wf x ((List.mem_append.1 hx).elim List.mem_of_mem_take List.mem_of_mem_drop)
  have hsq := h.sqr hm
  by_cases hl : m - (i + 1) = 0
  · rw [hl]
    refine ⟨.slice (some ⟨g, 0, none⟩) i i, w, fun ty => ?_, ⟨some ⟨g, 0, none⟩, i, by rw [show m - 1 = i by omega], ?_⟩, Below.refl _ _⟩
    · simp [Builtin.append_, run_underlying Tryz.underlying30, sizeOf, typeInfo, hi0, Builtin.lenOf, Builtin.firstCells, loadCells, loadCellsFrom, storeCells]
    · have e : l.drop (i + 1) = [] := List.drop_of_length_le (by omega)
      rw [e, List.append_nil]
      exact ⟨by simp; omega, by omega, fun x hx => h.wf x (List.mem_of_mem_take hx), fun k x hx => hsq.at_ k x (take_at hx)⟩
  · obtain rfl := ha.resolve_right hl
    have hold : ∀ j u, (sqC (l.take i))[j]? = some u → w.cell? ((⟨g, 0, none⟩ : Addr).add j) = some u := fun j u hu => h.own.cells rfl j u (by rw [sqC_take] at hu; exact take_at hu)
    have hnew : ∀ j u, (sqC (l.drop (i + 1)))[j]? = some u → w.cell? ((⟨g, (i + 1) * 3, none⟩ : Addr).add j) = some u := fun j u hu => by
      rw [sqC_drop, List.getElem?_drop] at hu
      have := h.own.cells rfl _ u hu
      rw [Addr.add_lit] at this ⊢
      rw [Nat.zero_add] at this
      exact this
    obtain ⟨v', w', h1, h2, h3⟩ := run_append_arg_grows (P := Tryz.prog) w TSl 0 TSp i0 _ 3 24 Tryz.underlying30 hi0 hz0 hz1 hz2 rfl (by omega) ⟨g, 0, none⟩ i i (sqC (l.take i)) (by rw [sqC_len, List.length_take, Nat.min_eq_left (by omega)]) hold ⟨g, (i + 1) * 3, none⟩ (m - (i + 1)) c (sqC (l.drop (i + 1))) (by rw [sqC_len, List.length_drop, hm]) hnew (by omega) (by unfold maxLen; omega) (by omega)
    have e : sqC (l.take i) ++ sqC (l.drop (i + 1)) = sqC (l.take i ++ l.drop (i + 1)) := by simp [sqC]
    rw [e, show i + (m - (i + 1)) = (l.take i ++ l.drop (i + 1)).length by omega] at h2
    obtain ⟨A', c', hv, hS⟩ := sqr_own h2 hwf
    rw [hlen] at hv
    exact ⟨v', w', fun ty => by rw [← h1]; rfl, ⟨A', c', hv, hS⟩, (Below.refl _ _).grown h3 (Nat.le_refl _) (fun k e => by cases e)⟩
set_option maxRecDepth 100000 in
set_option maxHeartbeats 16000000 in
theorem tfi_walk (A0 : Option Addr) (cap0 : Nat) (l0 : List Sp) (A1 : Option Addr) (cap1 : Nat) (l1 : List Fv) (x0 x1 : Int) (w : World) (h0 : SRow w A0 cap0 l0) (h1 : FRow w A1 cap1 l1) (i0 : in64 x0) (i1 : in64 x1) :
    Calls Tryz.prog 5 #[.slice A0 l0.length cap0, .slice A1 l1.length cap1, .agg #[.int .i64 x0, .int .i64 x1]] w fun e w' => e = .returned (.bool true) ∧ Below w.heap.size w w' := by
  have AW := Lib.hid (fun W => awake_any W)
  have hle1 := h1.le
  have hmx1 := h1.mx
  have KF0 := fun (W : World) (hb : Below w.heap.size w W) => fewE_row A1 cap1 l1 W (h1.later hb)
  have KS := Lib.hid (fun (W : World) (hb : Below w.heap.size w W) => set_any 4 (by omega) (by omega) A0 cap0 l0 x0 W (h0.later hb) i0)
  have FB0 := fewE_bd l1
  obtain ⟨fs, hfs⟩ : ∃ fs, fewES l1 = fs := ⟨_, rfl⟩
  rw [hfs] at KF0 FB0
  have KF := Lib.hid KF0
  have FB := Lib.hid FB0
  have I0 := Lib.hid i0
  have I1 := Lib.hid i1
  clear h0 h1 i0 i1 hfs KF0 FB0
  go_enter Tryz.func5, Tryz.ntmps5
  go_upto_region 2 with (go_at_call 7; (with_reducible refine (AW.out _).mono ?_); rintro e w1 ⟨rfl, hb1⟩)
  obtain ⟨hq1, hB1⟩ := arr2 hb1
  obtain ⟨k0, k1⟩ := hq1
  have HQ1 : Hid (Q2 w.heap.size x0 x1 w1) := Lib.hid ⟨k0, k1⟩
  have B1 := Lib.hid hB1
  clear hb1 hB1
  go_upto_region 3 with (go_at_call 8; (with_reducible refine (KS.out _ B1.out).mono ?_); rintro e w2 ⟨As, cs, ss, rfl, hRs, hs1, hs5, hsd, hsf, hsp, h2⟩; have RS2 := Lib.hid hRs; have HS1 := Lib.hid hs1; have HS5 := Lib.hid hs5; have HSD := Lib.hid hsd; have HSF := Lib.hid hsf; have HSP := Lib.hid hsp; have B12 := Lib.hid h2; have B2 := Lib.hid (B1.out.trans (h2.mono B1.out.size)); clear hRs hs1 hs5 hsd hsf hsp h2)
  have OK := Lib.hid (set_ok HS1.out (by have := HS5.out; omega) HSD.out HSF.out HSP.out)
  have SM0 := sm_of (M := 4) (n := 8) HS1.out (by have := HS5.out; omega) (by omega) HSD.out HSF.out HSP.out FB.out.1 (by omega) FB.out.2
  clear k0 k1
  have HQ2 := Lib.hid (HQ1.out.step B12.out)
  obtain ⟨js, hjs⟩ : ∃ js, decS ss fs = js := ⟨_, rfl⟩
  rw [hjs] at SM0
  have SM := Lib.hid SM0
  have HJS := Lib.hid hjs
  clear SM0 hjs
  go_upto_region 4 with (first
    | (go_at_call 10; (with_reducible refine (KF.out _ B2.out).mono ?_); rintro e w3 ⟨Ar, cr, rfl, hFR, h3⟩; have KD0 := dec_row _ _ _ _ ss fs _ (RS2.out.later h3) hFR OK.out; rw [HJS.out] at KD0; have KD := Lib.hid KD0; have H3 := Lib.hid h3; have RS3 := Lib.hid (RS2.out.later h3); have B3 := Lib.hid (B2.out.trans (h3.mono B2.out.size)); clear hFR h3 KD0)
    | (go_at_call 9; (with_reducible refine KD.out.mono ?_); rintro e w4 ⟨Aj, cj, gj, rfl, hFJ, hOJ, hXJ, h4⟩; have H24 := Lib.hid (H3.out.trans (h4.mono H3.out.size)); have H34 := Lib.hid h4; have FJ := Lib.hid hFJ; have OJ := Lib.hid hOJ; have XJ := Lib.hid hXJ; have B4 := Lib.hid (B2.out.trans (H24.out.mono B2.out.size)); have RS := Lib.hid (RS2.out.later H24.out); clear hFJ hOJ hXJ h4 KD))
  clear RS2 KF KS AW FB HJS H3
  have HQ4 := Lib.hid (HQ2.out.step H24.out)
  have KR0 := rrun_sm SM.out (by omega) w4 RS.out FJ.out
  have TF0 := trf_sm SM.out (by omega)
  obtain ⟨sp, hsp⟩ : ∃ sp, (tst ss js 9223372036854775807).sp = sp := ⟨_, rfl⟩
  obtain ⟨es, hes⟩ : ∃ es, (tst ss js 9223372036854775807).en = es := ⟨_, rfl⟩
  rw [hsp, hes] at KR0 TF0
  have TF := Lib.hid TF0
  have KF0 := fun (B : Option Addr) (bc : Nat) (l : List Sq) W (hb : Below w4.heap.size w4 W) (hS : SqR W B bc l) => fits_any SM.out (by omega) hsp W (RS.out.later hb) (FJ.out.later hb) hS
  have KG0 := fun (B : Option Addr) (bc : Nat) (l : List Sq) W (hb : Below w4.heap.size w4 W) (hS : SqR W B bc l) => rfits_any SM.out (by omega) hsp W (RS.out.later hb) (FJ.out.later hb) hS
  obtain ⟨n, hn⟩ : ∃ n, js.length = n := ⟨_, rfl⟩
  obtain ⟨t, ht⟩ : ∃ t, ss.length = t := ⟨_, rfl⟩
  obtain ⟨m, hm⟩ : ∃ m, sp.length = m := ⟨_, rfl⟩
  have KN0 := fun (B : Option Addr) (bc m : Nat) W (hb : Below w4.heap.size w4 W) => fits_nil (B := B) (bc := bc) (m := m) W (FJ.out.later hb) hn
  rw [hn, ht] at KF0 KG0 KR0
  unfold GotJ at KR0
  rw [hm] at KR0
  rw [hn, ht]
  have KR := Lib.hid KR0
  have KF := Lib.hid KF0
  have KG := Lib.hid KG0
  have KN := Lib.hid KN0
  have HM := Lib.hid hm
  clear KF0 KG0 KN0 KR0 TF0 hsp hes hn ht HQ1 HQ2
  go_upto_region 5 with (go_at_call 19; (with_reducible refine KR.out.mono ?_); rintro e w5 ⟨A1, c1, B1', d1, D1, rfl, hS, hE, hb5⟩; have HS := Lib.hid hS; have HB5 := Lib.hid hb5; clear hS hE hb5)
  have HQR := Lib.hid (TF.out.row SM.out (by omega) HS.out)
  have hml : (sp.map toQ).length = m := by rw [List.length_map, HM.out]
  have HML := Lib.hid hml
  have hwf : QW (sp.map toQ) := HQR.out.wf
  have HWF := Lib.hid hwf
  have hm40 : m ≤ 40 := by rw [← HM.out]; exact TF.out.few
  have BA := Lib.hid (show Below w5.heap.size w5 (w5.alloc (.cells #[.slice A1 m c1, .slice B1' es.length d1, .slice D1 es.length es.length] TGo)) from (Below.refl _ _).alloc (Nat.le_refl _) _)
  have Z := Lib.hid (cells3 w5 TGo (.slice A1 m c1) (.slice B1' es.length d1) (.slice D1 es.length es.length)).1
  obtain ⟨xb, hxb⟩ : ∃ xb, w5.heap.size = xb := ⟨_, rfl⟩
  obtain ⟨W6, hW6⟩ : ∃ W6, w5.alloc (.cells #[.slice A1 m c1, .slice B1' es.length d1, .slice D1 es.length es.length] TGo) = W6 := ⟨_, rfl⟩
  rw [hW6] at BA
  rw [hW6, hxb] at Z
  rw [hW6, hxb]
  have HB6 := Lib.hid (bel_step HB5.out BA.out)
  have HQ6 := Lib.hid (HQ4.out.step HB6.out)
  have HQR6 := Lib.hid (HQR.out.later BA.out)
  have KF1 := fun W (hb : Below W6.heap.size W6 W) => KF.out A1 c1 (sp.map toQ) W (bel_step HB6.out hb) (HQR6.out.later hb)
  rw [hml, decide_eq_true (rfl : sp.map toQ = sp.map toQ)] at KF1
  have KF1 := Lib.hid KF1
  have sle := HQR6.out.le
  have smx := HQR6.out.mx
  rw [hml] at sle
  have z0 := Z.out
  clear hW6 hxb hml hwf KR HQ4
  go_upto_region 7 with (first
    | (go_at_call 20; (with_reducible refine (KF1.out _ (Below.refl _ _)).mono ?_); rintro e w7 ⟨rfl, h7⟩; have HB7 := Lib.hid h7; have z0 := cells_below h7 _ _ _ z0; clear h7)
    | (go_at_call 20; (with_reducible refine (KN.out _ _ _ _ (bel_step HB6.out HB7.out)).mono ?_); rintro e w8 ⟨rfl, h8⟩; have HB8 := Lib.hid (bel_step HB7.out h8); have z0 := cells_below h8 _ _ _ z0; clear h8))
  have HQR8 := Lib.hid (HQR6.out.later HB8.out)
  have HQ8 := Lib.hid (HQ6.out.step HB8.out)
  have HW8 := Lib.hid (bel_step HB6.out HB8.out)
  have z08 := Lib.hid z0
  clear z0 KF1 KN HB7
  obtain ⟨q, hq⟩ : ∃ q, sp.map toQ = q := ⟨_, rfl⟩
  rw [hq] at KF KG HML HWF HQR8
  clear HQR HQR6 hq
  have BE := Lib.hid (show Below w8.heap.size w8 (w8.alloc (.cells #[] TSp)) from (Below.refl _ _).alloc (Nat.le_refl _) _)
  have HRA := Lib.hid (show ∃ v' w', (∀ ty, (Builtin.append_ #[TSl, TSl] ty #[.slice (some ⟨w8.heap.size, 0, none⟩) 0 0, .slice A1 m c1]).run Tryz.prog (w8.alloc (.cells #[] TSp)) = .ok v' w') ∧ XsS w8 v' q w' from by
    have HO : (w8.alloc (.cells #[] TSp)).ownsRow w8.heap.size TSp 3 (.slice (some ⟨w8.heap.size, 0, none⟩) 0 0) 0 [] := World.ownsRow_lit w8 #[] 0 (Nat.le_refl _) (by unfold maxLen; omega) rfl
    have hq := HQR8.out.later BE.out
    have hA : A1 = none → m = 0 := fun e => by
      subst e
      rcases Nat.eq_zero_or_pos m with h0 | h0
      · exact h0
      · obtain ⟨b, o, x, e, -⟩ := hq.get (k := 0) (by rw [HML.out]; exact h0)
        cases e
    have hS : ∀ a, A1 = some a → ∀ j u, (sqC q)[j]? = some u → (w8.alloc (.cells #[] TSp)).cell? (a.add j) = some u := fun a e => by
      subst e; exact hq.flat
    obtain ⟨v', w', h1, h2, h3⟩ := run_appS (w := w8.alloc (.cells #[] TSp)) 0 (cap := c1) HO hA HML.out hS (by omega) (by omega) (by simp)
    refine ⟨v', w', fun ty => ?_, ?_, HWF.out, BE.out.grown h3 (by simp) (fun k e => by simp [Value.ownBlock] at e; omega)⟩
    · rw [← h1]; rfl
    · rw [HML.out]; simpa using h2)
  obtain ⟨vx, wx, hrun, hX⟩ := HRA.out
  have HRUN := Lib.hid hrun
  have HX := Lib.hid hX
  have z0 := cells_below BE.out _ _ _ z08.out
  clear hrun hX HRA
  have HWX := Lib.hid (bel_step HW8.out HX.out.bel)
  have HQX := Lib.hid (HQ8.out.step HX.out.bel)
  have HW80 := Lib.hid HW8.out
  clear HQ8 HW8 HB8 HB6 HQ6 BA Z
  rcases Nat.eq_zero_or_pos m with hm0 | hmp
  · subst hm0
    obtain rfl : q = [] := List.eq_nil_of_length_eq_zero HML.out
    obtain ⟨A, c, rfl, -⟩ : ∃ A c, vx = .slice A 0 c ∧ True := by
      obtain ⟨A, c, e, -⟩ := own_len HX.out.own
      exact ⟨A, c, e, trivial⟩
    have BO := Lib.hid (show Below wx.heap.size wx (wx.alloc (.cells #[.int .i64 0, .int .i64 0, .int .i64 1] TSp)) from (Below.refl _ _).alloc (Nat.le_refl _) _)
    have K1 := Lib.hid (show Calls Tryz.prog 20 #[.slice As t cs, .slice Aj n cj, .slice (some ⟨wx.heap.size, 0, none⟩) 1 1] (wx.alloc (.cells #[.int .i64 0, .int .i64 0, .int .i64 1] TSp)) (Told (.bool false) (wx.alloc (.cells #[.int .i64 0, .int .i64 0, .int .i64 1] TSp))) from
      KF.out _ 1 [⟨0, 0, 1⟩] _ (bel_step HWX.out BO.out) (sqr_one wx ⟨0, 0, 1⟩ (by simp [in64])))
    go_upto_region 8 with (at_builtin; go_loud (refine wpList_append_run rfl _ _ rfl rfl rfl HRUN.out ?_))
    clear HRUN KF KG HQX HX
    go_wp2_with (go_at_call 20; (with_reducible refine K1.out.mono ?_); rintro e w9 ⟨rfl, h9⟩; have HB9 := Lib.hid h9; clear h9)
    go_ret
    exact ⟨rfl, bel_step B4.out (bel_step HWX.out (bel_step BO.out HB9.out))⟩
  · have hwx := HX.out
    obtain ⟨g, cap, rfl, hgB, hgw, hgc, hgm, hgf⟩ : ∃ g cap, vx = .slice (some ⟨g, 0, none⟩) m cap ∧ w8.heap.size ≤ g ∧ g < wx.heap.size ∧ m ≤ cap ∧ cap ≤ 9223372036854775807 ∧ (∀ i, wx.frozen? ⟨g, i, none⟩ = false) := by
      obtain ⟨g, cap, e, h1, h2, h3, h4, h5⟩ := own_form HX.out.own (by rw [HML.out]; exact hmp)
      rw [HML.out] at e h3
      exact ⟨g, cap, e, h1, h2, h3, by unfold maxLen at h4; omega, h5⟩
    clear hwx
    have KX0 := Lib.hid (fun W => rest_any x0 m W I0.out (by omega) (by omega))
    have hq0 : in64 (x0.tdiv 7) := by
      obtain ⟨h1, h2⟩ := I0.out
      rcases Int.le_total 0 x0 with h | h
      · rw [Int.tdiv_eq_ediv_of_nonneg h]; exact ⟨by omega, by omega⟩
      · obtain ⟨y, rfl⟩ : ∃ y, x0 = -y := ⟨-x0, by omega⟩
        rw [Int.neg_tdiv, Int.tdiv_eq_ediv_of_nonneg (by omega)]; exact ⟨by omega, by omega⟩
    have KX1 := Lib.hid (fun W => rest_any (x0.tdiv 7) m W hq0 (by omega) (by omega))
    have KX2 := Lib.hid (fun W => rest_any x1 6 W I1.out (by omega) (by omega))
    obtain ⟨i, hi, him⟩ : ∃ i : Nat, restI x0 m = (i : Int) ∧ i < m := by
      obtain ⟨h1, h2⟩ := restI_bd x0 m (by omega) (by omega)
      exact ⟨(restI x0 m).toNat, by omega, by omega⟩
    obtain ⟨j, hj, hjm⟩ : ∃ j : Nat, restI (x0.tdiv 7) m = (j : Int) ∧ j < m := by
      obtain ⟨h1, h2⟩ := restI_bd (x0.tdiv 7) m (by omega) (by omega)
      exact ⟨(restI (x0.tdiv 7) m).toNat, by omega, by omega⟩
    have hr := restI_bd x1 6 (by omega) (by omega)
    obtain ⟨r, hrr⟩ : ∃ r, restI x1 6 = r := ⟨_, rfl⟩
    rw [hi] at KX0
    rw [hj] at KX1
    rw [← IntWalk.wrap64_in (x0.tdiv 7) (by obtain ⟨h1, h2⟩ := hq0; omega)] at KX1
    rw [hrr] at KX2 hr
    clear hi hj hrr hq0
    obtain ⟨x, hx⟩ : ∃ x, q[i]? = some x := ⟨_, List.getElem?_eq_getElem (by rw [HML.out]; exact him)⟩
    obtain ⟨y, hy⟩ : ∃ y, q[j]? = some y := ⟨_, List.getElem?_eq_getElem (by rw [HML.out]; exact hjm)⟩
    have hwx := HWF.out x (List.mem_of_getElem? hx)
    have hwy := HWF.out y (List.mem_of_getElem? hy)
    have HXI := Lib.hid hx
    have HYJ := Lib.hid hy
    obtain ⟨s0, s1⟩ := HQX.out
    obtain ⟨c0, c1', c2⟩ := HX.out.cell hx
    obtain ⟨d0, d1', d2⟩ := HX.out.cell hy
    have HWX1 := Lib.hid hwx
    have HWY1 := Lib.hid hwy
    clear hx hy hwx hwy
    go_upto_region 8 with (at_builtin; go_loud (refine wpList_append_run rfl _ _ rfl rfl rfl HRUN.out ?_))
    clear HRUN
    have hm1 : ¬ ((m : Int) = 0) := by omega
    go_upto_region 11 with (go_at_call 18; (with_reducible refine (KX0.out _).mono ?_); rintro e wy ⟨rfl, rfl⟩)
    go_upto_region 12 with (go_at_call 18; (with_reducible refine (KX1.out _).mono ?_); rintro e wy ⟨rfl, rfl⟩)
    go_upto_region 14 with (go_at_call 18; (with_reducible refine (KX2.out _).mono ?_); rintro e wy ⟨rfl, rfl⟩)
    have hi0 : (0 : Int) ≤ (i : Int) := by omega
    have hi1 : (i : Int) < (m : Int) := by omega
    have hj0 : (0 : Int) ≤ (j : Int) := by omega
    have hj1 : (j : Int) < (m : Int) := by omega
    have hin : in64 (i : Int) := ⟨by omega, by omega⟩
    have hjn : in64 (j : Int) := ⟨by omega, by omega⟩
    clear hgB
    obtain rfl | rfl | rfl | rfl | rfl | rfl : r = 0 ∨ r = 1 ∨ r = 2 ∨ r = 3 ∨ r = 4 ∨ r = 5 := by omega
    ·
      have HX1 := Lib.hid (show XsS w8 (.slice (some ⟨g, 0, none⟩) m cap) (q.set i { x with j := (j : Int) }) (wx.setCell ⟨g, i * 3, none⟩ (.int .i64 (j : Int))) from HX.out.set HXI.out 0 (by omega) _ rfl ⟨hjn, HWX1.out.2.1, HWX1.out.2.2⟩)
      have hlen : (q.set i { x with j := (j : Int) }).length = m := by rw [List.length_set, HML.out]
      have HF := Lib.hid (HX1.out.sqr hlen)
      have HBF := Lib.hid (bel_step HW80.out HX1.out.bel)
      obtain ⟨bb, hbb⟩ : ∃ bb, decide (q.set i { x with j := (j : Int) } = q) = bb := ⟨_, rfl⟩
      have K10 := KF.out (some ⟨g, 0, none⟩) cap (q.set i { x with j := (j : Int) }) (wx.setCell ⟨g, i * 3, none⟩ (.int .i64 (j : Int))) HBF.out HF.out
      have K20 := fun W' (hb : Below ((wx.setCell ⟨g, i * 3, none⟩ (.int .i64 (j : Int)))).heap.size (wx.setCell ⟨g, i * 3, none⟩ (.int .i64 (j : Int))) W') => KG.out (some ⟨g, 0, none⟩) cap (q.set i { x with j := (j : Int) }) W' (bel_step HBF.out hb) (HF.out.later hb)
      rw [hlen, hbb] at K10 K20
      have K1 := Lib.hid K10
      have K2 := Lib.hid K20
      clear K10 K20 hbb hlen
      have tb : (bb == bb) = true := by cases bb <;> rfl
      clear KF KG HX HX1 HQX HXI HYJ HWX1 HWY1 KX0 KX1 KX2
      go_wp2_with (first
        | (go_at_call 20; (with_reducible refine K1.out.mono ?_); rintro e w9 ⟨rfl, h9⟩; have HB9 := Lib.hid h9; clear h9)
        | (go_at_call 21; (with_reducible refine (K2.out _ HB9.out).mono ?_); rintro e wa ⟨rfl, ha⟩; have HBA := Lib.hid ha; clear ha))
      go_ret
      exact ⟨rfl, bel_step B4.out (bel_step HBF.out (bel_step HB9.out HBA.out))⟩
    ·
      have HX1 := Lib.hid (show XsS w8 (.slice (some ⟨g, 0, none⟩) m cap) (q.set i { x with t := (wrap64 (x.t + 1)) }) (wx.setCell ⟨g, i * 3 + 2, none⟩ (.int .i64 (wrap64 (x.t + 1)))) from HX.out.set HXI.out 2 (by omega) _ rfl ⟨HWX1.out.1, HWX1.out.2.1, in64_wr _⟩)
      have hlen : (q.set i { x with t := (wrap64 (x.t + 1)) }).length = m := by rw [List.length_set, HML.out]
      have HF := Lib.hid (HX1.out.sqr hlen)
      have HBF := Lib.hid (bel_step HW80.out HX1.out.bel)
      obtain ⟨bb, hbb⟩ : ∃ bb, decide (q.set i { x with t := (wrap64 (x.t + 1)) } = q) = bb := ⟨_, rfl⟩
      have K10 := KF.out (some ⟨g, 0, none⟩) cap (q.set i { x with t := (wrap64 (x.t + 1)) }) (wx.setCell ⟨g, i * 3 + 2, none⟩ (.int .i64 (wrap64 (x.t + 1)))) HBF.out HF.out
      have K20 := fun W' (hb : Below ((wx.setCell ⟨g, i * 3 + 2, none⟩ (.int .i64 (wrap64 (x.t + 1))))).heap.size (wx.setCell ⟨g, i * 3 + 2, none⟩ (.int .i64 (wrap64 (x.t + 1)))) W') => KG.out (some ⟨g, 0, none⟩) cap (q.set i { x with t := (wrap64 (x.t + 1)) }) W' (bel_step HBF.out hb) (HF.out.later hb)
      rw [hlen, hbb] at K10 K20
      have K1 := Lib.hid K10
      have K2 := Lib.hid K20
      clear K10 K20 hbb hlen
      have tb : (bb == bb) = true := by cases bb <;> rfl
      clear KF KG HX HX1 HQX HXI HYJ HWX1 HWY1 KX0 KX1 KX2
      go_wp2_with (first
        | (go_at_call 20; (with_reducible refine K1.out.mono ?_); rintro e w9 ⟨rfl, h9⟩; have HB9 := Lib.hid h9; clear h9)
        | (go_at_call 21; (with_reducible refine (K2.out _ HB9.out).mono ?_); rintro e wa ⟨rfl, ha⟩; have HBA := Lib.hid ha; clear ha))
      go_ret
      exact ⟨rfl, bel_step B4.out (bel_step HBF.out (bel_step HB9.out HBA.out))⟩
    ·
      have HX1 := Lib.hid (show XsS w8 (.slice (some ⟨g, 0, none⟩) m cap) (q.set i { x with f := (wrap64 (x.f - 1)) }) (wx.setCell ⟨g, i * 3 + 1, none⟩ (.int .i64 (wrap64 (x.f - 1)))) from HX.out.set HXI.out 1 (by omega) _ rfl ⟨HWX1.out.1, in64_wr _, HWX1.out.2.2⟩)
      have hlen : (q.set i { x with f := (wrap64 (x.f - 1)) }).length = m := by rw [List.length_set, HML.out]
      have HF := Lib.hid (HX1.out.sqr hlen)
      have HBF := Lib.hid (bel_step HW80.out HX1.out.bel)
      obtain ⟨bb, hbb⟩ : ∃ bb, decide (q.set i { x with f := (wrap64 (x.f - 1)) } = q) = bb := ⟨_, rfl⟩
      have K10 := KF.out (some ⟨g, 0, none⟩) cap (q.set i { x with f := (wrap64 (x.f - 1)) }) (wx.setCell ⟨g, i * 3 + 1, none⟩ (.int .i64 (wrap64 (x.f - 1)))) HBF.out HF.out
      have K20 := fun W' (hb : Below ((wx.setCell ⟨g, i * 3 + 1, none⟩ (.int .i64 (wrap64 (x.f - 1))))).heap.size (wx.setCell ⟨g, i * 3 + 1, none⟩ (.int .i64 (wrap64 (x.f - 1)))) W') => KG.out (some ⟨g, 0, none⟩) cap (q.set i { x with f := (wrap64 (x.f - 1)) }) W' (bel_step HBF.out hb) (HF.out.later hb)
      rw [hlen, hbb] at K10 K20
      have K1 := Lib.hid K10
      have K2 := Lib.hid K20
      clear K10 K20 hbb hlen
      have tb : (bb == bb) = true := by cases bb <;> rfl
      clear KF KG HX HX1 HQX HXI HYJ HWX1 HWY1 KX0 KX1 KX2
      go_wp2_with (first
        | (go_at_call 20; (with_reducible refine K1.out.mono ?_); rintro e w9 ⟨rfl, h9⟩; have HB9 := Lib.hid h9; clear h9)
        | (go_at_call 21; (with_reducible refine (K2.out _ HB9.out).mono ?_); rintro e wa ⟨rfl, ha⟩; have HBA := Lib.hid ha; clear ha))
      go_ret
      exact ⟨rfl, bel_step B4.out (bel_step HBF.out (bel_step HB9.out HBA.out))⟩
    ·
      have hic : i ≤ cap := by omega
      have BD := Lib.hid (show Below wx.heap.size wx wx.drew from ⟨rfl, rfl, rfl, Nat.le_refl _, fun _ _ => rfl⟩)
      have HXD := Lib.hid (HX.out.later BD.out)
      by_cases hcp : cap = i + 1
      · subst hcp
        obtain rfl : m = i + 1 := by omega
        obtain ⟨v1, W1, hr1, ⟨A, c, rfl, hS1⟩, hb1⟩ := run_cutS (a := ⟨g, 0, none⟩) (c := i + 1 - (i + 1)) HXD.out HML.out him (by omega) (.inr (by omega))
        simp only [Nat.add_sub_cancel] at hr1
        have HR1 := Lib.hid hr1
        have HF := Lib.hid hS1
        have HBF := Lib.hid (bel_step (bel_step HWX.out BD.out) hb1)
        have hlen : (q.take i ++ q.drop (i + 1)).length = i := by have := HML.out; simp; omega
        clear hr1 hS1 hb1
        obtain ⟨bb, hbb⟩ : ∃ bb, decide (q.take i ++ q.drop (i + 1) = q) = bb := ⟨_, rfl⟩
        have K10 := KF.out A c (q.take i ++ q.drop (i + 1)) W1 HBF.out HF.out
        have K20 := fun W' (hb : Below (W1).heap.size W1 W') => KG.out A c (q.take i ++ q.drop (i + 1)) W' (bel_step HBF.out hb) (HF.out.later hb)
        rw [hlen, hbb] at K10 K20
        have K1 := Lib.hid K10
        have K2 := Lib.hid K20
        clear K10 K20 hbb hlen
        have tb : (bb == bb) = true := by cases bb <;> rfl
        clear KF KG HX HQX HXI HYJ HWX1 HWY1 KX0 KX1 KX2
        go_upto_region 21 with (fail)
        have t1 : IntKind.i64.wrap ((i : Int) + 1) = (i : Int) + 1 := IntWalk.i64_in _ (by omega)
        have t2 : (i : Int) ≤ (i : Int) + 1 := by omega
        have t3 : (0 : Int) ≤ (i : Int) + 1 := by omega
        have t4 : ((i : Int) + 1).toNat = i + 1 := by omega
        go_region_law (refine step_append_run rfl (.tmp 106) (.tmp 110) rfl (by go_simp) (by go_simp) HR1.out ?_)
        clear HXD HR1 t1 t2 t3 t4
        go_wp2_with (first
          | (go_at_call 20; (with_reducible refine K1.out.mono ?_); rintro e w9 ⟨rfl, h9⟩; have HB9 := Lib.hid h9; clear h9)
          | (go_at_call 21; (with_reducible refine (K2.out _ HB9.out).mono ?_); rintro e wa ⟨rfl, ha⟩; have HBA := Lib.hid ha; clear ha))
        go_ret
        exact ⟨rfl, bel_step B4.out (bel_step HBF.out (bel_step HB9.out HBA.out))⟩
      · obtain ⟨v1, W1, hr1, ⟨A, c, rfl, hS1⟩, hb1⟩ := run_cutS (c := cap - (i + 1)) HXD.out HML.out him (by omega) (.inl rfl)
        have HR1 := Lib.hid hr1
        have HF := Lib.hid hS1
        have HBF := Lib.hid (bel_step (bel_step HWX.out BD.out) hb1)
        have hlen : (q.take i ++ q.drop (i + 1)).length = m - 1 := by have := HML.out; simp; omega
        clear hr1 hS1 hb1
        obtain ⟨bb, hbb⟩ : ∃ bb, decide (q.take i ++ q.drop (i + 1) = q) = bb := ⟨_, rfl⟩
        have K10 := KF.out A c (q.take i ++ q.drop (i + 1)) W1 HBF.out HF.out
        have K20 := fun W' (hb : Below (W1).heap.size W1 W') => KG.out A c (q.take i ++ q.drop (i + 1)) W' (bel_step HBF.out hb) (HF.out.later hb)
        rw [hlen, hbb] at K10 K20
        have K1 := Lib.hid K10
        have K2 := Lib.hid K20
        clear K10 K20 hbb hlen
        have tb : (bb == bb) = true := by cases bb <;> rfl
        clear KF KG HX HQX HXI HYJ HWX1 HWY1 KX0 KX1 KX2
        go_upto_region 21 with (fail)
        have t1 : IntKind.i64.wrap ((i : Int) + 1) = (i : Int) + 1 := IntWalk.i64_in _ (by omega)
        have t2 : (i : Int) + 1 ≤ (m : Int) := by omega
        have t3 : (0 : Int) ≤ (i : Int) + 1 := by omega
        have t4 : ((i : Int) + 1).toNat = i + 1 := by omega
        go_region_law (refine step_append_run rfl (.tmp 106) (.tmp 110) rfl (by go_simp) (by go_simp) HR1.out ?_)
        clear HXD HR1 t1 t2 t3 t4
        go_wp2_with (first
          | (go_at_call 20; (with_reducible refine K1.out.mono ?_); rintro e w9 ⟨rfl, h9⟩; have HB9 := Lib.hid h9; clear h9)
          | (go_at_call 21; (with_reducible refine (K2.out _ HB9.out).mono ?_); rintro e wa ⟨rfl, ha⟩; have HBA := Lib.hid ha; clear ha))
        go_ret
        exact ⟨rfl, bel_step B4.out (bel_step HBF.out (bel_step HB9.out HBA.out))⟩
    ·
      have HX1 := Lib.hid (show XsS w8 (.slice (some ⟨g, 0, none⟩) m cap) (q.set i { x with j := y.j }) (wx.setCell ⟨g, i * 3, none⟩ (.int .i64 y.j)) from HX.out.set HXI.out 0 (by omega) _ rfl ⟨HWY1.out.1, HWX1.out.2.1, HWX1.out.2.2⟩)
      obtain ⟨z, hz⟩ : ∃ z, (q.set i { x with j := y.j })[j]? = some z := ⟨_, List.getElem?_eq_getElem (by rw [List.length_set, HML.out]; exact hjm)⟩
      have hwz := HX1.out.wf z (List.mem_of_getElem? hz)
      obtain ⟨f0, f1, f2⟩ := HX1.out.cell hz
      have hfz := HX1.out.fz (by rw [List.length_set, HML.out]; exact hmp)
      have HX2 := Lib.hid (show XsS w8 (.slice (some ⟨g, 0, none⟩) m cap) ((q.set i { x with j := y.j }).set j { z with j := x.j }) ((wx.setCell ⟨g, i * 3, none⟩ (.int .i64 y.j)).setCell ⟨g, j * 3, none⟩ (.int .i64 x.j)) from HX1.out.set hz 0 (by omega) _ rfl ⟨HWX1.out.1, hwz.2.1, hwz.2.2⟩)
      have hlen : ((q.set i { x with j := y.j }).set j { z with j := x.j }).length = m := by rw [List.length_set, List.length_set, HML.out]
      have HF := Lib.hid (HX2.out.sqr hlen)
      have HBF := Lib.hid (bel_step HW80.out HX2.out.bel)
      clear hz hwz
      obtain ⟨bb, hbb⟩ : ∃ bb, decide ((q.set i { x with j := y.j }).set j { z with j := x.j } = q) = bb := ⟨_, rfl⟩
      have K10 := KF.out (some ⟨g, 0, none⟩) cap ((q.set i { x with j := y.j }).set j { z with j := x.j }) ((wx.setCell ⟨g, i * 3, none⟩ (.int .i64 y.j)).setCell ⟨g, j * 3, none⟩ (.int .i64 x.j)) HBF.out HF.out
      have K20 := fun W' (hb : Below (((wx.setCell ⟨g, i * 3, none⟩ (.int .i64 y.j)).setCell ⟨g, j * 3, none⟩ (.int .i64 x.j))).heap.size ((wx.setCell ⟨g, i * 3, none⟩ (.int .i64 y.j)).setCell ⟨g, j * 3, none⟩ (.int .i64 x.j)) W') => KG.out (some ⟨g, 0, none⟩) cap ((q.set i { x with j := y.j }).set j { z with j := x.j }) W' (bel_step HBF.out hb) (HF.out.later hb)
      rw [hlen, hbb] at K10 K20
      have K1 := Lib.hid K10
      have K2 := Lib.hid K20
      clear K10 K20 hbb hlen
      have tb : (bb == bb) = true := by cases bb <;> rfl
      clear KF KG HX HX1 HX2 HQX HXI HYJ HWX1 HWY1 KX0 KX1 KX2
      go_wp2_with (first
        | (go_at_call 20; (with_reducible refine K1.out.mono ?_); rintro e w9 ⟨rfl, h9⟩; have HB9 := Lib.hid h9; clear h9)
        | (go_at_call 21; (with_reducible refine (K2.out _ HB9.out).mono ?_); rintro e wa ⟨rfl, ha⟩; have HBA := Lib.hid ha; clear ha))
      go_ret
      exact ⟨rfl, bel_step B4.out (bel_step HBF.out (bel_step HB9.out HBA.out))⟩
    ·
      have BO := Lib.hid (show Below wx.heap.size wx (wx.alloc (.cells #[.int .i64 (i : Int), .int .i64 900, .int .i64 901] TSp)) from (Below.refl _ _).alloc (Nat.le_refl _) _)
      have hwy : in64 (⟨i, 900, 901⟩ : Sq).j ∧ in64 (⟨i, 900, 901⟩ : Sq).f ∧ in64 (⟨i, 900, 901⟩ : Sq).t := ⟨hin, by simp [in64], by simp [in64]⟩
      have HY1 := Lib.hid (sqr_one wx ⟨i, 900, 901⟩ hwy)
      have HX1 := Lib.hid (HX.out.later BO.out)
      obtain ⟨v1, W1, hr1, ho1, hg1⟩ := run_appS (w := wx.alloc (.cells #[.int .i64 (i : Int), .int .i64 900, .int .i64 901] TSp)) 0 (A := some ⟨wx.heap.size, 0, none⟩) (cap := 1) (m := 1) (M := [⟨i, 900, 901⟩]) HX1.out.own (fun e => by cases e) rfl (fun a e => by cases e; exact HY1.out.flat) (by rw [HML.out]; omega) (by omega) (by have := HX1.out.bel.size; exact this)
      have hX2 := HX.out.push (y := ⟨i, 900, 901⟩) BO.out hwy (by simpa [sqC] using ho1) hg1
      have hlen : (q ++ [(⟨i, 900, 901⟩ : Sq)]).length = m + 1 := by rw [List.length_append, HML.out]; rfl
      obtain ⟨A, c, rfl, -⟩ : ∃ A c, v1 = .slice A (m + 1) c ∧ True := by
        obtain ⟨A, c, e, -⟩ := own_len hX2.own
        rw [hlen] at e
        exact ⟨A, c, e, trivial⟩
      have HR1 := Lib.hid (show ∀ ty, (Builtin.append_ #[TSl, TSl] ty #[.slice (some ⟨g, 0, none⟩) m cap, .slice (some ⟨wx.heap.size, 0, none⟩) 1 1]).run Tryz.prog (wx.alloc (.cells #[.int .i64 (i : Int), .int .i64 900, .int .i64 901] TSp)) = .ok (.slice A (m + 1) c) W1 from fun ty => by rw [← hr1]; rfl)
      have HF := Lib.hid (hX2.sqr hlen)
      have HBF := Lib.hid (bel_step HW80.out hX2.bel)
      clear hr1 ho1 hg1 hX2 hwy
      obtain ⟨bb, hbb⟩ : ∃ bb, decide (q ++ [(⟨i, 900, 901⟩ : Sq)] = q) = bb := ⟨_, rfl⟩
      have K10 := KF.out A c (q ++ [(⟨i, 900, 901⟩ : Sq)]) W1 HBF.out HF.out
      have K20 := fun W' (hb : Below (W1).heap.size W1 W') => KG.out A c (q ++ [(⟨i, 900, 901⟩ : Sq)]) W' (bel_step HBF.out hb) (HF.out.later hb)
      rw [hlen, hbb] at K10 K20
      have K1 := Lib.hid K10
      have K2 := Lib.hid K20
      clear K10 K20 hbb hlen
      have tb : (bb == bb) = true := by cases bb <;> rfl
      clear KF KG HX HX1 HY1 HQX HXI HYJ HWX1 HWY1 KX0 KX1 KX2
      go_upto_region 26 with (at_builtin; go_loud (refine wpList_append_run rfl _ _ rfl rfl rfl HR1.out ?_))
      go_wp2_with (first
        | (go_at_call 20; (with_reducible refine K1.out.mono ?_); rintro e w9 ⟨rfl, h9⟩; have HB9 := Lib.hid h9; clear h9)
        | (go_at_call 21; (with_reducible refine (K2.out _ HB9.out).mono ?_); rintro e wa ⟨rfl, ha⟩; have HBA := Lib.hid ha; clear ha))
      go_ret
      exact ⟨rfl, bel_step B4.out (bel_step HBF.out (bel_step HB9.out HBA.out))⟩
end Go.Proofs.YtngmaiiibinkaaaGreat
