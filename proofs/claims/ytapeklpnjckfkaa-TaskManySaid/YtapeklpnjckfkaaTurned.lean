/- The law's turned. -/
import Derived.Test.YtapeklpnjckfkaaChecks
namespace Go.Proofs.Ytapeklpnjckfkaa
open Go.RowKit
set_option linter.unusedVariables false
set_option linter.unusedSimpArgs false

theorem tsCells_at : ∀ (ts : List Ts) (j : Nat) (u : Value), (tsCells ts)[j]? = some u → ∃ x, ts[j / 7]? = some x ∧ (tsL x)[j % 7]? = some u
  | [], j, u, h => by simp [tsCells] at h
  | a :: r, j, u, h => by
    rw [tsCells, List.flatMap_cons] at h
    by_cases hj : j < 7
    · rw [List.getElem?_append_left (by simp [tsL]; omega)] at h
      rw [show j / 7 = 0 by omega, show j % 7 = j by omega]
      exact ⟨a, rfl, h⟩
    · rw [List.getElem?_append_right (by simp [tsL]; omega)] at h
      obtain ⟨x, h1, h2⟩ := tsCells_at r (j - (tsL a).length) u h
      have hl : (tsL a).length = 7 := rfl
      rw [hl] at h1 h2
      rw [show j / 7 = (j - 7) / 7 + 1 by omega, show j % 7 = (j - 7) % 7 by omega]
      exact ⟨x, by simpa using h1, h2⟩
theorem tsCells_length (ts : List Ts) : (tsCells ts).length = ts.length * 7 := by
  induction ts with
  | nil => rfl
  | cons a r ih =>
    have hl : (tsL a).length = 7 := rfl
    rw [tsCells, List.flatMap_cons, List.length_append, hl]
    rw [tsCells] at ih
    rw [ih, List.length_cons]
    omega
theorem tsCells_one (ts : List Ts) : ∀ u ∈ tsCells ts, u.oneCell' = true := by
  intro u hu
  obtain ⟨x, _, hx⟩ := List.mem_flatMap.1 hu
  exact tsL_one x u hx
theorem Row.news {w : World} {b o cap : Nat} {l : List Ts} (h : Row w (some ⟨b, o, none⟩) cap l) : ∀ j u, (tsCells l)[j]? = some u → w.cell? ((⟨b, o, none⟩ : Addr).add j) = some u := by
  intro j u hj
  obtain ⟨x, hx, hu⟩ := tsCells_at l j u hj
  have := (h.at2 hx).r _ _ hu
  rw [add_none]
  rwa [show o + j / 7 * 7 + j % 7 = o + j by omega] at this
theorem OwnT.setF {B : Nat} {w : World} {g cap : Nat} {ts : List Ts} (h : OwnT B w g cap ts) {k : Nat} {x : Ts} (hx : ts[k]? = some x) (x' : Ts) (j : Nat) (hj7 : j < 7) (v : Value) (ht : tsL x' = (tsL x).set j v) (hw : TsW x') :
    OwnT B (w.setCell ⟨g, k * 7 + j, none⟩ v) g cap (ts.set k x') := by
  have hkl : k < ts.length := (List.getElem?_eq_some_iff.1 hx).1
  refine ⟨h.hB, by simp; exact h.lt, fun i => by simp [h.fz], by rw [List.length_set]; exact h.le, h.mx, fun y hy => ?_, fun i y hy => ⟨fun q u hu => ?_⟩⟩
  · rcases List.mem_or_eq_of_mem_set hy with hy | rfl
    · exact h.wf y hy
    · exact hw
  · have hq : q < 7 := by
      rcases Nat.lt_or_ge q 7 with h | h
      · exact h
      · rw [List.getElem?_eq_none (by simp [tsL]; omega)] at hu; cases hu
    by_cases hik : k = i
    · subst hik
      rw [List.getElem?_set_self hkl] at hy
      obtain rfl : x' = y := by simpa using hy
      have hc := (h.at_ k x hx).r
      rw [ht] at hu
      have hl : (tsL x).length = 7 := rfl
      by_cases hjq : j = q
      · subst hjq
        rw [List.getElem?_set_self (by omega)] at hu
        obtain rfl : v = u := by simpa using hu
        exact World.cell?_setCell_same _ _ _ (hc j (tsL x)[j] (List.getElem?_eq_getElem (by omega)))
      · rw [List.getElem?_set_ne hjq] at hu
        rw [World.cell?_setCell_other _ _ _ _ (by intro e; have := congrArg Addr.off e; simp only at this; omega)]
        exact hc q u hu
    · rw [List.getElem?_set_ne hik] at hy
      rw [World.cell?_setCell_other _ _ _ _ (by intro e; have := congrArg Addr.off e; simp only at this; omega)]
      exact (h.at_ i y hy).r q u hu

def TurnPost (m : Nat) (w : World) (e : Ending) (w' : World) : Prop := ∃ A cap ts, e = .returned (.slice A m cap) ∧ Row w' A cap ts ∧ ts.length = m ∧ Below w.heap.size w w'

set_option maxRecDepth 100000 in
set_option maxHeartbeats 8000000 in
theorem turned_any (A : Option Addr) (cap : Nat) (l : List Ts) (m : Nat) (hm : l.length = m) (a how n : Int) (w : World) (hR : Row w A cap l) (h1 : 1 ≤ m) (h8 : m ≤ 8) (ha : in64 a) (hh : in64 how) (hn : in64 n) :
    Calls Try.prog 11 #[.slice A m cap, .int .i64 a, .int .i64 how, .int .i64 n] w (TurnPost m w) := by
  obtain ⟨i0, hi, hz0, hz1, hz2⟩ := info_parts infoTs
  have hle := hR.le
  have hmx := hR.mx
  obtain ⟨b, o, x0, rfl, hx0, hw0, hbl, hT0⟩ := hR.get (k := 0) (by omega)
  rw [hm] at hle
  have R1 := fun w => rest_any a m w ha (by omega) (by omega)
  have R2 := fun w => rest_any how 7 w hh (by omega) (by omega)
  obtain ⟨b1, b2⟩ := restI_bd a m (by omega) (by omega)
  obtain ⟨b3, b4⟩ := restI_bd how 7 (by omega) (by omega)
  obtain ⟨k, hk⟩ : ∃ k : Nat, restI a m = (k : Int) := ⟨(restI a m).toNat, by omega⟩
  rw [hk] at R1 b1 b2
  generalize restI how 7 = h at *
  have R1 := Lib.hid R1
  have R2 := Lib.hid R2
  have HN := Lib.hid hn
  obtain ⟨n1, n2⟩ := hn
  have ROW := Lib.hid hR
  have HM := Lib.hid hm
  have HX0 := Lib.hid hx0
  have hown0 := Lib.hid (World.ownsRow_made (base := w.heap.size) (e := 33) (size := 7) w #[] 0 (Nat.le_refl _) (by unfold maxLen; omega) (by simp))
  have hnews := Lib.hid ((hR.later ((Below.refl w.heap.size w).alloc (Nat.le_refl _) (.cells #[] 33))).news)
  clear hR hx0 hw0 hT0 hk hm
  have hk1 : (k : Int) < (m : Int) := b2
  go_enter Try.func11, Try.ntmps11
  go_upto_region 2 with (at_builtin; refine wpList_append_own _ rfl _ _ 22 rfl w.heap.size 33 i0 _ 7 64 Try.underlying22 hi hz0 hz1 hz2 rfl (by decide) _ _ _ rfl hown0.out ⟨b, o, none⟩ m cap (tsCells l) rfl (by rw [tsCells_length, HM.out]) hnews.out (tsCells_one l) (by unfold maxLen; omega) (by omega) (by simp) ?_; intro v' w4 hown' hgrow hnil')
  have hS : SetIn w.heap.size w4 v' m l := ⟨HM.out, ROW.out.wf, by simpa using hown'⟩
  have hB : Below w.heap.size w w4 := ((Below.refl w.heap.size w).alloc (Nat.le_refl _) (.cells #[] 33)).grown hgrow (by simp) (fun q hq => by
    have := hown0.out.lt q hq
    exact this.1)
  obtain ⟨g, cap2, rfl, hO⟩ := hS.own (by omega)
  have hlm : l.length = m := HM.out
  obtain ⟨x, hx⟩ : ∃ x, l[k]? = some x := ⟨l[k], List.getElem?_eq_getElem (by omega)⟩
  have T := hO.at_ k x hx
  have c0 := T.c0
  have c1 := T.c1
  have c2 := T.c2
  have c3 := T.c3
  have c4 := T.c4
  have c5 := T.c5
  have c6 := T.c6
  have z0 : w4.cell? ⟨g, 0, none⟩ = _ := (hO.at_ 0 x0 HX0.out).c0
  have fz := hO.fz
  have hle2 : m ≤ cap2 := by have := hO.le; omega
  have hmx2 := hO.mx
  have hxw := hO.wf x (List.mem_of_getElem? hx)
  have hx0w := hO.wf x0 (List.mem_of_getElem? HX0.out)
  have HO := Lib.hid hO
  have HX := Lib.hid hx
  have HXW := Lib.hid hxw
  have HX0W := Lib.hid hx0w
  have HB := Lib.hid hB
  clear hO hx hxw hx0w hS hown' hgrow hnil' hB hlm T hown0 hnews
  rcases (by omega : h = 0 ∨ h = 1 ∨ h = 2 ∨ h = 3 ∨ h = 4 ∨ h = 5 ∨ h = 6) with rfl | rfl | rfl | rfl | rfl | rfl | rfl
  · go_wp2_with (first
      | (go_at_call 13; (with_reducible refine (R1.out _).mono ?_); rintro e w' ⟨rfl, rfl⟩)
      | (go_at_call 13; (with_reducible refine (R2.out _).mono ?_); rintro e w' ⟨rfl, rfl⟩))
    go_ret
    exact ⟨_, cap2, _, rfl, (HO.out.setF HX.out { x with c := n } 1 (by omega) (.int .i64 n) rfl ⟨HXW.out.n, HN.out, HXW.out.t, HXW.out.d, HXW.out.j, HXW.out.q, HXW.out.p⟩).row, by rw [List.length_set]; exact HM.out, setCell_own HB.out HO.out.hB _⟩
  · go_wp2_with (first
      | (go_at_call 13; (with_reducible refine (R1.out _).mono ?_); rintro e w' ⟨rfl, rfl⟩)
      | (go_at_call 13; (with_reducible refine (R2.out _).mono ?_); rintro e w' ⟨rfl, rfl⟩))
    go_ret
    exact ⟨_, cap2, _, rfl, (HO.out.setF HX.out { x with t := n } 2 (by omega) (.int .i64 n) rfl ⟨HXW.out.n, HXW.out.c, HN.out, HXW.out.d, HXW.out.j, HXW.out.q, HXW.out.p⟩).row, by rw [List.length_set]; exact HM.out, setCell_own HB.out HO.out.hB _⟩
  · go_wp2_with (first
      | (go_at_call 13; (with_reducible refine (R1.out _).mono ?_); rintro e w' ⟨rfl, rfl⟩)
      | (go_at_call 13; (with_reducible refine (R2.out _).mono ?_); rintro e w' ⟨rfl, rfl⟩))
    go_ret
    exact ⟨_, cap2, _, rfl, (HO.out.setF HX.out { x with d := n } 3 (by omega) (.int .i64 n) rfl ⟨HXW.out.n, HXW.out.c, HXW.out.t, HN.out, HXW.out.j, HXW.out.q, HXW.out.p⟩).row, by rw [List.length_set]; exact HM.out, setCell_own HB.out HO.out.hB _⟩
  · go_wp2_with (first
      | (go_at_call 13; (with_reducible refine (R1.out _).mono ?_); rintro e w' ⟨rfl, rfl⟩)
      | (go_at_call 13; (with_reducible refine (R2.out _).mono ?_); rintro e w' ⟨rfl, rfl⟩))
    go_ret
    exact ⟨_, cap2, _, rfl, (HO.out.setF HX.out { x with j := n } 4 (by omega) (.int .i64 n) rfl ⟨HXW.out.n, HXW.out.c, HXW.out.t, HXW.out.d, HN.out, HXW.out.q, HXW.out.p⟩).row, by rw [List.length_set]; exact HM.out, setCell_own HB.out HO.out.hB _⟩
  · go_wp2_with (first
      | (go_at_call 13; (with_reducible refine (R1.out _).mono ?_); rintro e w' ⟨rfl, rfl⟩)
      | (go_at_call 13; (with_reducible refine (R2.out _).mono ?_); rintro e w' ⟨rfl, rfl⟩))
    go_ret
    exact ⟨_, cap2, _, rfl, (HO.out.setF HX.out { x with q := n } 5 (by omega) (.int .i64 n) rfl ⟨HXW.out.n, HXW.out.c, HXW.out.t, HXW.out.d, HXW.out.j, HN.out, HXW.out.p⟩).row, by rw [List.length_set]; exact HM.out, setCell_own HB.out HO.out.hB _⟩
  · go_wp2_with (first
      | (go_at_call 13; (with_reducible refine (R1.out _).mono ?_); rintro e w' ⟨rfl, rfl⟩)
      | (go_at_call 13; (with_reducible refine (R2.out _).mono ?_); rintro e w' ⟨rfl, rfl⟩))
    go_ret
    exact ⟨_, cap2, _, rfl, (HO.out.setF HX.out { x with p := n } 6 (by omega) (.int .i64 n) rfl ⟨HXW.out.n, HXW.out.c, HXW.out.t, HXW.out.d, HXW.out.j, HXW.out.q, HN.out⟩).row, by rw [List.length_set]; exact HM.out, setCell_own HB.out HO.out.hB _⟩
  · go_wp2_with (first
      | (go_at_call 13; (with_reducible refine (R1.out _).mono ?_); rintro e w' ⟨rfl, rfl⟩)
      | (go_at_call 13; (with_reducible refine (R2.out _).mono ?_); rintro e w' ⟨rfl, rfl⟩))
    go_ret
    exact ⟨_, cap2, _, rfl, (HO.out.setF HX.out { x with n := x0.n } 0 (by omega) (.string x0.n) rfl ⟨HX0W.out.n, HXW.out.c, HXW.out.t, HXW.out.d, HXW.out.j, HXW.out.q, HXW.out.p⟩).row, by rw [List.length_set]; exact HM.out, setCell_own HB.out HO.out.hB _⟩
end Go.Proofs.Ytapeklpnjckfkaa
