/- A thing goes up. -/
import Derived.Test.YtebbpgokhelmdaaHBI
namespace Go.Proofs.Ytebbpgokhelmdaa
open Go.RowKit
set_option linter.unusedVariables false
set_option linter.unusedSimpArgs false
attribute [local go_sem ↓] Go.wp_at_zero Go.wp_at_succ

/-- A thing is put at a place. -/
def ptI (w : World) (g i : Nat) (p : Int × Nat) : World := (w.setCell ⟨g, i * 2, none⟩ (.int .i64 p.1)).setCell ⟨g, i * 2 + 1, none⟩ (.int .i64 (p.2 : Int))
section
variable {B : Nat} {w w' : World} {b c : Nat} {v : Value} {l : List (Int × Nat)} {g n cap : Nat}
theorem Kept.storedI {X : List Nat} {a : World} (h : Kept X a w) (g i : Nat) (p : Int × Nat) (hg : g ∈ X) : Kept X a (ptI w g i p) := by
  unfold ptI
  exact (h.set g _ _ hg).set g _ _ hg
theorem HBI.put (h : HBI B w b v c l) (hg : v.ownBlock = some g) {i : Nat} (hi : i < l.length) {p : Int × Nat} (hp : okI p.1) (hc : p.2 < 1000000) : HBI B (ptI w g i p) b v c (l.set i p) := by
  have hne : b ≠ g := fun e => h.ne (by rw [hg, e])
  have hk := Kept.storedI (Kept.refl [g] w) g i p (by simp)
  refine ⟨h.hB, (hk.block b h.lt (by simp; exact hne)).trans h.is, ?_, fun q hq => ?_, fun q hq => ?_, h.lim⟩
  · rw [List.length_set, thC_setI l i p hi]
    have hz : i * 2 + 2 ≤ l.length * 2 := by
      have := Nat.mul_le_mul_right 2 (show i + 1 ≤ l.length from hi)
      omega
    unfold ptI
    exact own_set (own_set h.row hg (by omega) _) hg (by omega) _
  · rcases List.mem_or_eq_of_mem_set hq with hq | rfl
    · exact h.ok q hq
    · exact hp
  · rcases List.mem_or_eq_of_mem_set hq with hq | rfl
    · exact h.few q hq
    · exact hc
theorem HBI.th (h : HBI B w b v c l) (hg : v.ownBlock = some g) {i : Nat} {p : Int × Nat} (hi : l[i]? = some p) (j : Nat) (u : Value) (hu : (thI p)[j]? = some u) : w.cell? ⟨g, i * 2 + j, none⟩ = some u :=
  own_cell h.row hg (thC_getI l i p hi j u hu)
theorem HBI.glt (h : HBI B w b v c l) (hg : v.ownBlock = some g) : B ≤ g ∧ g < w.heap.size := h.row.lt g hg
theorem HBI.gfz (h : HBI B w b v c l) (hg : v.ownBlock = some g) (i : Nat) : w.frozen? ⟨g, i, none⟩ = false := by
  rcases h.row.2 with ⟨rfl, _⟩ | ⟨g', cp, cur, rfl, _, hh, _⟩
  · simp [Value.ownBlock] at hg
  · simp only [Value.ownBlock, Option.some.injEq] at hg
    subst hg
    simp [World.frozen?, hh]
end
/-- Two things, and the function, are kept. -/
structure TwoAtI (w0 : World) (b g i j : Nat) (x y : Int × Nat) (W : World) : Prop where
  f : W.cell? ⟨b, 0, none⟩ = some (.func (.func 19) #[] #[])
  x0 : W.cell? ⟨g, i * 2, none⟩ = some (.int .i64 x.1)
  x1 : W.cell? ⟨g, i * 2 + 1, none⟩ = some (.int .i64 (x.2 : Int))
  y0 : W.cell? ⟨g, j * 2, none⟩ = some (.int .i64 y.1)
  y1 : W.cell? ⟨g, j * 2 + 1, none⟩ = some (.int .i64 (y.2 : Int))
  bel : Below w0.heap.size w0 W
theorem TwoAtI.step {w0 W W' : World} {b g i j : Nat} {x y : Int × Nat} (h : TwoAtI w0 b g i j x y W) (hb : b < w0.heap.size) (hg : g < w0.heap.size) (hB : Below W.heap.size W W') : TwoAtI w0 b g i j x y W' := by
  have hs := h.bel.size
  have k := fun i => hB.cell (p := ⟨g, i, none⟩) (Nat.lt_of_lt_of_le hg hs)
  exact ⟨(hB.cell (p := ⟨b, 0, none⟩) (Nat.lt_of_lt_of_le hb hs)).trans h.f, (k _).trans h.x0, (k _).trans h.x1, (k _).trans h.y0, (k _).trans h.y1, h.bel.trans (hB.mono hs)⟩
theorem HBI.two {B : Nat} {w : World} {b c g i j : Nat} {v : Value} {l : List (Int × Nat)} {x y : Int × Nat} (h : HBI B w b v c l) (hg : v.ownBlock = some g) (hx : l[i]? = some x) (hy : l[j]? = some y) : TwoAtI w b g i j x y w.drew :=
  ⟨h.c0, h.th hg hx 0 _ rfl, h.th hg hx 1 _ rfl, h.th hg hy 0 _ rfl, h.th hg hy 1 _ rfl, below_drew w⟩

def RisePostI (B b c g : Nat) (v : Value) (l : List (Int × Nat)) (w : World) (e : Ending) (w' : World) : Prop := e = .returned (.tuple #[]) ∧ ∃ l', l'.Perm l ∧ Hp keyI l' ∧ HBI B w' b v c l' ∧ Kept [g] w w'
set_option maxRecDepth 100000 in
set_option maxHeartbeats 4000000 in
theorem riseI {B : Nat} {b c g n cap : Nat} {l : List (Int × Nat)} (w : World) (h : HBI B w b (.slice (some ⟨g, 0, none⟩) n cap) c l) (hn : l.length = n) (h1 : 1 ≤ n) (hU : Up keyI l (n - 1)) :
    Calls Try.prog 43 #[.pointer (some ⟨b, 0, none⟩), .slice (some ⟨g, 0, none⟩) n cap] w (RisePostI B b c g (.slice (some ⟨g, 0, none⟩) n cap) l w) := by
  have hlim : n ≤ 9223372036854775807 := by
    obtain ⟨A, cp, hv, hle, hmx⟩ := own_len h.row
    unfold maxLen at hmx
    omega
  have hm1 : ((n - 1 : Nat) : Int) = (n : Int) - 1 := by omega
  have HH := Lib.hid h
  have HU := Lib.hid hU
  have HN := Lib.hid hn
  have HM := Lib.hid hm1
  clear h hU hn hm1
  go_enter Try.func43, Try.ntmps43
  go_wp2
  go_loopw [4] (fun a wr => ∃ (k : Nat) (l' : List (Int × Nat)), k < n ∧ a = .int .i64 k ∧ Hid (l'.Perm l) ∧ Hid (Up keyI l' k) ∧ Hid (HBI B wr b (.slice (some ⟨g, 0, none⟩) n cap) c l') ∧ Hid (Kept [g] w wr)) (fun a _ => (intOf a).toNat)
  case atStart => exact ⟨n - 1, l, by omega, by rw [HM.out], Lib.hid (List.Perm.refl _), HU, HH, Lib.hid (Kept.refl _ _)⟩
  case round =>
    obtain ⟨k, l', hk, rfl, hP, hU, hH, hK⟩ := hrel
    have hln : l'.length = n := by rw [hP.out.length_eq, HN.out]
    by_cases h0 : 0 < k
    · obtain ⟨q, hq⟩ : ∃ q, (k - 1) / 2 = q := ⟨_, rfl⟩
      have hqk : q < k := by omega
      obtain ⟨x, hx⟩ : ∃ x, l'[k]? = some x := ⟨l'[k], List.getElem?_eq_getElem (by omega)⟩
      obtain ⟨y, hy⟩ : ∃ y, l'[q]? = some y := ⟨l'[q], List.getElem?_eq_getElem (by omega)⟩
      have T0 := Lib.hid (hH.out.two rfl hx hy)
      have hqI : ((k : Int) - 1) / 2 = (q : Int) := by omega
      have hqn : q < n := by omega
      have hbl := hH.out.lt
      have hgl := (hH.out.glt rfl).2
      have HX := Lib.hid hx
      have HY := Lib.hid hy
      have HQ := Lib.hid hq
      have HLN := Lib.hid hln
      have ik : (1 : Int) ≤ (k : Int) := by omega
      have ik2 : (k : Int) < (n : Int) := by omega
      have iq : (q : Int) < (n : Int) := by omega
      have iq0 : (0 : Int) ≤ (q : Int) := by omega
      clear hx hy hq hln
      go_upto_region 3 with (fail)
      rw [hqI]
      have F0 := firstI x y wr.drew T0.out.f
      have B0 := Lib.hid (below_drew wr)
      have hz : lexB keyI x y = lxI x y := rfl
      obtain ⟨t, ht⟩ : ∃ t, lexB keyI x y = t := ⟨_, rfl⟩
      rw [← hz, ht] at F0
      have HT := Lib.hid ht
      have F0 := Lib.hid F0
      clear hz ht hqI
      go_region_held3 (fun W => W.cell? ⟨g, k * 2, none⟩ = some (.int .i64 x.1) ∧ W.cell? ⟨g, k * 2 + 1, none⟩ = some (.int .i64 (x.2 : Int)) ∧ W.cell? ⟨g, q * 2, none⟩ = some (.int .i64 y.1) ∧ W.cell? ⟨g, q * 2 + 1, none⟩ = some (.int .i64 (y.2 : Int)))
        (first | assumption | exact ⟨T0.out.x0, T0.out.x1, T0.out.y0, T0.out.y1⟩ | exact ⟨T1.out.x0, T1.out.x1, T1.out.y0, T1.out.y1⟩)
        ((go_at_call 46; (with_reducible refine F0.out.mono ?_); rintro e w' ⟨rfl, hB⟩; have T1 := Lib.hid (T0.out.step hbl hgl hB)))
      have H1 := Lib.hid (hH.out.later T1.out.bel)
      have K1 := Lib.hid (hK.out.later T1.out.bel)
      rcases (Bool.eq_false_or_eq_true t).symm with rfl | rfl
      · go_wp2
        go_end0
        exact ⟨rfl, l', hP.out, hU.out.stop HX.out (by rw [HQ.out]; exact HY.out) HT.out, H1.out, K1.out⟩
      · have x0 := T1.out.x0
        have x1 := T1.out.x1
        have y0 := T1.out.y0
        have y1 := T1.out.y1
        have fx := H1.out.gfz rfl
        have f0 := fx (k * 2)
        have f1 := fx (k * 2 + 1)
        have g0 := fx (q * 2)
        have g1 := fx (q * 2 + 1)
        have d0 : ¬ q * 2 = k * 2 + 1 := by omega
        have d1 : ¬ k * 2 = q * 2 + 1 := by omega
        have d2 : ¬ q * 2 + 1 = k * 2 := by omega
        have d3 : ¬ k * 2 + 1 = q * 2 := by omega
        have e0 : ¬ q = k := by omega
        have e1 : ¬ k = q := by omega
        have U2 : Hid (Up keyI (swp l' k q x y) q) := Lib.hid (by
          have := hU.out.step h0 HX.out (by rw [HQ.out]; exact HY.out) HT.out
          rw [HQ.out] at this
          exact this)
        have P2 := Lib.hid ((swp_perm HX.out HY.out e1).trans hP.out)
        have hxm := List.mem_of_getElem? HX.out
        have hym := List.mem_of_getElem? HY.out
        have H2 := Lib.hid ((H1.out.put rfl (i := k) (p := y) (by rw [HLN.out]; exact hk) (H1.out.ok y hym) (H1.out.few y hym)).put rfl (i := q) (p := x) (by rw [List.length_set, HLN.out]; omega) (H1.out.ok x hxm) (H1.out.few x hxm))
        have K2 := Lib.hid ((K1.out.storedI g k y (by simp)).storedI g q x (by simp))
        clear fx T0 T1 F0 B0 hB hxm hym
        go_upto_region 4 with (fail)
        go_region
        go_wp2
        go_roundw
        case rel => exact ⟨q, swp l' k q x y, by omega, rfl, P2, U2, Lib.hid (H2.out.later (below_drew _)), Lib.hid (K2.out.later (below_drew _))⟩
        case measure => simp [intOf]; omega
    · obtain rfl : k = 0 := by omega
      have hz : decide (((0 : Nat) : Int) > 0) = false := rfl
      go_wp2
      go_end0
      exact ⟨rfl, l', hP.out, hU.out.top, hH.out, hK.out⟩
end Go.Proofs.Ytebbpgokhelmdaa
