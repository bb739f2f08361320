/- Texts about the program, one after the other: HCI, HDI, HEI, HFI, HGI, HHI, Grw, FAP, FBP, FCP. -/
import Derived.Test.YtngmaiiibinkaaaGreatG10
import Derived.Shelf.Spec.SlicesGrow
import Derived.Ground.Names8Prog
import Derived.Test.YtngmaiiibinkaaaGreatProg
import Derived.Test.YtngmaiiibinkaaaGreatG7
/- A thing goes up. -/
namespace Go.Proofs.YtngmaiiibinkaaaGreat
open Go.RowKit
set_option linter.unusedVariables false
set_option linter.unusedSimpArgs false
variable {K : LK}
attribute [local go_sem ↓] Go.wp_at_zero Go.wp_at_succ

/-- A thing is put at a place. -/
def ptI (w : World) (g i : Nat) (p : Int × Nat) : World := (w.setCell ⟨g, i * 2, none⟩ (.int .i64 p.1)).setCell ⟨g, i * 2 + 1, none⟩ (.int .i64 (p.2 : Int))
section
variable {B : Nat} {w w' : World} {b c : Nat} {v : Value} {l : List (Int × Nat)} {g n cap : Nat}
theorem Kept.storedI {X : List Nat} {a : World} (h : Kept X a w) (g i : Nat) (p : Int × Nat) (hg : g ∈ X) : Kept X a (ptI w g i p) := by
  unfold ptI
  exact (h.set g _ _ hg).set g _ _ hg
theorem HBI.put (h : HBI K B w b v c l) (hg : v.ownBlock = some g) {i : Nat} (hi : i < l.length) {p : Int × Nat} (hp : okK K p.1) (hc : p.2 < 1000000) : HBI K B (ptI w g i p) b v c (l.set i p) := by
  have hne : b ≠ g := fun e => h.ne (by rw [hg, e])
  have hk := Kept.storedI (Kept.refl [g] w) g i p (by simp)
  refine ⟨h.hB, (hk.block b h.lt (by simp; exact hne)).trans h.is, ?_, fun q hq => ?_, fun q hq => ?_, h.lim, h.less.kept hk (fun k e => h.less.off (by rw [List.mem_singleton.1 e]; exact (h.row.lt g hg).1))⟩
  · rw [List.length_set, thC_setI l i p hi]
    have hz : i * 2 + 2 ≤ l.length * 2 := by
      have := Nat.mul_le_mul_right 2 (show i + 1 ≤ l.length from hi)
      omega
    unfold ptI
    exact own_set (own_set h.row hg (by omega) _) hg (by omega) _
  · rcases List.mem_or_eq_of_mem_set hq with hq | rfl
    · exact h.ok q hq
    · exact hp
  · rcases List.mem_or_eq_of_mem_set hq with hq | rfl
    · exact h.few q hq
    · exact hc
theorem HBI.th (h : HBI K B w b v c l) (hg : v.ownBlock = some g) {i : Nat} {p : Int × Nat} (hi : l[i]? = some p) (j : Nat) (u : Value) (hu : (thI p)[j]? = some u) : w.cell? ⟨g, i * 2 + j, none⟩ = some u :=
  own_cell h.row hg (thC_getI l i p hi j u hu)
theorem HBI.glt (h : HBI K B w b v c l) (hg : v.ownBlock = some g) : B ≤ g ∧ g < w.heap.size := h.row.lt g hg
theorem HBI.gfz (h : HBI K B w b v c l) (hg : v.ownBlock = some g) (i : Nat) : w.frozen? ⟨g, i, none⟩ = false := by
  rcases h.row.2 with ⟨rfl, _⟩ | ⟨g', cp, cur, rfl, _, hh, _⟩
  · simp [Value.ownBlock] at hg
  · simp only [Value.ownBlock, Option.some.injEq] at hg
    subst hg
    simp [World.frozen?, hh]
end
/-- Two things, and the function, are kept. -/
structure TwoAtI (K : LK) (B : Nat) (w0 : World) (b g i j : Nat) (x y : Int × Nat) (W : World) : Prop where
  f : W.cell? ⟨b, 0, none⟩ = some (K.fv)
  x0 : W.cell? ⟨g, i * 2, none⟩ = some (.int .i64 x.1)
  x1 : W.cell? ⟨g, i * 2 + 1, none⟩ = some (.int .i64 (x.2 : Int))
  y0 : W.cell? ⟨g, j * 2, none⟩ = some (.int .i64 y.1)
  y1 : W.cell? ⟨g, j * 2 + 1, none⟩ = some (.int .i64 (y.2 : Int))
  bel : Below w0.heap.size w0 W
  ls : LessOk K B W
  ox : okK K x.1
  oy : okK K y.1
theorem TwoAtI.step {B : Nat} {w0 W W' : World} {b g i j : Nat} {x y : Int × Nat} (h : TwoAtI K B w0 b g i j x y W) (hb : b < w0.heap.size) (hg : g < w0.heap.size) (hB : Below W.heap.size W W') : TwoAtI K B w0 b g i j x y W' := by
  have hs := h.bel.size
  have k := fun i => hB.cell (p := ⟨g, i, none⟩) (Nat.lt_of_lt_of_le hg hs)
  exact ⟨(hB.cell (p := ⟨b, 0, none⟩) (Nat.lt_of_lt_of_le hb hs)).trans h.f, (k _).trans h.x0, (k _).trans h.x1, (k _).trans h.y0, (k _).trans h.y1, h.bel.trans (hB.mono hs), h.ls.later hB, h.ox, h.oy⟩
theorem HBI.two {B : Nat} {w : World} {b c g i j : Nat} {v : Value} {l : List (Int × Nat)} {x y : Int × Nat} (h : HBI K B w b v c l) (hg : v.ownBlock = some g) (hx : l[i]? = some x) (hy : l[j]? = some y) : TwoAtI K B w b g i j x y w.drew :=
  ⟨h.c0, h.th hg hx 0 _ rfl, h.th hg hx 1 _ rfl, h.th hg hy 0 _ rfl, h.th hg hy 1 _ rfl, below_drew w, h.less.later (below_drew w), h.ok _ (List.mem_of_getElem? hx), h.ok _ (List.mem_of_getElem? hy)⟩

def RisePostI (K : LK) (B b c g : Nat) (v : Value) (l : List (Int × Nat)) (w : World) (e : Ending) (w' : World) : Prop := e = .returned (.tuple #[]) ∧ ∃ l', l'.Perm l ∧ Hp (keyK K) l' ∧ HBI K B w' b v c l' ∧ Kept [g] w w'
set_option maxRecDepth 100000 in
set_option maxHeartbeats 4000000 in
theorem riseI {B : Nat} {b c g n cap : Nat} {l : List (Int × Nat)} (w : World) (h : HBI K B w b (.slice (some ⟨g, 0, none⟩) n cap) c l) (hn : l.length = n) (h1 : 1 ≤ n) (hU : Up (keyK K) l (n - 1)) :
    Calls Tryz.prog 88 #[.pointer (some ⟨b, 0, none⟩), .slice (some ⟨g, 0, none⟩) n cap] w (RisePostI K B b c g (.slice (some ⟨g, 0, none⟩) n cap) l w) := by
  have hlim : n ≤ 9223372036854775807 := by
    obtain ⟨A, cp, hv, hle, hmx⟩ := own_len h.row
    unfold maxLen at hmx
    omega
  have hm1 : ((n - 1 : Nat) : Int) = (n : Int) - 1 := by omega
  have HH := Lib.hid h
  have HU := Lib.hid hU
  have HN := Lib.hid hn
  have HM := Lib.hid hm1
  clear h hU hn hm1
  go_enter Tryz.func88, Tryz.ntmps88
  go_wp2
  go_loopw [4] (fun a wr => ∃ (k : Nat) (l' : List (Int × Nat)), k < n ∧ a = .int .i64 k ∧ Hid (l'.Perm l) ∧ Hid (Up (keyK K) l' k) ∧ Hid (HBI K B wr b (.slice (some ⟨g, 0, none⟩) n cap) c l') ∧ Hid (Kept [g] w wr)) (fun a _ => (intOf a).toNat)
  case atStart => exact ⟨n - 1, l, by omega, by rw [HM.out], Lib.hid (List.Perm.refl _), HU, HH, Lib.hid (Kept.refl _ _)⟩
  case round =>
    obtain ⟨k, l', hk, rfl, hP, hU, hH, hK⟩ := hrel
    have hln : l'.length = n := by rw [hP.out.length_eq, HN.out]
    by_cases h0 : 0 < k
    · obtain ⟨q, hq⟩ : ∃ q, (k - 1) / 2 = q := ⟨_, rfl⟩
      have hqk : q < k := by omega
      obtain ⟨x, hx⟩ : ∃ x, l'[k]? = some x := ⟨l'[k], List.getElem?_eq_getElem (by omega)⟩
      obtain ⟨y, hy⟩ : ∃ y, l'[q]? = some y := ⟨l'[q], List.getElem?_eq_getElem (by omega)⟩
      have T0 := Lib.hid (hH.out.two rfl hx hy)
      have hqI : ((k : Int) - 1) / 2 = (q : Int) := by omega
      have hqn : q < n := by omega
      have hbl := hH.out.lt
      have hgl := (hH.out.glt rfl).2
      have HX := Lib.hid hx
      have HY := Lib.hid hy
      have HQ := Lib.hid hq
      have HLN := Lib.hid hln
      have ik : (1 : Int) ≤ (k : Int) := by omega
      have ik2 : (k : Int) < (n : Int) := by omega
      have iq : (q : Int) < (n : Int) := by omega
      have iq0 : (0 : Int) ≤ (q : Int) := by omega
      clear hx hy hq hln
      go_upto_region 3 with (fail)
      rw [hqI]
      have F0 := firstI x y wr.drew T0.out.f T0.out.ls T0.out.ox T0.out.oy
      have B0 := Lib.hid (below_drew wr)
      obtain ⟨t, ht⟩ : ∃ t, lexB (keyK K) x y = t := ⟨_, rfl⟩
      rw [ht] at F0
      have HT := Lib.hid ht
      have F0 := Lib.hid F0
      clear ht hqI
      go_region_held3 (fun W => W.cell? ⟨g, k * 2, none⟩ = some (.int .i64 x.1) ∧ W.cell? ⟨g, k * 2 + 1, none⟩ = some (.int .i64 (x.2 : Int)) ∧ W.cell? ⟨g, q * 2, none⟩ = some (.int .i64 y.1) ∧ W.cell? ⟨g, q * 2 + 1, none⟩ = some (.int .i64 (y.2 : Int)))
        (first | assumption | exact ⟨T0.out.x0, T0.out.x1, T0.out.y0, T0.out.y1⟩ | exact ⟨T1.out.x0, T1.out.x1, T1.out.y0, T1.out.y1⟩)
        ((go_at_call 109; (with_reducible refine F0.out.mono ?_); rintro e w' ⟨rfl, hB⟩; have T1 := Lib.hid (T0.out.step hbl hgl hB)))
      have H1 := Lib.hid (hH.out.later T1.out.bel)
      have K1 := Lib.hid (hK.out.later T1.out.bel)
      rcases (Bool.eq_false_or_eq_true t).symm with rfl | rfl
      · go_wp2
        go_end0
        exact ⟨rfl, l', hP.out, hU.out.stop HX.out (by rw [HQ.out]; exact HY.out) HT.out, H1.out, K1.out⟩
      · have x0 := T1.out.x0
        have x1 := T1.out.x1
        have y0 := T1.out.y0
        have y1 := T1.out.y1
        have fx := H1.out.gfz rfl
        have f0 := fx (k * 2)
        have f1 := fx (k * 2 + 1)
        have g0 := fx (q * 2)
        have g1 := fx (q * 2 + 1)
        have d0 : ¬ q * 2 = k * 2 + 1 := by omega
        have d1 : ¬ k * 2 = q * 2 + 1 := by omega
        have d2 : ¬ q * 2 + 1 = k * 2 := by omega
        have d3 : ¬ k * 2 + 1 = q * 2 := by omega
        have e0 : ¬ q = k := by omega
        have e1 : ¬ k = q := by omega
        have U2 : Hid (Up (keyK K) (swp l' k q x y) q) := Lib.hid (by
          have := hU.out.step h0 HX.out (by rw [HQ.out]; exact HY.out) HT.out
          rw [HQ.out] at this
          exact this)
        have P2 := Lib.hid ((swp_perm HX.out HY.out e1).trans hP.out)
        have hxm := List.mem_of_getElem? HX.out
        have hym := List.mem_of_getElem? HY.out
        have H2 := Lib.hid ((H1.out.put rfl (i := k) (p := y) (by rw [HLN.out]; exact hk) (H1.out.ok y hym) (H1.out.few y hym)).put rfl (i := q) (p := x) (by rw [List.length_set, HLN.out]; omega) (H1.out.ok x hxm) (H1.out.few x hxm))
        have K2 := Lib.hid ((K1.out.storedI g k y (by simp)).storedI g q x (by simp))
        clear fx T0 T1 F0 B0 hB hxm hym
        go_upto_region 4 with (fail)
        go_region
        go_wp2
        go_roundw
        case rel => exact ⟨q, swp l' k q x y, by omega, rfl, P2, U2, Lib.hid (H2.out.later (below_drew _)), Lib.hid (K2.out.later (below_drew _))⟩
        case measure => simp [intOf]; omega
    · obtain rfl : k = 0 := by omega
      have hz : decide (((0 : Nat) : Int) > 0) = false := rfl
      go_wp2
      go_end0
      exact ⟨rfl, l', hP.out, hU.out.top, hH.out, hK.out⟩
end Go.Proofs.YtngmaiiibinkaaaGreat
/- A thing goes down. -/
namespace Go.Proofs.YtngmaiiibinkaaaGreat
open Go.RowKit
set_option linter.unusedVariables false
set_option linter.unusedSimpArgs false
variable {K : LK}
attribute [local go_sem ↓] Go.wp_at_zero Go.wp_at_succ

set_option maxRecDepth 100000 in
set_option maxHeartbeats 4000000 in
theorem sinkI {B : Nat} {b c g n cap : Nat} {l : List (Int × Nat)} (w : World) (h : HBI K B w b (.slice (some ⟨g, 0, none⟩) n cap) c l) (hn : l.length = n) (hD : Dn (keyK K) l 0) (hmx : n ≤ 1000000) :
    Calls Tryz.prog 112 #[.pointer (some ⟨b, 0, none⟩), .slice (some ⟨g, 0, none⟩) n cap] w (RisePostI K B b c g (.slice (some ⟨g, 0, none⟩) n cap) l w) := by
  have HH := Lib.hid h
  have HD := Lib.hid hD
  have HN := Lib.hid hn
  clear h hD hn
  go_enter Tryz.func112, Tryz.ntmps112
  go_wp2
  go_step3
  go_wp2
  go_step3
  go_wp2
  go_loopg [4] (n + 1) (fun m a wr => ∃ (k : Nat) (l' : List (Int × Nat)), (k < n ∨ k = 0) ∧ a = .int .i64 k ∧ n + 1 ≤ m + k ∧ Hid (l'.Perm l) ∧ Hid (Dn (keyK K) l' k) ∧ Hid (HBI K B wr b (.slice (some ⟨g, 0, none⟩) n cap) c l') ∧ Hid (Kept [g] w wr))
  case atStart => exact ⟨0, l, .inr rfl, rfl, by omega, Lib.hid (List.Perm.refl _), HD, HH, Lib.hid (Kept.refl _ _)⟩
  case round =>
    obtain ⟨k, l', hk, rfl, hm, hP, hD, hH, hK⟩ := hrel
    have hln : l'.length = n := by rw [hP.out.length_eq, HN.out]
    have HLN := Lib.hid hln
    clear hln
    obtain ⟨a, ha⟩ : ∃ a, 2 * k + 1 = a := ⟨_, rfl⟩
    have haI : 2 * (k : Int) + 1 = (a : Int) := by omega
    have HA := Lib.hid ha
    by_cases hs : n ≤ a
    · have t1 : decide ((a : Int) ≥ (n : Int)) = true := decide_eq_true (by omega)
      have h4 : Dn (keyK K) l' k := hD.out
      clear ha
      go_wp2
      first | rw [Exit.noGoto_ret] | simp only [Exit.noGoto]
      go_end0
      exact ⟨rfl, l', hP.out, hD.out.bottom (by rw [HLN.out, HA.out]; exact hs), hH.out, hK.out⟩
    · have t1 : decide ((a : Int) ≥ (n : Int)) = false := decide_eq_false (by omega)
      have hkn : k < n := by omega
      obtain ⟨x, hx⟩ : ∃ x, l'[k]? = some x := ⟨l'[k]'(by rw [HLN.out]; exact hkn), List.getElem?_eq_getElem _⟩
      obtain ⟨y, hy⟩ : ∃ y, l'[a]? = some y := ⟨l'[a]'(by rw [HLN.out]; omega), List.getElem?_eq_getElem _⟩
      obtain ⟨o, ho⟩ : ∃ o, a + 1 = o := ⟨_, rfl⟩
      have hoI : (a : Int) + 1 = (o : Int) := by omega
      have HX := Lib.hid hx
      have HO := Lib.hid ho
      have iak : k < a := by omega
      have ia0 : (0 : Int) ≤ (a : Int) := by omega
      have ia2 : (a : Int) < (n : Int) := by omega
      have ik0 : (0 : Int) ≤ (k : Int) := by omega
      have ik1 : (k : Int) < (n : Int) := by omega
      by_cases hon : o < n
      · obtain ⟨z, hz⟩ : ∃ z, l'[o]? = some z := ⟨l'[o]'(by rw [HLN.out]; exact hon), List.getElem?_eq_getElem _⟩
        have HZ := Lib.hid hz
        have HY0 := Lib.hid hy
        have t2 : decide ((o : Int) < (n : Int)) = true := decide_eq_true (by omega)
        have io0 : (0 : Int) ≤ (o : Int) := by omega
        have io2 : (o : Int) < (n : Int) := by omega
        have T0 := Lib.hid (hH.out.two rfl HZ.out HY0.out)
        have F0 := firstI z y wr.drew T0.out.f T0.out.ls T0.out.ox T0.out.oy
        obtain ⟨t, ht⟩ : ∃ t, lexB (keyK K) z y = t := ⟨_, rfl⟩
        rw [ht] at F0
        have HT := Lib.hid ht
        have F0 := Lib.hid F0
        have hbl := hH.out.lt
        have hgl := (hH.out.glt rfl).2
        have hao : a + 1 = o := ho
        clear hx hy hz ha ho ht
        go_upto_region 4 with (fail)
        go_region_held3 (fun W => W.cell? ⟨g, o * 2, none⟩ = some (.int .i64 z.1) ∧ W.cell? ⟨g, o * 2 + 1, none⟩ = some (.int .i64 (z.2 : Int)) ∧ W.cell? ⟨g, a * 2, none⟩ = some (.int .i64 y.1) ∧ W.cell? ⟨g, a * 2 + 1, none⟩ = some (.int .i64 (y.2 : Int)))
          (first | assumption | exact ⟨T0.out.x0, T0.out.x1, T0.out.y0, T0.out.y1⟩ | exact ⟨T1.out.x0, T1.out.x1, T1.out.y0, T1.out.y1⟩)
          ((go_at_call 109; (with_reducible refine F0.out.mono ?_); rintro e w1 ⟨rfl, hB1⟩; have T1 := Lib.hid (T0.out.step hbl hgl hB1)))
        have H1 := Lib.hid (hH.out.later T1.out.bel)
        have K1 := Lib.hid (hK.out.later T1.out.bel)
        have HAO := Lib.hid hao
        clear T0 T1 F0 hB1 hao
        rcases (Bool.eq_false_or_eq_true t).symm with rfl | rfl
        · have HY := HY0
          have HSd : Hid (Side (keyK K) l' k a y) := Lib.hid (by
            have h1 := HY0.out
            have h2 := HZ.out
            rw [← HAO.out] at h2
            rw [← HA.out] at h1 h2 ⊢
            exact side_left h1 (.inr ⟨z, h2, HT.out⟩))
          go_upto_region 6 with (fail)
          have hsk : k < a := by have := HSd.out.1; omega
          have hsn : a < n := by have := (List.getElem?_eq_some_iff.1 HY.out).1; have := HLN.out; omega
          have T2 := Lib.hid (H1.out.two rfl HX.out HY.out)
          have F2 := firstI x y w1.drew T2.out.f T2.out.ls T2.out.ox T2.out.oy
          obtain ⟨u, hu⟩ : ∃ u, lexB (keyK K) x y = u := ⟨_, rfl⟩
          rw [hu] at F2
          have HUu := Lib.hid hu
          have F2 := Lib.hid F2
          have hbl2 := H1.out.lt
          have hgl2 := (H1.out.glt rfl).2
          have ik2 : (k : Int) < (n : Int) := by omega
          have is0 : (0 : Int) ≤ (a : Int) := by omega
          have is2 : (a : Int) < (n : Int) := by omega
          clear hu
          go_region_held3 (fun W => W.cell? ⟨g, k * 2, none⟩ = some (.int .i64 x.1) ∧ W.cell? ⟨g, k * 2 + 1, none⟩ = some (.int .i64 (x.2 : Int)) ∧ W.cell? ⟨g, a * 2, none⟩ = some (.int .i64 y.1) ∧ W.cell? ⟨g, a * 2 + 1, none⟩ = some (.int .i64 (y.2 : Int)))
            (first | assumption | exact ⟨T2.out.x0, T2.out.x1, T2.out.y0, T2.out.y1⟩ | exact ⟨T3.out.x0, T3.out.x1, T3.out.y0, T3.out.y1⟩)
            ((go_at_call 109; (with_reducible refine F2.out.mono ?_); rintro e w3 ⟨rfl, hB3⟩; have T3 := Lib.hid (T2.out.step hbl2 hgl2 hB3)))
          have H3 := Lib.hid (H1.out.later T3.out.bel)
          have K3 := Lib.hid (K1.out.later T3.out.bel)
          rcases (Bool.eq_false_or_eq_true u).symm with rfl | rfl
          · have x0 := T3.out.x0
            have x1 := T3.out.x1
            have y0 := T3.out.y0
            have y1 := T3.out.y1
            have fx := H3.out.gfz rfl
            have f0 := fx (k * 2)
            have f1 := fx (k * 2 + 1)
            have g0 := fx (a * 2)
            have g1 := fx (a * 2 + 1)
            have d0 : ¬ a * 2 = k * 2 + 1 := by omega
            have d1 : ¬ k * 2 = a * 2 + 1 := by omega
            have d2 : ¬ a * 2 + 1 = k * 2 := by omega
            have d3 : ¬ k * 2 + 1 = a * 2 := by omega
            have e0 : ¬ a = k := by omega
            have e1 : ¬ k = a := by omega
            have D2 := Lib.hid (hD.out.step HX.out HSd.out HUu.out)
            have P2 := Lib.hid ((swp_perm HX.out HY.out e1).trans hP.out)
            have hxm := List.mem_of_getElem? HX.out
            have hym := List.mem_of_getElem? HY.out
            have H4 := Lib.hid ((H3.out.put rfl (i := k) (p := y) (by rw [HLN.out]; omega) (H3.out.ok y hym) (H3.out.few y hym)).put rfl (i := a) (p := x) (by rw [List.length_set, HLN.out]; omega) (H3.out.ok x hxm) (H3.out.few x hxm))
            have K4 := Lib.hid ((K3.out.storedI g k y (by simp)).storedI g a x (by simp))
            clear fx T2 T3 F2 hB3 hxm hym
            go_upto_region 7 with (fail)
            go_region
            go_wp2
            go_roundg (n + 1 - a)
            case measure => omega
            case rel => exact ⟨a, swp l' k a x y, by omega, rfl, by omega, P2, D2, Lib.hid (H4.out.later (below_drew _)), Lib.hid (K4.out.later (below_drew _))⟩
          · go_wp2
            first | rw [Exit.noGoto_ret] | simp only [Exit.noGoto]
            go_end0
            exact ⟨rfl, l', hP.out, hD.out.stop HX.out HSd.out HUu.out, H3.out, K3.out⟩
        · have HY := HZ
          have HSd : Hid (Side (keyK K) l' k o z) := Lib.hid (by
            have h1 := HY0.out
            have h2 := HZ.out
            rw [← HAO.out] at h2 ⊢
            rw [← HA.out] at h1 h2 ⊢
            exact side_right h1 h2 HT.out)
          go_upto_region 6 with (fail)
          have hsk : k < o := by have := HSd.out.1; omega
          have hsn : o < n := by have := (List.getElem?_eq_some_iff.1 HY.out).1; have := HLN.out; omega
          have T2 := Lib.hid (H1.out.two rfl HX.out HY.out)
          have F2 := firstI x z w1.drew T2.out.f T2.out.ls T2.out.ox T2.out.oy
          obtain ⟨u, hu⟩ : ∃ u, lexB (keyK K) x z = u := ⟨_, rfl⟩
          rw [hu] at F2
          have HUu := Lib.hid hu
          have F2 := Lib.hid F2
          have hbl2 := H1.out.lt
          have hgl2 := (H1.out.glt rfl).2
          have ik2 : (k : Int) < (n : Int) := by omega
          have is0 : (0 : Int) ≤ (o : Int) := by omega
          have is2 : (o : Int) < (n : Int) := by omega
          clear hu
          go_region_held3 (fun W => W.cell? ⟨g, k * 2, none⟩ = some (.int .i64 x.1) ∧ W.cell? ⟨g, k * 2 + 1, none⟩ = some (.int .i64 (x.2 : Int)) ∧ W.cell? ⟨g, o * 2, none⟩ = some (.int .i64 z.1) ∧ W.cell? ⟨g, o * 2 + 1, none⟩ = some (.int .i64 (z.2 : Int)))
            (first | assumption | exact ⟨T2.out.x0, T2.out.x1, T2.out.y0, T2.out.y1⟩ | exact ⟨T3.out.x0, T3.out.x1, T3.out.y0, T3.out.y1⟩)
            ((go_at_call 109; (with_reducible refine F2.out.mono ?_); rintro e w3 ⟨rfl, hB3⟩; have T3 := Lib.hid (T2.out.step hbl2 hgl2 hB3)))
          have H3 := Lib.hid (H1.out.later T3.out.bel)
          have K3 := Lib.hid (K1.out.later T3.out.bel)
          rcases (Bool.eq_false_or_eq_true u).symm with rfl | rfl
          · have x0 := T3.out.x0
            have x1 := T3.out.x1
            have y0 := T3.out.y0
            have y1 := T3.out.y1
            have fx := H3.out.gfz rfl
            have f0 := fx (k * 2)
            have f1 := fx (k * 2 + 1)
            have g0 := fx (o * 2)
            have g1 := fx (o * 2 + 1)
            have d0 : ¬ o * 2 = k * 2 + 1 := by omega
            have d1 : ¬ k * 2 = o * 2 + 1 := by omega
            have d2 : ¬ o * 2 + 1 = k * 2 := by omega
            have d3 : ¬ k * 2 + 1 = o * 2 := by omega
            have e0 : ¬ o = k := by omega
            have e1 : ¬ k = o := by omega
            have D2 := Lib.hid (hD.out.step HX.out HSd.out HUu.out)
            have P2 := Lib.hid ((swp_perm HX.out HY.out e1).trans hP.out)
            have hxm := List.mem_of_getElem? HX.out
            have hym := List.mem_of_getElem? HY.out
            have H4 := Lib.hid ((H3.out.put rfl (i := k) (p := z) (by rw [HLN.out]; omega) (H3.out.ok z hym) (H3.out.few z hym)).put rfl (i := o) (p := x) (by rw [List.length_set, HLN.out]; omega) (H3.out.ok x hxm) (H3.out.few x hxm))
            have K4 := Lib.hid ((K3.out.storedI g k z (by simp)).storedI g o x (by simp))
            clear fx T2 T3 F2 hB3 hxm hym
            go_upto_region 7 with (fail)
            go_region
            go_wp2
            go_roundg (n + 1 - o)
            case measure => omega
            case rel => exact ⟨o, swp l' k o x z, by omega, rfl, by omega, P2, D2, Lib.hid (H4.out.later (below_drew _)), Lib.hid (K4.out.later (below_drew _))⟩
          · go_wp2
            first | rw [Exit.noGoto_ret] | simp only [Exit.noGoto]
            go_end0
            exact ⟨rfl, l', hP.out, hD.out.stop HX.out HSd.out HUu.out, H3.out, K3.out⟩
      · have HY := Lib.hid hy
        have t2 : decide ((o : Int) < (n : Int)) = false := decide_eq_false (by omega)
        have HSd : Hid (Side (keyK K) l' k a y) := Lib.hid (by
          have h1 := HY.out
          rw [← HA.out] at h1 ⊢
          exact side_left h1 (.inl (by rw [HLN.out]; have := HA.out; have := HO.out; omega)))
        clear hx hy ha ho
        go_upto_region 4 with (fail)
        go_quiet (fail)
        obtain ⟨w1, hw1⟩ : ∃ w1, wr.drewN nq = w1 := ⟨_, rfl⟩
        have hb1 : Below wr.heap.size wr w1 := by rw [← hw1]; exact below_drewN' wr nq
        rw [hw1]
        have H1 := Lib.hid (hH.out.later hb1)
        have K1 := Lib.hid (hK.out.later hb1)
        clear hw1 hb1
        go_upto_region 6 with (fail)
        have hsk : k < a := by have := HSd.out.1; omega
        have hsn : a < n := by have := (List.getElem?_eq_some_iff.1 HY.out).1; have := HLN.out; omega
        have T2 := Lib.hid (H1.out.two rfl HX.out HY.out)
        have F2 := firstI x y w1.drew T2.out.f T2.out.ls T2.out.ox T2.out.oy
        obtain ⟨u, hu⟩ : ∃ u, lexB (keyK K) x y = u := ⟨_, rfl⟩
        rw [hu] at F2
        have HUu := Lib.hid hu
        have F2 := Lib.hid F2
        have hbl2 := H1.out.lt
        have hgl2 := (H1.out.glt rfl).2
        have ik2 : (k : Int) < (n : Int) := by omega
        have is0 : (0 : Int) ≤ (a : Int) := by omega
        have is2 : (a : Int) < (n : Int) := by omega
        clear hu
        go_region_held3 (fun W => W.cell? ⟨g, k * 2, none⟩ = some (.int .i64 x.1) ∧ W.cell? ⟨g, k * 2 + 1, none⟩ = some (.int .i64 (x.2 : Int)) ∧ W.cell? ⟨g, a * 2, none⟩ = some (.int .i64 y.1) ∧ W.cell? ⟨g, a * 2 + 1, none⟩ = some (.int .i64 (y.2 : Int)))
          (first | assumption | exact ⟨T2.out.x0, T2.out.x1, T2.out.y0, T2.out.y1⟩ | exact ⟨T3.out.x0, T3.out.x1, T3.out.y0, T3.out.y1⟩)
          ((go_at_call 109; (with_reducible refine F2.out.mono ?_); rintro e w3 ⟨rfl, hB3⟩; have T3 := Lib.hid (T2.out.step hbl2 hgl2 hB3)))
        have H3 := Lib.hid (H1.out.later T3.out.bel)
        have K3 := Lib.hid (K1.out.later T3.out.bel)
        rcases (Bool.eq_false_or_eq_true u).symm with rfl | rfl
        · have x0 := T3.out.x0
          have x1 := T3.out.x1
          have y0 := T3.out.y0
          have y1 := T3.out.y1
          have fx := H3.out.gfz rfl
          have f0 := fx (k * 2)
          have f1 := fx (k * 2 + 1)
          have g0 := fx (a * 2)
          have g1 := fx (a * 2 + 1)
          have d0 : ¬ a * 2 = k * 2 + 1 := by omega
          have d1 : ¬ k * 2 = a * 2 + 1 := by omega
          have d2 : ¬ a * 2 + 1 = k * 2 := by omega
          have d3 : ¬ k * 2 + 1 = a * 2 := by omega
          have e0 : ¬ a = k := by omega
          have e1 : ¬ k = a := by omega
          have D2 := Lib.hid (hD.out.step HX.out HSd.out HUu.out)
          have P2 := Lib.hid ((swp_perm HX.out HY.out e1).trans hP.out)
          have hxm := List.mem_of_getElem? HX.out
          have hym := List.mem_of_getElem? HY.out
          have H4 := Lib.hid ((H3.out.put rfl (i := k) (p := y) (by rw [HLN.out]; omega) (H3.out.ok y hym) (H3.out.few y hym)).put rfl (i := a) (p := x) (by rw [List.length_set, HLN.out]; omega) (H3.out.ok x hxm) (H3.out.few x hxm))
          have K4 := Lib.hid ((K3.out.storedI g k y (by simp)).storedI g a x (by simp))
          clear fx T2 T3 F2 hB3 hxm hym
          go_upto_region 7 with (fail)
          go_region
          go_wp2
          go_roundg (n + 1 - a)
          case measure => omega
          case rel => exact ⟨a, swp l' k a x y, by omega, rfl, by omega, P2, D2, Lib.hid (H4.out.later (below_drew _)), Lib.hid (K4.out.later (below_drew _))⟩
        · go_wp2
          first | rw [Exit.noGoto_ret] | simp only [Exit.noGoto]
          go_end0
          exact ⟨rfl, l', hP.out, hD.out.stop HX.out HSd.out HUu.out, H3.out, K3.out⟩
end Go.Proofs.YtngmaiiibinkaaaGreat
/- A heap's Len, Push. -/
namespace Go.Proofs.YtngmaiiibinkaaaGreat
open Go.RowKit
set_option linter.unusedVariables false
set_option linter.unusedSimpArgs false
variable {K : LK}
attribute [local go_sem ↓] Go.wp_at_zero Go.wp_at_succ

theorem infoThI : (Tryz.prog.info? 147).map (fun i => (i.zero, i.size, i.bytes)) = some (some (.agg #[.int .i64 0, .int .i64 0]), 2, 16) := by kernel_rfl
theorem run_appI {base : Nat} {v : Value} {n : Nat} {xs : List Value} {w : World} (ty : TypeId) (hown : w.ownsRow base 147 2 v n xs) (ad : Addr) (news : List Value) (hn : news.length = 2) (hc : ∀ j u, news[j]? = some u → w.cell? (ad.add j) = some u) (h1c : ∀ u ∈ news, u.oneCell' = true) (b1 : n ≤ 1000000) (hbase : base ≤ w.heap.size) :
    ∃ v' w', (Builtin.append_ #[120, 120] ty #[v, .slice (some ad) 1 1]).run Tryz.prog w = .ok v' w' ∧ w'.ownsRow base 147 2 v' (n + 1) (xs ++ news) ∧ w.grownBy w' v.ownBlock ∧ ∀ k, v'.ownBlock = some k → v.ownBlock = some k ∨ w.heap.size ≤ k := by
  obtain ⟨i0, hi, hz0, hz1, hz2⟩ := info_parts infoThI
  obtain ⟨v', w', hrun, r1, r2, _⟩ := run_append_own (P := Tryz.prog) w base 120 ty 147 i0 _ 2 16 Tryz.underlying120 hi hz0 hz1 hz2 rfl (by omega) v n xs hown ad 1 1 news (by omega) hc h1c (by unfold maxLen; omega) (by omega) hbase
  refine ⟨v', w', hrun, r1, r2, ?_⟩
  rcases hown.2 with ⟨rfl, rfl⟩ | ⟨g, cap, cur, rfl, _, hg, hnc, hcm, hcs, _⟩
  · have h2 := run_append_nil (P := Tryz.prog) w 120 ty 147 i0 _ Tryz.underlying120 hi hz0 ad 1 1 news (by rw [hz1]; omega) hc (by omega) (by omega) (by rw [hz2]; decide)
    rw [hrun] at h2
    injection h2 with e1 e2
    subst e1
    intro k hk
    simp only [Value.ownBlock, Option.some.injEq] at hk
    exact .inr (by omega)
  · by_cases hroom : n + 1 ≤ cap
    · have h2 := run_append_room (P := Tryz.prog) w 120 ty 147 i0 Tryz.underlying120 hi g n cap cur hg ad 1 1 news (by rw [hz1]; omega) hc h1c hroom (by rw [hz1, hn, hcs]; have := Nat.mul_le_mul_right 2 hroom; omega)
      rw [hrun] at h2
      injection h2 with e1 e2
      subst e1
      exact fun k hk => .inl hk
    · have h2 := run_append_grow (P := Tryz.prog) w 120 ty 147 i0 _ Tryz.underlying120 hi hz0 ⟨g, 0, none⟩ n cap xs (by rw [hz1]; exact hown.1) (hown.cells rfl) ad 1 1 news (by rw [hz1]; omega) hc (by omega) (by omega) (by rw [hz2]; exact growslice_fits (by omega) (by omega))
      rw [hrun] at h2
      injection h2 with e1 e2
      subst e1
      intro k hk
      simp only [Value.ownBlock, Option.some.injEq] at hk
      exact .inr (by omega)
/-- append onto a row of the heap's own, as one step of a region that draws. -/
theorem step_appI {ops : Array Oper} {o : Oper} {a : Act} {w : World} {K : Act → World → Prop} {Q : Exit → Act → World → Prop} {E : Prop}
    (hg : o.guard = none) (s x : Operand) (hop : o.op = Op.call { callee := Callee.builtin Builtin.append, args := #[s, x], argTypes := #[120, 120] })
    (base : Nat) (v : Value) (n : Nat) (xs : List Value) (hs : a.eval s = v) (hown : w.ownsRow base 147 2 v n xs)
    (ad : Addr) (news : List Value) (hx : a.eval x = .slice (some ad) 1 1) (hn : news.length = 2) (hc : ∀ j u, news[j]? = some u → w.cell? (ad.add j) = some u) (h1c : ∀ u ∈ news, u.oneCell' = true)
    (b1 : n ≤ 1000000) (hbase : base ≤ w.heap.size)
    (hK : ∀ v' w', w'.ownsRow base 147 2 v' (n + 1) (xs ++ news) → w.grownBy w' v.ownBlock → (∀ k, v'.ownBlock = some k → v.ownBlock = some k ∨ w.heap.size ≤ k) → K (a.put o.dst v') w') :
    if Region.wanted o (yielded ops a.tmps) = true then Oper.wp Tryz.prog o a w K Q else E := by
  have hw : Region.wanted o (yielded ops a.tmps) = true := by simp [Region.wanted, hg]
  rw [if_pos hw]
  obtain ⟨v', w', hrun, r1, r2, r3⟩ := run_appI o.type hown ad news hn hc h1c b1 hbase
  unfold Oper.wp
  simp [execOp, hop, resolve, invoke, builtin, hs, hx, hrun, Result.andThen]
  exact hK v' w' r1 r2 r3
theorem th_newI (w : World) (p : Int × Nat) : ∀ j u, (thI p)[j]? = some u → (w.alloc (.cells #[.int .i64 p.1, .int .i64 (p.2 : Int)] 147)).cell? ((⟨w.heap.size, 0, none⟩ : Addr).add j) = some u := by
  intro j u hj
  rw [add_none, Nat.zero_add, cell_of_row _ _ j _ _ _ (heap_alloc_new w _)]
  simpa [thI] using hj
theorem th_oneI (p : Int × Nat) : ∀ u ∈ thI p, u.oneCell' = true := by
  intro u hu
  simp only [thI, List.mem_cons, List.not_mem_nil, or_false] at hu
  rcases hu with rfl | rfl <;> rfl
theorem len_anyI {B b c : Nat} {v : Value} {l : List (Int × Nat)} (w : World) (h : HBI K B w b v c l) : Calls Tryz.prog 92 #[.pointer (some ⟨b, 0, none⟩)] w fun e w' => e = .returned (.int .i64 l.length) ∧ w = w' := by
  obtain ⟨A, cap, hv, hle, hmx⟩ := own_len h.row
  have c1 := h.c1
  subst hv
  unfold maxLen at hmx
  clear h
  go_enter Tryz.func92, Tryz.ntmps92
  go_wp2
  go_ret
  exact ⟨rfl, rfl⟩

/-- A heap whose row has grown by a thing. -/
theorem HBI.pushed {B : Nat} {w W w2 : World} {b c : Nat} {v v2 : Value} {l : List (Int × Nat)} {p : Int × Nat} (h : HBI K B w b v c l) (hW : Below w.heap.size w W) (hg : W.grownBy w2 v.ownBlock) (ho : w2.ownsRow B 147 2 v2 (l.length + 1) (thCI l ++ thI p)) (hp : okK K p.1) (hpc : p.2 = c) (hc : c + 1 ≤ 1000000) :
    (w2.cell? ⟨b, 1, none⟩ = some v ∧ w2.cell? ⟨b, 2, none⟩ = some (.int .i64 (c : Int)) ∧ (∀ i, w2.frozen? ⟨b, i, none⟩ = false)) ∧ Kept (blk b v) w w2 ∧
    HBI K B ((w2.setCell ⟨b, 1, none⟩ v2).setCell ⟨b, 2, none⟩ (.int .i64 ((c + 1 : Nat) : Int))) b v2 (c + 1) (l ++ [p]) ∧ Kept (blk b v) w ((w2.setCell ⟨b, 1, none⟩ v2).setCell ⟨b, 2, none⟩ (.int .i64 ((c + 1 : Nat) : Int))) := by
  have hk : Kept (blk b v) w w2 := (Kept.of _ hW).trans (kept_grown hg (fun k hk => by simp [blk, hk]))
  have hWb : W.heap[b]? = some (.cells #[K.fv, v, .int .i64 (c : Int)] 122 (0, 0)) := (hW.block b h.lt).trans h.is
  have hb2 : w2.heap[b]? = some (.cells #[K.fv, v, .int .i64 (c : Int)] 122 (0, 0)) :=
    (hg.block b (Nat.lt_of_lt_of_le h.lt hW.size) (fun e => h.ne e.symm)).trans hWb
  have hne := own_ne ho hb2 (by decide)
  have e1 : (w2.setCell ⟨b, 1, none⟩ v2).heap[b]? = some (.cells #[K.fv, v2, .int .i64 (c : Int)] 122 (0, 0)) := heap_setCell_same _ b 1 _ _ _ hb2
  have e2 : ((w2.setCell ⟨b, 1, none⟩ v2).setCell ⟨b, 2, none⟩ (.int .i64 ((c + 1 : Nat) : Int))).heap[b]? = some (.cells #[K.fv, v2, .int .i64 ((c + 1 : Nat) : Int)] 122 (0, 0)) := heap_setCell_same _ b 2 _ _ _ e1
  have k2 : Kept [b] w2 ((w2.setCell ⟨b, 1, none⟩ v2).setCell ⟨b, 2, none⟩ (.int .i64 ((c + 1 : Nat) : Int))) := ((Kept.refl [b] w2).set b 1 v2 (by simp)).set b 2 _ (by simp)
  refine ⟨⟨by rw [cell_of_row w2 b 1 _ _ _ hb2]; rfl, by rw [cell_of_row w2 b 2 _ _ _ hb2]; rfl, fun i => by simp [World.frozen?, hb2]⟩, hk, ⟨h.hB, e2, ?_, ?_, ?_, hc, h.less.kept (hk.trans (k2.mono (by simp [blk]))) (fun k hm => h.less.off (h.blk_ge k hm).1)⟩, hk.trans (k2.mono (by simp [blk]))⟩
  · rw [List.length_append, thC_appI]
    have := k2.row ho (fun g hg' => by simp; exact fun e => hne (by rw [hg', e]))
    simpa [thCI] using this
  · intro q hq
    rcases List.mem_append.1 hq with hq | hq
    · exact h.ok q hq
    · rw [List.mem_singleton.1 hq]; exact hp
  · intro q hq
    rcases List.mem_append.1 hq with hq | hq
    · have := h.few q hq; omega
    · rw [List.mem_singleton.1 hq]; omega
def PushPostI (K : LK) (B b c : Nat) (v : Value) (l : List (Int × Nat)) (x : Int) (w : World) (e : Ending) (w' : World) : Prop := e = .returned (.tuple #[]) ∧ ∃ v' l', l'.Perm (l ++ [(x, c)]) ∧ Hp (keyK K) l' ∧ HBI K B w' b v' (c + 1) l' ∧ Kept (blk b v) w w' ∧ ∀ k ∈ blk b v', k ∈ blk b v ∨ w.heap.size ≤ k
set_option maxRecDepth 100000 in
set_option maxHeartbeats 4000000 in
theorem push_anyI {B b c : Nat} {v : Value} {l : List (Int × Nat)} {x : Int} (w : World) (h : HBI K B w b v c l) (hh : Hp (keyK K) l) (hx : okK K x) (hc : c + 1 ≤ 1000000) (hl : l.length ≤ 1000000) :
    Calls Tryz.prog 72 #[.pointer (some ⟨b, 0, none⟩), .int .i64 x] w (PushPostI K B b c v l x w) := by
  have HH := Lib.hid hh
  have HX := Lib.hid hx
  have hw1 : Below w.heap.size w w := Below.refl _ _
  have h1 := h
  have HI := Lib.hid h
  clear hh hx h
  go_enter Tryz.func72, Tryz.ntmps72
  go_upto_region 1 with (fail)
  obtain ⟨w1, hw⟩ : ∃ w1, w1 = w := ⟨_, rfl⟩
  rw [← hw] at h1 ⊢
  rw [show Below w.heap.size w w ↔ Below w.heap.size w w1 by rw [hw]] at hw1
  clear hw
  have c1 := h1.c1
  have c2 := h1.c2
  have hb := h1.lt
  have H1 := Lib.hid h1
  have HB1 := Lib.hid hw1
  have O1 := Lib.hid (h1.later (((below_drew w1).alloc (Nat.le_refl _) (.cells #[.int .i64 x, .int .i64 (c : Int)] 147))))
  clear h1 hw1
  go_region_law (first
    | (refine step_appI rfl _ _ rfl B v l.length (thCI l) rfl O1.out.row ⟨w1.heap.size, 0, none⟩ (thI (x, c)) rfl rfl (th_newI w1.drew (x, c)) (th_oneI (x, c)) hl (Nat.le_trans O1.out.hB (Nat.le_of_lt O1.out.lt)) ?_
       intro v2 w2 hown2 hg2 hor
       obtain ⟨g2, cap2, rfl, -, hgl2, hle2, hmx2, -⟩ := own_form hown2 (by omega)
       obtain ⟨⟨d1, d2, fz⟩, K2, H2, K3⟩ := H1.out.pushed ((below_drew w1).alloc (Nat.le_refl _) _) hg2 hown2 HX.out rfl hc
       have f1 := fz 1
       have f2 := fz 2))
  all_goals
    have hlen : (l ++ [(x, c)]).length = l.length + 1 := by simp
    have RS := Lib.hid (riseI _ H2 hlen (by omega) HH.out.up_last)
    have HK3 := Lib.hid K3
    have hcI : ((c + 1 : Nat) : Int) = (c : Int) + 1 := by omega
    rw [hcI] at RS HK3
    have HOR := Lib.hid (hor g2 rfl)
    clear hg2 hown2 K2 K3 H2 fz hlen hcI hor
    go_wp2_with (go_at_call 88; (with_reducible refine RS.out.mono ?_); rintro e w4 ⟨rfl, l2, hP, hHp, hH2, hK4⟩)
    go_end0
    have hO : g2 ∈ blk b v ∨ w.heap.size ≤ g2 := by
      rcases HOR.out with h | h
      · exact .inl (by simp [blk, h])
      · exact .inr (by have h2 := HB1.out.size; have h3 : w1.heap.size ≤ g2 := Nat.le_trans (by simp) h; omega)
    refine ⟨rfl, _, l2, hP, hHp, hH2, kept_push HB1.out HK3.out hK4 hO, fun k hk => ?_⟩
    simp only [blk, Value.ownBlock, Option.toList_some, List.mem_cons, List.not_mem_nil, or_false] at hk
    rcases hk with rfl | rfl
    · exact .inl (by simp [blk])
    · exact hO
end Go.Proofs.YtngmaiiibinkaaaGreat
/- A heap's Peek, Pop. -/
namespace Go.Proofs.YtngmaiiibinkaaaGreat
open Go.RowKit
set_option linter.unusedVariables false
set_option linter.unusedSimpArgs false
variable {K : LK}
attribute [local go_sem ↓] Go.wp_at_zero Go.wp_at_succ

set_option maxRecDepth 100000 in
set_option maxHeartbeats 2000000 in
theorem peek_noneI {B b c : Nat} {v : Value} (w : World) (h : HBI K B w b v c []) : Calls Tryz.prog 75 #[.pointer (some ⟨b, 0, none⟩)] w (Told (.tuple #[.int .i64 0, .bool false]) w) := by
  have LN := Lib.hid (fun W (hB : Below w.heap.size w W) => len_anyI W (h.later hB))
  clear h
  go_enter Tryz.func75, Tryz.ntmps75
  go_wp2_with (go_at_call 92; (with_reducible refine (LN.out _ (Below.refl _ _)).mono ?_); rintro e w1 ⟨rfl, rfl⟩)
  go_ret2
  exact ⟨rfl, Below.refl _ _⟩
set_option maxRecDepth 100000 in
set_option maxHeartbeats 2000000 in
theorem peek_someI {B b c : Nat} {v : Value} {l : List (Int × Nat)} {p : Int × Nat} (w : World) (h : HBI K B w b v c l) (hp : l[0]? = some p) : Calls Tryz.prog 75 #[.pointer (some ⟨b, 0, none⟩)] w (Told (.tuple #[.int .i64 p.1, .bool true]) w) := by
  have h0 : 0 < l.length := (List.getElem?_eq_some_iff.1 hp).1
  obtain ⟨g, cap, rfl, -, hgl, hle, hmx, -⟩ := own_form h.row h0
  have hln0 : ((l.length : Int) == 0) = false := by rw [beq_eq_false_iff_ne]; omega
  have hlt : (0 : Int) < (l.length : Int) := by omega
  unfold maxLen at hmx
  have LN := Lib.hid (fun W (hB : Below w.heap.size w W) => len_anyI W (h.later hB))
  have c1 := h.c1
  have x0 : w.cell? ⟨g, 0, none⟩ = some (.int .i64 p.1) := by have := h.th rfl hp 0 _ rfl; rwa [Nat.zero_mul] at this
  clear h hp
  go_enter Tryz.func75, Tryz.ntmps75
  go_wp2_with (go_at_call 92; (with_reducible refine (LN.out _ (Below.refl _ _)).mono ?_); rintro e w1 ⟨rfl, rfl⟩)
  go_ret2
  exact ⟨rfl, Below.refl _ _⟩
end Go.Proofs.YtngmaiiibinkaaaGreat
/- A heap's Pop. -/
namespace Go.Proofs.YtngmaiiibinkaaaGreat
open Go.RowKit
set_option linter.unusedVariables false
set_option linter.unusedSimpArgs false
variable {K : LK}
attribute [local go_sem ↓] Go.wp_at_zero Go.wp_at_succ

def zeroHI : Int := 0
theorem zero_okI {x : Int} (h : okK K x) : okK K zeroHI := by
  obtain ⟨i, -, hi⟩ := h
  exact ⟨0, rfl, by omega⟩
/-- clear of one thing. -/
theorem run_clearI {B : Nat} {w : World} {b c g n cap m k : Nat} {l : List (Int × Nat)} (ty : TypeId) (h : HBI K B w b (.slice (some ⟨g, 0, none⟩) n cap) c l) (hm : m < l.length) : (Builtin.clear_ #[120] ty #[.slice (some ⟨g, m * 2, none⟩) 1 k]).run Tryz.prog w = .ok (.tuple #[]) (ptI w g m (zeroHI, 0)) := by
  obtain ⟨i0, hi, hz0, hz1, hz2⟩ := info_parts infoThI
  obtain ⟨p, hp⟩ : ∃ p, l[m]? = some p := ⟨l[m], List.getElem?_eq_getElem hm⟩
  have x0 : w.cell? ⟨g, m * 2, none⟩ = some (.int .i64 p.1) := h.th rfl hp 0 _ rfl
  have x1 : w.cell? ⟨g, m * 2 + 1, none⟩ = some (.int .i64 (p.2 : Int)) := h.th rfl hp 1 _ rfl
  have f := h.gfz rfl
  have a0 : (⟨g, m * 2, none⟩ : Addr).add 0 = ⟨g, m * 2, none⟩ := by rw [add_none]; rfl
  have a1 : (⟨g, m * 2, none⟩ : Addr).add 1 = ⟨g, m * 2 + 1, none⟩ := add_none _ _ _
  have hu := run_underlying (P := Tryz.prog) Tryz.underlying120
  unfold ptI zeroHI
  simp [Builtin.clear_, hu, zeroValue, typeInfo, hi, hz0, Builtin.zeroCells, storeCells, a0, a1, x0, x1, f, go_sem]
/-- A heap's row is cut. -/
theorem HBI.cut {B : Nat} {w : World} {b c g n cap m : Nat} {l : List (Int × Nat)} (h : HBI K B w b (.slice (some ⟨g, 0, none⟩) n cap) c l) (hl : l.length = n) (hm : m ≤ n) : HBI K B (w.setCell ⟨b, 1, none⟩ (.slice (some ⟨g, 0, none⟩) m cap)) b (.slice (some ⟨g, 0, none⟩) m cap) c (l.take m) := by
  subst hl
  have hne : b ≠ g := fun e => h.ne (by rw [e]; rfl)
  have hln : (l.take m).length = m := List.length_take_of_le hm
  refine ⟨h.hB, heap_setCell_same _ b 1 _ _ _ h.is, ?_, fun p hp => h.ok p (List.mem_of_mem_take hp), fun p hp => h.few p (List.mem_of_mem_take hp), h.lim, h.less.kept ((Kept.refl [b] w).set b 1 _ (by simp)) (fun k e => h.less.off (by rw [List.mem_singleton.1 e]; exact h.hB))⟩
  rw [hln, thC_takeI l m hm]
  have := own_take h.row hm
  exact ((Kept.refl [b] w).set b 1 _ (by simp)).row this (fun k hk => by simp [Value.ownBlock] at hk; simp; omega)
def PopPostI (K : LK) (B b c : Nat) (v : Value) (l : List (Int × Nat)) (p : Int × Nat) (w : World) (e : Ending) (w' : World) : Prop := e = .returned (.tuple #[.int .i64 p.1, .bool true]) ∧ ∃ v' l', (p :: l').Perm l ∧ Hp (keyK K) l' ∧ HBI K B w' b v' c l' ∧ Kept (blk b v) w w' ∧ blk b v' = blk b v
set_option maxRecDepth 100000 in
set_option maxHeartbeats 4000000 in
theorem pop_someI {B b c : Nat} {v : Value} {l : List (Int × Nat)} {p : Int × Nat} (w : World) (h : HBI K B w b v c l) (hh : Hp (keyK K) l) (hp : l[0]? = some p) (hlim : l.length ≤ 1000000) : Calls Tryz.prog 94 #[.pointer (some ⟨b, 0, none⟩)] w (PopPostI K B b c v l p w) := by
  have h0 : 0 < l.length := (List.getElem?_eq_some_iff.1 hp).1
  obtain ⟨g, cap, rfl, -, hgl, hle, hmx, -⟩ := own_form h.row h0
  obtain ⟨m, hm⟩ : ∃ m, l.length = m + 1 := ⟨l.length - 1, by omega⟩
  obtain ⟨y, hy⟩ : ∃ y, l[m]? = some y := ⟨l[m], List.getElem?_eq_getElem (by omega)⟩
  rw [hm] at hle hlim h
  have HM := Lib.hid hm
  have HP := Lib.hid hp
  have HY := Lib.hid hy
  have HH := Lib.hid hh
  have H0 := Lib.hid h
  have PK := fun W (hB : Below w.heap.size w W) => peek_someI W (h.later hB) hp
  have hmI : ((m + 1 : Nat) : Int) - 1 = (m : Int) := by omega
  clear hm hp hy hh h h0
  have PK := Lib.hid PK
  go_enter Tryz.func94, Tryz.ntmps94
  go_upto_region 4 with (go_at_call 75; (with_reducible refine (PK.out _ (Below.refl _ _)).mono ?_); rintro e w1 ⟨rfl, hB1⟩)
  obtain ⟨w2, hw2, B2⟩ : ∃ w2, w1 = w2 ∧ Below w.heap.size w w2 := ⟨_, rfl, hB1⟩
  rw [hw2]
  have h2 := H0.out.later B2
  have c1 := h2.c1
  have fb := h2.fz 1
  have x0 : w2.cell? ⟨g, 0, none⟩ = some (.int .i64 p.1) := by have := h2.th rfl HP.out 0 _ rfl; rwa [Nat.zero_mul] at this
  have x1 : w2.cell? ⟨g, 1, none⟩ = some (.int .i64 (p.2 : Int)) := by have := h2.th rfl HP.out 1 _ rfl; rwa [Nat.zero_mul] at this
  have y0 : w2.cell? ⟨g, m * 2, none⟩ = some (.int .i64 y.1) := h2.th rfl HY.out 0 _ rfl
  have y1 : w2.cell? ⟨g, m * 2 + 1, none⟩ = some (.int .i64 (y.2 : Int)) := h2.th rfl HY.out 1 _ rfl
  have f0 := h2.gfz rfl 0
  have f1 := h2.gfz rfl 1
  have im : (m : Int) < ((m + 1 : Nat) : Int) := by omega
  have im0 : (0 : Int) ≤ (m : Int) := by omega
  have iz : (0 : Int) < ((m + 1 : Nat) : Int) := by omega
  have H2 := Lib.hid h2
  have HB2 := Lib.hid B2
  clear hw2 hB1 h2 B2
  go_upto_region 5 with (fail)
  go_region
  go_upto_region 6 with (fail)
  obtain ⟨w3, hw3⟩ : ∃ w3, (ptI w2 g 0 y).drew = w3 := ⟨_, rfl⟩
  have hym := List.mem_of_getElem? HY.out
  have h3 := (H2.out.put rfl (i := 0) (p := y) (by rw [HM.out]; omega) (H2.out.ok y hym) (H2.out.few y hym)).later (below_drew _)
  have k3 : Kept [b, g] w w3 := by rw [← hw3]; exact (((Kept.of _ HB2.out).storedI g 0 y (by simp)).later (below_drew _))
  rw [hw3] at h3
  have hw3' := hw3
  unfold ptI at hw3'
  try rw [Nat.zero_mul] at hw3'
  rw [show (0 + 1 : Nat) = 1 from rfl] at hw3'
  rw [hw3']
  have hl3 : (l.set 0 y).length = m + 1 := by rw [List.length_set, HM.out]
  have hcl := run_clearI (k := cap - m) 0 h3 (m := m) (by rw [hl3]; omega)
  obtain ⟨w4, hw4⟩ : ∃ w4, ptI w3 g m (zeroHI, 0) = w4 := ⟨_, rfl⟩
  have h4 := h3.put rfl (i := m) (p := (zeroHI, 0)) (by rw [hl3]; omega) (zero_okI (H2.out.ok y hym)) (show (0 : Nat) < 1000000 by omega)
  have k4 : Kept [b, g] w w4 := by rw [← hw4]; exact k3.storedI g m _ (by simp)
  rw [hw4] at hcl h4
  have h5 := h4.cut (by rw [List.length_set, hl3]) (m := m) (by omega)
  rw [take_set_same] at h5
  have k5 := k4.set b 1 (.slice (some ⟨g, 0, none⟩) m cap) (by simp)
  have hl5 : ((l.set 0 y).take m).length = m := by rw [List.length_take, hl3]; omega
  have d1 := h3.c1
  have e1 := h4.c1
  have fb4 := h4.fz 1
  have SK := Lib.hid (sinkI _ h5 hl5 ((HH.out.dn y).take) (by omega))
  have LT := Lib.hid (last_top HP.out (show l[l.length - 1]? = some y by rw [HM.out]; exact HY.out))
  have hcm : cap ≠ m := by omega
  have hcm2 : ¬ cap = m := hcm
  have hmc : (m : Int) ≤ (cap : Int) := by omega
  have hm1 : m + 1 - m = 1 := by omega
  have K5 := Lib.hid k5
  clear hw3 hw3' hw4 h3 h4 h5 k3 k4 k5 hl3 hl5 hym c1 fb x0 x1 y0 y1 f0 f1 
  go_wp2_with (go_at_call 112; (with_reducible refine SK.out.mono ?_); rintro e w6 ⟨rfl, l6, hP6, hHp6, hH6, hK6⟩)
  go_ret2
  refine ⟨rfl, _, l6, (hP6.cons p).trans (by have := LT.out; rw [HM.out] at this; exact this), hHp6, hH6, ?_, rfl⟩
  exact K5.out.trans (hK6.mono (by simp))
end Go.Proofs.YtngmaiiibinkaaaGreat
/- A heap by what it tells. -/
namespace Go.Proofs.YtngmaiiibinkaaaGreat
open Go.RowKit
set_option linter.unusedVariables false
set_option linter.unusedSimpArgs false
variable {K : LK}
attribute [local go_sem ↓] Go.wp_at_zero Go.wp_at_succ

set_option maxRecDepth 100000 in
set_option maxHeartbeats 4000000 in
theorem pop_noneI {B b c : Nat} {v : Value} (w : World) (h : HBI K B w b v c []) : Calls Tryz.prog 94 #[.pointer (some ⟨b, 0, none⟩)] w (Told (.tuple #[.int .i64 0, .bool false]) w) := by
  have PK := Lib.hid (fun W (hB : Below w.heap.size w W) => peek_noneI W (h.later hB))
  clear h
  go_enter Tryz.func94, Tryz.ntmps94
  go_wp2_with (go_at_call 75; (with_reducible refine (PK.out _ (Below.refl _ _)).mono ?_); rintro e w1 ⟨rfl, hB1⟩)
  go_ret2
  exact ⟨rfl, hB1⟩
/-- Block b is a heap, its blocks are X; c came, and it tells L. -/
structure HsI (K : LK) (B : Nat) (w : World) (b : Nat) (X : List Nat) (c : Nat) (L : List Int) : Prop where
  ex : ∃ v l, HBI K B w b v c l ∧ blk b v = X ∧ Tells (keyK K) l c L
  le : L.length ≤ c
section
variable {B : Nat} {w w' : World} {b c : Nat} {X : List Nat} {L : List Int}
theorem HsI.kept {Y : List Nat} (h : HsI K B w b X c L) (hk : Kept Y w w') (hx : ∀ k ∈ X, k ∉ Y) (hz : ∀ k ∈ Y, k ≠ K.bl ∧ k ≠ K.lb) : HsI K B w' b X c L := by
  obtain ⟨⟨v, l, h1, rfl, h2⟩, h3⟩ := h
  exact ⟨⟨v, l, h1.kept hk hx hz, rfl, h2⟩, h3⟩
theorem HsI.later (h : HsI K B w b X c L) (hb : Below w.heap.size w w') : HsI K B w' b X c L := h.kept (Kept.of [] hb) (by simp) (by simp)
theorem HsI.ge (h : HsI K B w b X c L) : ∀ k ∈ X, B ≤ k ∧ k < w.heap.size := by
  obtain ⟨⟨v, l, h1, rfl, h2⟩, h3⟩ := h
  exact h1.blk_ge
theorem HsI.lim (h : HsI K B w b X c L) : c ≤ 1000000 := by
  obtain ⟨⟨v, l, h1, rfl, h2⟩, h3⟩ := h
  exact h1.lim
theorem ins_lengthI (x : Int) : ∀ L : List Int, (ins (keyK K) x L).length = L.length + 1
  | [] => rfl
  | a :: l => by
    unfold ins
    split
    · rfl
    · simp [ins_lengthI x l]
theorem hlenI (h : HsI K B w b X c L) : Calls Tryz.prog 92 #[.pointer (some ⟨b, 0, none⟩)] w fun e w' => e = .returned (.int .i64 L.length) ∧ w = w' := by
  obtain ⟨⟨v, l, h1, rfl, h2⟩, h3⟩ := h
  rw [← h2.length]
  exact len_anyI w h1
def HPushI (K : LK) (B b c : Nat) (X : List Nat) (L : List Int) (w : World) (e : Ending) (w' : World) : Prop := e = .returned (.tuple #[]) ∧ ∃ X', HsI K B w' b X' (c + 1) L ∧ Kept X w w' ∧ ∀ k ∈ X', k ∈ X ∨ w.heap.size ≤ k
theorem hpushI {x : Int} (h : HsI K B w b X c L) (hx : okK K x) (hc : c + 1 ≤ 1000000) : Calls Tryz.prog 72 #[.pointer (some ⟨b, 0, none⟩), .int .i64 x] w (HPushI K B b c X (ins (keyK K) x L) w) := by
  obtain ⟨⟨v, l, h1, rfl, h2⟩, h3⟩ := h
  refine (push_anyI w h1 h2.hp hx hc (by rw [h2.length]; omega)).mono ?_
  rintro e w' ⟨rfl, v', l', hP, hH, hB, hK, hb⟩
  exact ⟨rfl, blk b v', ⟨⟨v', l', hB, rfl, h2.push hP hH⟩, by rw [ins_lengthI]; omega⟩, hK, hb⟩
def HPopI (K : LK) (B b c : Nat) (X : List Nat) (x : Int) (L : List Int) (w : World) (e : Ending) (w' : World) : Prop := e = .returned (.tuple #[.int .i64 x, .bool true]) ∧ HsI K B w' b X c L ∧ Kept X w w'
theorem hpopI {x : Int} (h : HsI K B w b X c (x :: L)) : Calls Tryz.prog 94 #[.pointer (some ⟨b, 0, none⟩)] w (HPopI K B b c X x L w) := by
  have hlim := h.lim
  obtain ⟨⟨v, l, h1, rfl, h2⟩, h3⟩ := h
  have hl := h2.length
  obtain ⟨p, hp⟩ : ∃ p, l[0]? = some p := ⟨l[0]'(by rw [hl]; simp), List.getElem?_eq_getElem _⟩
  obtain ⟨r, hr⟩ := h2.head hp
  injection hr with e1 e2
  subst e1
  refine (pop_someI w h1 h2.hp hp (by rw [hl]; omega)).mono ?_
  rintro e w' ⟨rfl, v', l', hP, hH, hB, hK, hb⟩
  exact ⟨rfl, ⟨⟨v', l', hB, hb, h2.pop hp hP hH⟩, by simp at h3; omega⟩, hK⟩
theorem hpeekI {x : Int} (h : HsI K B w b X c (x :: L)) : Calls Tryz.prog 75 #[.pointer (some ⟨b, 0, none⟩)] w (Told (.tuple #[.int .i64 x, .bool true]) w) := by
  obtain ⟨⟨v, l, h1, rfl, h2⟩, h3⟩ := h
  have hl := h2.length
  obtain ⟨p, hp⟩ : ∃ p, l[0]? = some p := ⟨l[0]'(by rw [hl]; simp), List.getElem?_eq_getElem _⟩
  obtain ⟨r, hr⟩ := h2.head hp
  injection hr with e1 e2
  subst e1
  exact peek_someI w h1 hp
theorem hnilI (h : HsI K B w b X c []) : Calls Tryz.prog 94 #[.pointer (some ⟨b, 0, none⟩)] w (Told (.tuple #[.int .i64 0, .bool false]) w) ∧ Calls Tryz.prog 75 #[.pointer (some ⟨b, 0, none⟩)] w (Told (.tuple #[.int .i64 0, .bool false]) w) := by
  obtain ⟨⟨v, l, h1, rfl, h2⟩, h3⟩ := h
  have hl : l = [] := List.eq_nil_of_length_eq_zero h2.length
  subst hl
  exact ⟨pop_noneI w h1, peek_noneI w h1⟩
end
/-- Things in a row that came in. -/
def RowOfI (K : LK) (w : World) (A : Option Addr) (xs : List Int) : Prop := ∀ (i : Nat) (x : Int), xs[i]? = some x → ∃ b o, A = some ⟨b, o, none⟩ ∧ b < w.heap.size ∧ okK K x ∧ w.cell? ⟨b, o + i, none⟩ = some (.int .i64 x)
theorem RowOfI.later {w w' : World} {A : Option Addr} {xs : List Int} (h : RowOfI K w A xs) (hb : Below w.heap.size w w') : RowOfI K w' A xs := by
  intro i x hx
  obtain ⟨b, o, e, hl, ho, h0⟩ := h i x hx
  exact ⟨b, o, e, Nat.lt_of_lt_of_le hl hb.size, ho, (hb.cell (p := ⟨b, _, none⟩) hl).trans h0⟩
def allInI (K : LK) (xs : List Int) : List Int := xs.foldl (fun L x => ins (keyK K) x L) []
theorem allIn_snocI (xs : List Int) (x : Int) : allInI K (xs ++ [x]) = ins (keyK K) x (allInI K xs) := by simp [allInI]
def HNewI (K : LK) (n : Nat) (L : List Int) (w : World) (e : Ending) (w' : World) : Prop := ∃ X, e = .returned (.pointer (some ⟨w.heap.size, 0, none⟩)) ∧ HsI K w.heap.size w' w.heap.size X n L ∧ Below w.heap.size w w'
set_option maxRecDepth 100000 in
set_option maxHeartbeats 4000000 in
theorem new_anyI {A : Option Addr} {n cap : Nat} {xs : List Int} (w : World) (hL : LessOk K w.heap.size w) (hR : RowOfI K w A xs) (hn : xs.length = n) (h1 : n ≤ 10000) (h2 : n ≤ cap) (h3 : cap ≤ 9223372036854775807) : Calls Tryz.prog 54 #[K.fv, .slice A n cap] w (HNewI K n (allInI K xs) w) := by
  have RR := Lib.hid hR
  have HN := Lib.hid hn
  have hb0 : Below w.heap.size w (w.alloc (.cells #[K.fv, .slice none 0 0, .int .i64 0] 122)) := (Below.refl _ _).alloc (Nat.le_refl _) _
  have h0 : HsI K w.heap.size (w.alloc (.cells #[K.fv, .slice none 0 0, .int .i64 0] 122)) w.heap.size [w.heap.size] 0 [] :=
    ⟨⟨.slice none 0 0, [], ⟨Nat.le_refl _, heap_alloc_new w _, World.ownsRow_nil _ _ _ _, by simp, by simp, by omega, hL.later hb0⟩, rfl, Tells.nil 0⟩, Nat.le_refl _⟩
  have H0 := Lib.hid h0
  have HB0 := Lib.hid hb0
  clear hR hn hb0 h0 hL
  go_enter Tryz.func54, Tryz.ntmps54
  go_wp2
  go_loopw [13] (fun i wr => ∃ (k : Nat) (X : List Nat), k ≤ n ∧ i = .int .i64 k ∧ Hid (HsI K w.heap.size wr w.heap.size X k (allInI K (xs.take k))) ∧ Hid (Below w.heap.size w wr)) (fun i _ => n - (intOf i).toNat)
  case atStart => exact ⟨0, [w.heap.size], Nat.zero_le _, rfl, by rw [List.take_zero]; exact H0, HB0⟩
  case round =>
    obtain ⟨k, X, hk, rfl, hH, hL⟩ := hrel
    clear H0 HB0
    by_cases hlt : k < n
    · obtain ⟨x, hx⟩ : ∃ x, xs[k]? = some x := ⟨xs[k]'(by rw [HN.out]; exact hlt), List.getElem?_eq_getElem _⟩
      have e1 := take_one hx
      obtain ⟨rb, ro, rfl, hrl, hox, x0⟩ := RR.out.later hL.out k x hx
      have PU := Lib.hid (hpushI hH.out hox (by omega))
      have HX := Lib.hid hox
      have HE := Lib.hid (show allInI K (xs.take (k + 1)) = ins (keyK K) x (allInI K (xs.take k)) by rw [e1, allIn_snocI])
      have hi0 : (0 : Int) ≤ (k : Int) := by omega
      have hi1 : (k : Int) < (n : Int) := by omega
      clear hx e1 hox 
      go_wp2_with (go_at_call 72; (with_reducible refine PU.out.mono ?_); rintro e w2 ⟨rfl, X2, hH2, hK2, hX2⟩)
      have hB2 : Below w.heap.size w w2 := by
        exact hL.out.trans (hK2.below hL.out.size (fun j hj => (hH.out.ge j hj).1))
      have H2 := Lib.hid hH2
      have HB2 := Lib.hid hB2
      clear hH2 hK2 hX2 hB2
      go_roundw
      case rel => exact ⟨k + 1, X2, by omega, by go_num, by rw [HE.out]; exact H2, HB2⟩
      case measure => simp [intOf]; omega
    · obtain rfl : k = n := by omega
      go_wp2
      go_ret
      refine ⟨X, rfl, ?_, hL.out⟩
      have := hH.out
      rwa [List.take_of_length_le (by rw [HN.out]; exact Nat.le_refl _)] at this
end Go.Proofs.YtngmaiiibinkaaaGreat
/- The library's contract, laid at this seat's translation. -/
namespace Go.Proofs
open Go.Shelf
def Tryz.growP_ren : Go.Shelf.Ren := ⟨fun | 4 => 110 | n => n, fun | 22 => 125 | 25 => 104 | 3 => 3 | 4 => 4 | 9 => 9 | 20 => 20 | 0 => 0 | n => n, fun | n => n⟩
theorem Tryz.growP : Go.Proofs.Lays8.n4 Tryz.prog Tryz.growP_ren := {
  mixed := by kernel_rfl
  f4 := ⟨Tryz.f110.name, by decide, Tryz.func110.trans (congrArg some (by kernel_rfl))⟩
  t0 := Tryz.underlying0
  a0 := Tryz.isAgg0
  z0 := Tryz.sizeOf0
  v0 := Tryz.zeroValue0
  t3 := Tryz.underlying3
  a3 := Tryz.isAgg3
  z3 := Tryz.sizeOf3
  v3 := Tryz.zeroValue3
  t4 := Tryz.underlying4
  a4 := Tryz.isAgg4
  z4 := Tryz.sizeOf4
  v4 := Tryz.zeroValue4
  t9 := Tryz.underlying9
  a9 := Tryz.isAgg9
  z9 := Tryz.sizeOf9
  v9 := Tryz.zeroValue9
  t20 := Tryz.underlying20
  a20 := Tryz.isAgg20
  z20 := Tryz.sizeOf20
  v20 := Tryz.zeroValue20
  t22 := Tryz.underlying125
  a22 := Tryz.isAgg125
  z22 := Tryz.sizeOf125
  v22 := Tryz.zeroValue125 }
end Go.Proofs
/- A queue in memory: its place, its length, its room. -/
namespace Go.Proofs.YtngmaiiibinkaaaGreat
open Go.RowKit
set_option linter.unusedVariables false
set_option linter.unusedSimpArgs false
attribute [local go_sem ↓] Go.wp_at_zero Go.wp_at_succ

def clP (l : List Nat) : List Value := l.map (fun x => .pointer (some ⟨x, 0, none⟩))
theorem cl_lenP (l : List Nat) : (clP l).length = l.length := by simp [clP]
theorem cl_appP (a b : List Nat) : clP (a ++ b) = clP a ++ clP b := by simp [clP]
theorem cl_getP {l : List Nat} {i : Nat} {x : Nat} (h : l[i]? = some x) : (clP l)[i]? = some (.pointer (some ⟨x, 0, none⟩)) := by simp [clP, h]
theorem cl_get'P {l : List Nat} {i : Nat} {u : Value} (h : (clP l)[i]? = some u) : ∃ x, l[i]? = some x ∧ u = .pointer (some ⟨x, 0, none⟩) := by
  simp only [clP, List.getElem?_map, Option.map_eq_some_iff] at h
  obtain ⟨x, h1, h2⟩ := h
  exact ⟨x, h1, h2.symm⟩
theorem cl_oneP (l : List Nat) : ∀ u ∈ clP l, u.oneCell' = true := by
  intro u hu
  simp only [clP, List.mem_map] at hu
  obtain ⟨x, -, rfl⟩ := hu
  simp [Value.oneCell']
/-- The ring: v its slice, of N places, the first thing at f. -/
def RingP (B : Nat) (w : World) (v : Value) (N f : Nat) (l : List Nat) : Prop := (v = .slice none 0 0 ∧ N = 0 ∧ f = 0 ∧ l = []) ∨
  ∃ g cur, v = .slice (some ⟨g, 0, none⟩) N N ∧ B ≤ g ∧ w.heap[g]? = some (.cells cur 104 (0, 0)) ∧ N ≤ cur.size ∧ f < N ∧ l.length ≤ N ∧ ∀ i x, l[i]? = some x → cur[(f + i) % N]? = some (.pointer (some ⟨x, 0, none⟩))
/-- Block b is a queue: v its ring; l its things. -/
structure FQP (B : Nat) (w : World) (b o : Nat) (v : Value) (N f : Nat) (l : List Nat) : Prop where
  hB : B ≤ b
  row : ∃ cur, w.heap[b]? = some (.cells cur 127 (0, 0))
  c0 : w.cell? ⟨b, o, none⟩ = some v
  c1 : w.cell? ⟨b, o + 1, none⟩ = some (.int .i64 (f : Int))
  c2 : w.cell? ⟨b, o + 2, none⟩ = some (.int .i64 (l.length : Int))
  ring : RingP B w v N f l
  lim : N ≤ 1000000
theorem cell_set_at {w : World} {p : Addr} {u v : Value} (h : w.cell? p = some u) : (w.setCell p v).cell? p = some v := by
  apply World.cell?_setCell_same; exact h
theorem cell_set_far {w : World} {p q : Addr} {v : Value} (h : p ≠ q) : (w.setCell p v).cell? q = w.cell? q := by
  apply World.cell?_setCell_other; exact h
/-- Of block b nothing has turned but the three cells at o. -/
def FrQ (b o : Nat) (w w' : World) : Prop := ∀ i, (i < o ∨ o + 3 ≤ i) → w'.cell? ⟨b, i, none⟩ = w.cell? ⟨b, i, none⟩
theorem FrQ.of {b o : Nat} {w w' : World} (h : Below w.heap.size w w') (hb : b < w.heap.size) : FrQ b o w w' := fun i _ => h.cell (p := ⟨b, i, none⟩) hb
theorem FrQ.kept {b o : Nat} {X : List Nat} {w w' : World} (h : Kept X w w') (hb : b < w.heap.size) (hx : b ∉ X) : FrQ b o w w' := fun i _ => h.cell hb hx
theorem FrQ.trans {b o : Nat} {w w' w'' : World} (h : FrQ b o w w') (k : FrQ b o w' w'') : FrQ b o w w'' := fun i hi => (k i hi).trans (h i hi)
theorem FrQ.setg {b o : Nat} {a w : World} (h : FrQ b o a w) (g i : Nat) (v : Value) (hg : g ≠ b) : FrQ b o a (w.setCell ⟨g, i, none⟩ v) := fun k hk => (cell_set_far (by intro e; injection e with e1 e2; exact hg e1)).trans (h k hk)
theorem FrQ.setb {b o : Nat} {a w : World} (h : FrQ b o a w) (i : Nat) (v : Value) (hi : o ≤ i ∧ i < o + 3) : FrQ b o a (w.setCell ⟨b, i, none⟩ v) := fun k hk => (cell_set_far (by intro e; injection e with e1 e2; omega)).trans (h k hk)
section
variable {B : Nat} {w w' : World} {b o N f : Nat} {v : Value} {l : List Nat}
theorem FQP.lt (h : FQP B w b o v N f l) : b < w.heap.size := World.block_lt_of_cell? w _ h.c0
theorem FQP.fz (h : FQP B w b o v N f l) (i : Nat) : w.frozen? ⟨b, i, none⟩ = false := by
  obtain ⟨cur, hc⟩ := h.row
  simp [World.frozen?, hc]
theorem FQP.blk_ge (h : FQP B w b o v N f l) : ∀ k ∈ blk b v, B ≤ k ∧ k < w.heap.size := by
  intro k hk
  simp only [blk, List.mem_cons] at hk
  rcases hk with rfl | hk
  · exact ⟨h.hB, h.lt⟩
  · rcases h.ring with ⟨rfl, _⟩ | ⟨g, cur, rfl, hg, hh, _⟩
    · simp [Value.ownBlock] at hk
    · simp [Value.ownBlock] at hk
      subst hk
      exact ⟨hg, (Array.getElem?_eq_some_iff.1 hh).1⟩
theorem RingP.kept {X : List Nat} (h : RingP B w v N f l) (hk : Kept X w w') (hx : ∀ k ∈ v.ownBlock.toList, k ∉ X) : RingP B w' v N f l := by
  rcases h with h | ⟨g, cur, rfl, hg, hh, r⟩
  · exact .inl h
  · exact .inr ⟨g, cur, rfl, hg, (hk.block g (Array.getElem?_eq_some_iff.1 hh).1 (hx g (by simp [Value.ownBlock]))).trans hh, r⟩
theorem FQP.kept {X : List Nat} (h : FQP B w b o v N f l) (hk : Kept X w w') (hx : ∀ k ∈ blk b v, k ∉ X) : FQP B w' b o v N f l :=
  ⟨h.hB, (by obtain ⟨cur, hc⟩ := h.row; exact ⟨cur, (hk.block b h.lt (hx b (by simp [blk]))).trans hc⟩), (hk.cell h.lt (hx b (by simp [blk]))).trans h.c0, (hk.cell h.lt (hx b (by simp [blk]))).trans h.c1, (hk.cell h.lt (hx b (by simp [blk]))).trans h.c2, h.ring.kept hk (fun k hm => hx k (by simp only [blk, List.mem_cons]; exact .inr hm)), h.lim⟩
theorem FQP.later (h : FQP B w b o v N f l) (hb : Below w.heap.size w w') : FQP B w' b o v N f l := h.kept (Kept.of [] hb) (by simp)
theorem FQP.len_le (h : FQP B w b o v N f l) : l.length ≤ N := by
  rcases h.ring with ⟨_, rfl, _, rfl⟩ | ⟨g, cur, _, _, _, _, _, h, _⟩
  · exact Nat.le_refl _
  · exact h
theorem FQP.open (h : FQP B w b o v N f l) (hN : 0 < N) : ∃ g cur, v = .slice (some ⟨g, 0, none⟩) N N ∧ B ≤ g ∧ w.heap[g]? = some (.cells cur 104 (0, 0)) ∧ N ≤ cur.size ∧ f < N ∧ (∀ i x, l[i]? = some x → cur[(f + i) % N]? = some (.pointer (some ⟨x, 0, none⟩))) ∧ b ≠ g := by
  rcases h.ring with ⟨_, rfl, _⟩ | ⟨g, cur, rfl, h1, h2, h3, h4, h5, h6⟩
  · omega
  · refine ⟨g, cur, rfl, h1, h2, h3, h4, h6, ?_⟩
    rintro rfl
    obtain ⟨cq, this⟩ := h.row
    rw [h2] at this
    simp only [Option.some.injEq, Obj.cells.injEq] at this
    exact absurd this.2.1 (by decide)
theorem FQP.first (h : FQP B w b o v N f l) (hN : 0 < N) : f < N := by
  obtain ⟨_, _, _, _, _, _, h, _⟩ := h.open hN
  exact h
theorem FQP.ringv (h : FQP B w b o v N f l) : ∃ A, v = .slice A N N := by
  rcases h.ring with ⟨rfl, rfl, _⟩ | ⟨g, cur, rfl, _⟩
  · exact ⟨_, rfl⟩
  · exact ⟨_, rfl⟩
end
set_option maxRecDepth 100000 in
set_option maxHeartbeats 2000000 in
theorem len_anyP {B b o N f : Nat} {v : Value} {l : List Nat} (w : World) (h : FQP B w b o v N f l) : Calls Tryz.prog 73 #[.pointer (some ⟨b, o, none⟩)] w fun e w' => e = .returned (.int .i64 (l.length : Int)) ∧ w = w' := by
  have c2 := h.c2
  generalize l.length = n at *
  clear h
  go_enter Tryz.func73, Tryz.ntmps73
  go_wp2
  go_ret
  exact ⟨rfl, rfl⟩
set_option maxRecDepth 100000 in
set_option maxHeartbeats 4000000 in
theorem place_cP {b o N f : Nat} {A : Option Addr} (w : World) (c0 : w.cell? ⟨b, o, none⟩ = some (.slice A N N)) (c1 : w.cell? ⟨b, o + 1, none⟩ = some (.int .i64 (f : Int))) (hf : f < N) (hl : N ≤ 1000000) (i : Nat) (hi : i ≤ 1000000) : Calls Tryz.prog 91 #[.pointer (some ⟨b, o, none⟩), .int .i64 (i : Int)] w (Quiet (.int .i64 (((f + i) % N : Nat) : Int)) w) := by
  obtain ⟨s, hs⟩ : ∃ s, f + i = s := ⟨_, rfl⟩
  have hm := tmod_nat s N
  have he : (f : Int) + (i : Int) = (s : Int) := by omega
  have hs2 : s ≤ 2000000 := by omega
  rw [hs]
  have hz : (N : Int) ≠ 0 := by omega
  generalize s % N = r at *
  clear hs
  go_enter Tryz.func91, Tryz.ntmps91
  go_upto_region 1 with (fail)
  go_quiet (fail)
  go_wp2
  go_ret
  exact ⟨rfl, _, rfl⟩
theorem place_anyP {B b o N f : Nat} {v : Value} {l : List Nat} (w : World) (h : FQP B w b o v N f l) (i : Nat) (hN : 0 < N) (hi : i ≤ 1000000) : Calls Tryz.prog 91 #[.pointer (some ⟨b, o, none⟩), .int .i64 (i : Int)] w (Quiet (.int .i64 (((f + i) % N : Nat) : Int)) w) := by
  obtain ⟨g, cur, rfl, -, -, -, hf, -⟩ := h.open hN
  exact place_cP w h.c0 h.c1 hf h.lim i hi
end Go.Proofs.YtngmaiiibinkaaaGreat
/- Rows one behind the other; all things of a queue in a row of their own. -/
namespace Go.Proofs.YtngmaiiibinkaaaGreat
open Go.RowKit
set_option linter.unusedVariables false
set_option linter.unusedSimpArgs false
attribute [local go_sem ↓] Go.wp_at_zero Go.wp_at_succ

theorem infoTP : (Tryz.prog.info? 104).map (fun i => (i.zero, i.size, i.bytes)) = some (some (.pointer none), 1, 8) := by kernel_rfl
theorem grow_zeroP (w : World) : Calls Tryz.prog 110 #[.slice none 0 0, .int .i64 0] w fun e w' => e = .returned (.slice none 0 0) ∧ w' = w :=
  Any8.slices_Grow_room Tryz.growP none 0 0 0 w (by omega) (by omega) (by omega) (by omega)
def GrownToP (n : Nat) (w : World) (e : Ending) (w' : World) : Prop := ∃ cap, e = .returned (.slice (some ⟨w.heap.size, 0, none⟩) 0 cap) ∧ n ≤ cap ∧ cap ≤ 9223372036854775807 ∧ w'.ownsRow w.heap.size 104 1 (.slice (some ⟨w.heap.size, 0, none⟩) 0 cap) 0 [] ∧ Below w.heap.size w w'
theorem grow_someP (w : World) (n : Nat) (h0 : 0 < n) (h1 : n ≤ 4000000) : Calls Tryz.prog 110 #[.slice none 0 0, .int .i64 (n : Int)] w (GrownToP n w) := by
  obtain ⟨i0, hi, hz0, hz1, hz2⟩ := info_parts infoTP
  refine (Any8.slices_Grow_grow Tryz.growP i0 _ hi hz0 (by omega) none 0 0 n [] w (Nat.le_refl _) (by omega) (by rw [hz2]; omega) (by omega) (by simp) (fun _ => rfl) (fun a h => by cases h)).mono ?_
  rintro e w' ⟨rfl, rfl⟩
  have e25 : Tryz.growP_ren.t 25 = 104 := rfl
  have hg := grownCap_ge w (0 + n) 0 104
  have hm := grownCap_le_maxLen w (0 + n) 0 104 (by unfold maxLen; omega)
  refine ⟨grownCap w (0 + n) 0 104, rfl, by omega, by unfold maxLen at hm; omega, ?_, ?_⟩
  · refine World.ownsRow_made w.drew _ _ (Nat.le_refl _) hm ?_
    rw [Nat.zero_add] at hg
    simp [Builtin.zeroCells, Value.cells, e25]
    omega
  · exact Below.trans (below_drew w) (show Below w.drew.heap.size w.drew _ from (Below.refl _ _).alloc (Nat.le_refl _) _)
/-- Things that lie in a row. -/
def RowAP (w : World) (a : Addr) (xs : List Nat) : Prop := ∀ (i : Nat) (x : Nat), xs[i]? = some x → w.cell? (a.add i) = some (.pointer (some ⟨x, 0, none⟩))
theorem RowAP.later {w w' : World} {a : Addr} {xs : List Nat} (h : RowAP w a xs) (hb : Below w.heap.size w w') : RowAP w' a xs := by
  intro i x hx
  have h0 := h i x hx
  exact (hb.cell (p := a.add i) (World.block_lt_of_cell? w _ h0)).trans h0
theorem RowAP.cells {w : World} {a : Addr} {xs : List Nat} (h : RowAP w a xs) : ∀ (j : Nat) (u : Value), (clP xs)[j]? = some u → w.cell? (a.add j) = some u := by
  intro j u hu
  obtain ⟨x, hx, rfl⟩ := cl_get'P hu
  exact h j x hx
def RowPP (w : World) (B n : Nat) (xs : List Nat) (e : Ending) (w' : World) : Prop := ∃ v, e = .returned v ∧ w'.ownsRow B 104 1 v n (clP xs) ∧ Below w.heap.size w w'
def TwoP (W0 : World) (t : Nat) (A1 A2 : Option Addr) (p q c1 c2 : Nat) (W : World) : Prop := W.cell? ⟨t, 0, none⟩ = some (.slice A1 p c1) ∧ W.cell? ⟨t, 1, none⟩ = some (.slice A2 q c2) ∧ Below W0.heap.size W0 W
theorem TwoP.step {W0 W W' : World} {t : Nat} {A1 A2 : Option Addr} {p q c1 c2 : Nat} (h : TwoP W0 t A1 A2 p q c1 c2 W) (hb : Below W.heap.size W W') : TwoP W0 t A1 A2 p q c1 c2 W' :=
  ⟨(hb.cell (p := ⟨t, 0, none⟩) (World.block_lt_of_cell? W _ h.1)).trans h.1, (hb.cell (p := ⟨t, 1, none⟩) (World.block_lt_of_cell? W ⟨t, 1, none⟩ h.2.1)).trans h.2.1, h.2.2.trans (hb.mono h.2.2.size)⟩
theorem TwoP.own {W0 W W' : World} {t n : Nat} {A1 A2 : Option Addr} {p q c1 c2 : Nat} {e : TypeId} {u : Value} {zs : List Value} (h : TwoP W0 t A1 A2 p q c1 c2 W) (ht : t < W0.heap.size) (hg : W.grownBy W' u.ownBlock) (hr : W.ownsRow W0.heap.size e 1 u n zs) : TwoP W0 t A1 A2 p q c1 c2 W' := by
  have B : Below W0.heap.size W0 W' := h.2.2.grown hg h.2.2.size (fun k e => (hr.lt k e).1)
  exact ⟨((B.cell (p := ⟨t, 0, none⟩) ht).trans (h.2.2.cell (p := ⟨t, 0, none⟩) ht).symm).trans h.1, ((B.cell (p := ⟨t, 1, none⟩) ht).trans (h.2.2.cell (p := ⟨t, 1, none⟩) ht).symm).trans h.2.1, B⟩
set_option maxRecDepth 100000 in
set_option maxHeartbeats 4000000 in
/-- Of rows that lie somewhere. -/
theorem concat_someP (w : World) {t p q c1 c2 : Nat} {a1 a2 : Addr} {xs ys : List Nat} (h1 : w.cell? ⟨t, 0, none⟩ = some (.slice (some a1) p c1)) (h2 : w.cell? ⟨t, 1, none⟩ = some (.slice (some a2) q c2)) (hx : RowAP w a1 xs) (hy : RowAP w a2 ys) (hp : xs.length = p) (hq : ys.length = q) (hn : p + q ≤ 2000000) (h0 : 0 < p + q) :
    Calls Tryz.prog 111 #[.slice (some ⟨t, 0, none⟩) 2 2] w (RowPP w w.heap.size (p + q) (xs ++ ys)) := by
  obtain ⟨i0, hi, hz0, hz1, hz2⟩ := info_parts infoTP
  obtain ⟨n, hpq⟩ : ∃ n, p + q = n := ⟨_, rfl⟩
  have hpqI : (p : Int) + (q : Int) = (n : Int) := by omega
  have TL := Lib.hid (World.block_lt_of_cell? w ⟨t, 0, none⟩ h1)
  have T0 := Lib.hid (show TwoP w t (some a1) (some a2) p q c1 c2 w from ⟨h1, h2, Below.refl _ _⟩)
  have HX := Lib.hid hx
  have HY := Lib.hid hy
  have G := Lib.hid (grow_someP w n (by omega) (by omega))
  have HP := Lib.hid hp
  have HQ := Lib.hid hq
  have HPQ := Lib.hid hpq
  have hn2 : n ≤ 2000000 := by omega
  have hp2 : p ≤ 2000000 := by omega
  have hq2 : q ≤ 2000000 := by omega
  clear hx hy hp hq h0 hn
  rw [hpq]
  clear hpq
  go_enter Tryz.func111, Tryz.ntmps111
  go_wp2
  go_loopw [3, 11] (fun s i wr => wr = w ∧ ((i = .int .i64 0 ∧ s = .int .i64 0) ∨ (i = .int .i64 1 ∧ s = .int .i64 (p : Int)) ∨ (i = .int .i64 2 ∧ s = .int .i64 (n : Int)))) (fun s i _ => 2 - (intOf i).toNat)
  case atStart => exact ⟨rfl, .inl ⟨rfl, rfl⟩⟩
  case round =>
    obtain ⟨hwr, hr⟩ := hrel
    obtain rfl : w = wr := hwr.symm
    rcases hr with ⟨rfl, rfl⟩ | ⟨rfl, rfl⟩ | ⟨rfl, rfl⟩
    · go_wp2
      go_roundw
      case rel => first | exact ⟨rfl, .inr (.inl ⟨rfl, by simp⟩)⟩ | (simp; done)
      case measure => simp [intOf]
    · go_wp2
      go_roundw
      case rel => first | exact ⟨rfl, .inr (.inr ⟨rfl, by simp⟩)⟩ | (simp; done)
      case measure => simp [intOf]
    · clear h1 h2
      go_wp2_with (go_at_call 110; (with_reducible refine G.out.mono ?_); rintro e w1 ⟨cap, rfl, hcap, hcap2, hown, hB1⟩)
      have T1 := Lib.hid (T0.out.step hB1)
      have O1 := Lib.hid hown
      generalize hbase : w.heap.size = base at *
      have hbs : base ≤ w1.heap.size := by have := hB1.size; omega
      clear hown hB1 G
      go_loopw [6, 27] (fun v i wr => Hid (TwoP w t (some a1) (some a2) p q c1 c2 wr) ∧ Hid (base ≤ wr.heap.size) ∧ ((i = .int .i64 0 ∧ Hid (wr.ownsRow base 104 1 v 0 [])) ∨ (i = .int .i64 1 ∧ Hid (wr.ownsRow base 104 1 v p (clP xs))) ∨ (i = .int .i64 2 ∧ Hid (wr.ownsRow base 104 1 v n (clP xs ++ clP ys))))) (fun v i _ => 2 - (intOf i).toNat)
      case atStart => exact ⟨T1, Lib.hid hbs, .inl ⟨rfl, O1⟩⟩
      case round =>
        obtain ⟨hT, hb, hr⟩ := hrel
        clear T1 O1
        have x1 := hT.out.1
        have x2 := hT.out.2.1
        have hX := Lib.hid ((HX.out.later hT.out.2.2).cells)
        have hY := Lib.hid ((HY.out.later hT.out.2.2).cells)
        rcases hr with ⟨rfl, hO⟩ | ⟨rfl, hO⟩ | ⟨rfl, hO⟩
        · go_wp2_with (at_builtin; refine wpList_append_own _ rfl _ _ 125 rfl base 104 i0 _ 1 8 Tryz.underlying125 hi hz0 hz1 hz2 rfl (by decide) u6 0 [] rfl hO.out a1 p c1 (clP xs) rfl (by rw [cl_lenP, HP.out, Nat.mul_one]) hX.out (cl_oneP xs) (by unfold maxLen; omega) (by omega) hb.out ?_; intro v' w2 hown' hgrow hnil')
          have hT2 := hT.out.own (by rw [hbase]; exact TL.out) hgrow (by rw [hbase]; exact hO.out)
          go_roundw
          case rel => exact ⟨Lib.hid hT2, Lib.hid (by have := hT2.2.2.size; omega), .inr (.inl ⟨rfl, Lib.hid (by simpa using hown')⟩)⟩
          case measure => simp [intOf]
        · go_wp2_with (at_builtin; refine wpList_append_own _ rfl _ _ 125 rfl base 104 i0 _ 1 8 Tryz.underlying125 hi hz0 hz1 hz2 rfl (by decide) u6 p (clP xs) rfl hO.out a2 q c2 (clP ys) rfl (by rw [cl_lenP, HQ.out, Nat.mul_one]) hY.out (cl_oneP ys) (by unfold maxLen; omega) (by omega) hb.out ?_; intro v' w2 hown' hgrow hnil')
          have hT2 := hT.out.own (by rw [hbase]; exact TL.out) hgrow (by rw [hbase]; exact hO.out)
          go_roundw
          case rel => exact ⟨Lib.hid hT2, Lib.hid (by have := hT2.2.2.size; omega), .inr (.inr ⟨rfl, Lib.hid (by rw [HPQ.out] at hown'; exact hown')⟩)⟩
          case measure => simp [intOf]
        · go_wp2
          go_ret
          exact ⟨_, rfl, by rw [cl_appP]; exact hO.out, hT.out.2.2⟩
theorem run_append_zeroP (w : World) (ty : TypeId) (A : Option Addr) (c : Nat) : (Builtin.append_ #[125, 125] ty #[.slice none 0 0, .slice A 0 c]).run Tryz.prog w = .ok (.slice none 0 0) w := by
  obtain ⟨i0, hi, hz0, hz1, hz2⟩ := info_parts infoTP
  cases A <;> simp [Builtin.append_, run_underlying (P := Tryz.prog) Tryz.underlying125, sizeOf, typeInfo, hi, Builtin.lenOf, Builtin.firstCells, loadCells, loadCellsFrom]
theorem wpList_app0P (w : World) {ops : Array Oper} {rest : List Oper} {o : Oper} {a : Act} {Q : Exit → Act → World → Prop} (hg : o.guard = none) (s x : Operand)
    (hop : o.op = Op.call { callee := Callee.builtin Builtin.append, args := #[s, x], argTypes := #[125, 125] }) (A : Option Addr) (c : Nat) (hs : a.eval s = .slice none 0 0) (hx : a.eval x = .slice A 0 c)
    (hK : wpList Tryz.prog ops Q rest (a.put o.dst (.slice none 0 0)) w) : wpList Tryz.prog ops Q (o :: rest) a w := by
  refine wpList_plain hg fun K hK' => ?_
  have hrun := run_append_zeroP w o.type A c
  unfold Oper.wp
  simp [execOp, hop, resolve, invoke, builtin, hs, hx, hrun, Result.andThen]
  exact hK' _ _ hK
set_option maxRecDepth 100000 in
set_option maxHeartbeats 4000000 in
/-- Of none. -/
theorem concat_noneP (w : World) {t c1 c2 : Nat} {A1 A2 : Option Addr} (h1 : w.cell? ⟨t, 0, none⟩ = some (.slice A1 0 c1)) (h2 : w.cell? ⟨t, 1, none⟩ = some (.slice A2 0 c2)) :
    Calls Tryz.prog 111 #[.slice (some ⟨t, 0, none⟩) 2 2] w (RowPP w w.heap.size 0 []) := by
  have G := Lib.hid (grow_zeroP w)
  have RZ := fun ty A c => run_append_zeroP w ty A c
  go_enter Tryz.func111, Tryz.ntmps111
  go_wp2
  go_loopw [3, 11] (fun s i wr => wr = w ∧ ((i = .int .i64 0 ∧ s = .int .i64 0) ∨ (i = .int .i64 1 ∧ s = .int .i64 0) ∨ (i = .int .i64 2 ∧ s = .int .i64 0))) (fun s i _ => 2 - (intOf i).toNat)
  case atStart => exact ⟨rfl, .inl ⟨rfl, rfl⟩⟩
  case round =>
    obtain ⟨hwr, hr⟩ := hrel
    obtain rfl : w = wr := hwr.symm
    rcases hr with ⟨rfl, rfl⟩ | ⟨rfl, rfl⟩ | ⟨rfl, rfl⟩
    · go_wp2
      go_roundw
      case rel => first | exact ⟨rfl, .inr (.inl ⟨rfl, by simp⟩)⟩ | (simp; done)
      case measure => simp [intOf]
    · go_wp2
      go_roundw
      case rel => first | exact ⟨rfl, .inr (.inr ⟨rfl, by simp⟩)⟩ | (simp; done)
      case measure => simp [intOf]
    · go_wp2_with (go_at_call 110; (with_reducible refine G.out.mono ?_); rintro e w1 ⟨rfl, rfl⟩)
      go_loopw [6, 27] (fun v i wr => wr = w1 ∧ v = .slice none 0 0 ∧ ((i = .int .i64 0) ∨ (i = .int .i64 1) ∨ (i = .int .i64 2))) (fun v i _ => 2 - (intOf i).toNat)
      case atStart => exact ⟨rfl, rfl, .inl rfl⟩
      case round =>
        obtain ⟨hwr, rfl, hr⟩ := hrel
        obtain rfl : w1 = wr := hwr.symm
        rcases hr with rfl | rfl | rfl
        · go_wp2_with (at_builtin; refine wpList_app0P _ rfl _ _ rfl A1 c1 rfl rfl ?_)
          go_roundw
          case rel => first | exact ⟨rfl, rfl, .inr (.inl rfl)⟩ | (simp; done)
          case measure => simp [intOf]
        · go_wp2_with (at_builtin; refine wpList_app0P _ rfl _ _ rfl A2 c2 rfl rfl ?_)
          go_roundw
          case rel => first | exact ⟨rfl, rfl, .inr (.inr rfl)⟩ | (simp; done)
          case measure => simp [intOf]
        · go_wp2
          go_ret
          exact ⟨_, rfl, World.ownsRow_nil _ _ _ _, Below.refl _ _⟩
end Go.Proofs.YtngmaiiibinkaaaGreat
/- All things of a queue, in a row of their own. -/
namespace Go.Proofs.YtngmaiiibinkaaaGreat
open Go.RowKit
set_option linter.unusedVariables false
set_option linter.unusedSimpArgs false
attribute [local go_sem ↓] Go.wp_at_zero Go.wp_at_succ

def CcP (w : World) (b o : Nat) (v : Value) (f : Nat) (W : World) : Prop := W.cell? ⟨b, o, none⟩ = some v ∧ W.cell? ⟨b, o + 1, none⟩ = some (.int .i64 (f : Int)) ∧ Below w.heap.size w W
theorem CcP.step {w W W' : World} {b o f : Nat} {v : Value} (h : CcP w b o v f W) (hb : Below W.heap.size W W') : CcP w b o v f W' :=
  ⟨(hb.cell (p := ⟨b, o, none⟩) (World.block_lt_of_cell? W _ h.1)).trans h.1, (hb.cell (p := ⟨b, o + 1, none⟩) (World.block_lt_of_cell? W ⟨b, o + 1, none⟩ h.2.1)).trans h.2.1, h.2.2.trans (hb.mono h.2.2.size)⟩
/-- Where the things stand: at the ring's end, and at its beginning. -/
theorem ring_rowsP {w : World} {g N f : Nat} {cur : Array Value} {l : List Nat} (hg : w.heap[g]? = some (.cells cur 104 (0, 0))) (hl : l.length ≤ N) (hf : f < N) (h : ∀ i x, l[i]? = some x → cur[(f + i) % N]? = some (.pointer (some ⟨x, 0, none⟩))) :
    RowAP w ⟨g, f, none⟩ (l.take (N - f)) ∧ RowAP w ⟨g, 0, none⟩ (l.drop (N - f)) := by
  refine ⟨fun i x hx => ?_, fun i x hx => ?_⟩
  · have hi : i < N - f := by
      have := (List.getElem?_eq_some_iff.1 hx).1
      simp at this; omega
    rw [List.getElem?_take, if_pos hi] at hx
    have := h i x hx
    rw [Nat.mod_eq_of_lt (by omega)] at this
    rw [add_none, cell_of_row w g (f + i) _ _ _ hg, this]
  · rw [List.getElem?_drop] at hx
    have hi := (List.getElem?_eq_some_iff.1 hx).1
    have := h _ x hx
    rw [show f + (N - f + i) = N + i by omega, Nat.add_mod_left, Nat.mod_eq_of_lt (by omega)] at this
    rw [add_none, cell_of_row w g (0 + i) _ _ _ hg, Nat.zero_add, this]
/-- The world in which both parts stand in a row. -/
def WcP (w : World) (x y : Value) : World := (w.alloc (.cells #[x, y] 125)).drew.drew.drew
theorem Wc_belowP (w : World) (x y : Value) : Below w.heap.size w (WcP w x y) ∧ (WcP w x y).heap.size = w.heap.size + 1 ∧ (WcP w x y).cell? ⟨w.heap.size, 0, none⟩ = some x ∧ (WcP w x y).cell? ⟨w.heap.size, 1, none⟩ = some y := by
  have hb : Below w.heap.size w (w.alloc (.cells #[x, y] 125)) := (Below.refl _ w).alloc (Nat.le_refl _) _
  have hs : (w.alloc (.cells #[x, y] 125)).heap.size = w.heap.size + 1 := by simp
  refine ⟨⟨hb.os, hb.tape, hb.output, hb.size, hb.block⟩, hs, ?_, ?_⟩
  · exact cell_of_row (w.alloc (.cells #[x, y] 125)) w.heap.size 0 _ _ _ (heap_alloc_new w _)
  · exact cell_of_row (w.alloc (.cells #[x, y] 125)) w.heap.size 1 _ _ _ (heap_alloc_new w _)
set_option maxRecDepth 100000 in
set_option maxHeartbeats 8000000 in
theorem things_anyP {B b o N f : Nat} {v : Value} {l : List Nat} (w : World) (h : FQP B w b o v N f l) : Calls Tryz.prog 90 #[.pointer (some ⟨b, o, none⟩)] w (RowPP w w.heap.size l.length l) := by
  have c0 := h.c0
  have c1 := h.c1
  have c2 := h.c2
  have hb := h.lt
  have hlim := h.lim
  rcases Nat.eq_zero_or_pos N with h0 | hN
  · obtain ⟨rfl, rfl, rfl⟩ : v = .slice none 0 0 ∧ f = 0 ∧ l = [] := by
      rcases h.ring with ⟨h1, h2, h3, h4⟩ | ⟨g, cur, h1, h2, h3, h4, h5, h6⟩
      · exact ⟨h1, h3, h4⟩
      · omega
    obtain ⟨wb, ws, t0, t1⟩ := Wc_belowP w (.slice none 0 0) (.slice none 0 0)
    have CC := Lib.hid ((concat_noneP (WcP w (.slice none 0 0) (.slice none 0 0)) (t := w.heap.size) t0 t1).mono (R' := RowPP w w.heap.size 0 []) (by
      rintro e w' ⟨v, rfl, ho, hb⟩
      exact ⟨v, rfl, own_base ho (by omega), wb.trans (hb.mono (by omega))⟩))
    unfold WcP at CC
    clear wb ws t0 t1
    have C0 := Lib.hid (show CcP w b o (.slice none 0 0) 0 w from ⟨c0, c1, Below.refl _ _⟩)
    clear h
    go_enter Tryz.func90, Tryz.ntmps90
    go_upto_region 3 with (fail)
    go_region
    go_upto_region 4 with (fail)
    go_region
    go_upto_region 5 with (fail)
    have C1 := Lib.hid (((C0.out.step (below_drew _)).step (below_drew _)).step (below_drew _))
    go_region_held3 (fun W => W.cell? ⟨b, o, none⟩ = some (.slice none 0 0) ∧ W.cell? ⟨b, o + 1, none⟩ = some (.int .i64 0) ∧ Below w.heap.size w W)
      (first | assumption | exact C1.out | exact C9.out | exact (CcP.step (by assumption : CcP w b o (.slice none 0 0) 0 _) ((Below.refl _ _).alloc (Nat.le_refl _) _)))
      ((go_at_call 111; (with_reducible refine CC.out.mono ?_); rintro e w' ⟨v', rfl, ho, hB⟩; have HO := Lib.hid ho; have HB := Lib.hid hB; have C9 := Lib.hid (C0.out.step hB)))
    go_wp2
    go_ret
    exact ⟨v', rfl, HO.out, HB.out⟩
  · obtain ⟨g, cur, rfl, hBg, hg, hc, hf, hi, hne⟩ := h.open hN
    have hle := h.len_le
    obtain ⟨R1, R2⟩ := ring_rowsP hg hle hf hi
    obtain ⟨p, hp⟩ : ∃ p, (l.take (N - f)).length = p := ⟨_, rfl⟩
    obtain ⟨q, hq⟩ : ∃ q, (l.drop (N - f)).length = q := ⟨_, rfl⟩
    obtain ⟨n, hn⟩ : ∃ n, l.length = n := ⟨_, rfl⟩
    have hp' := hp
    have hq' := hq
    rw [List.length_take] at hp'
    rw [List.length_drop] at hq'
    rw [hn] at c2 hle hp' hq' ⊢
    obtain ⟨e, he⟩ : ∃ e, f + p = e := ⟨_, rfl⟩
    have hmin : min ((f : Int) + (n : Int)) (N : Int) = (e : Int) := by omega
    have hwd : (n : Int) - ((e : Int) - (f : Int)) = (q : Int) := by omega
    have hpe : e - f = p := by omega
    have hNf : ¬ N = f := by omega
    have hfe : f ≤ e := by omega
    have heN : e ≤ N := by omega
    have hqN : q ≤ N := by omega
    have hpq : p + q = n := by omega
    obtain ⟨wb, ws, t0, t1⟩ := Wc_belowP w (.slice (some ⟨g, f, none⟩) p (N - f)) (.slice (some ⟨g, 0, none⟩) q N)
    have CC := Lib.hid (show Calls Tryz.prog 111 #[.slice (some ⟨w.heap.size, 0, none⟩) 2 2] (WcP w (.slice (some ⟨g, f, none⟩) p (N - f)) (.slice (some ⟨g, 0, none⟩) q N)) (RowPP w w.heap.size n l) from by
      have fin : ∀ e w', RowPP (WcP w (.slice (some ⟨g, f, none⟩) p (N - f)) (.slice (some ⟨g, 0, none⟩) q N)) (WcP w (.slice (some ⟨g, f, none⟩) p (N - f)) (.slice (some ⟨g, 0, none⟩) q N)).heap.size n l e w' → RowPP w w.heap.size n l e w' := by
        rintro e w' ⟨v, rfl, ho, hb⟩
        exact ⟨v, rfl, own_base ho (by omega), wb.trans (hb.mono (by omega))⟩
      by_cases hz : n = 0
      · subst hz
        obtain rfl : p = 0 := by omega
        obtain rfl : q = 0 := by omega
        obtain rfl : l = [] := List.eq_nil_of_length_eq_zero hn
        exact (concat_noneP _ t0 t1).mono fin
      · have := concat_someP _ t0 t1 (R1.later wb) (R2.later wb) hp hq (by omega) (by omega)
        rw [List.take_append_drop, hpq] at this
        exact this.mono fin)
    unfold WcP at CC
    clear wb ws t0 t1
    have C0 := Lib.hid (show CcP w b o (.slice (some ⟨g, 0, none⟩) N N) f w from ⟨c0, c1, Below.refl _ _⟩)
    clear h R1 R2 hp hq hn hi hp' hq'
    go_enter Tryz.func90, Tryz.ntmps90
    go_upto_region 3 with (fail)
    go_region
    go_upto_region 4 with (fail)
    go_region
    go_upto_region 5 with (fail)
    have C1 := Lib.hid (((C0.out.step (below_drew _)).step (below_drew _)).step (below_drew _))
    go_region_held3 (fun W => W.cell? ⟨b, o, none⟩ = some (.slice (some ⟨g, 0, none⟩) N N) ∧ W.cell? ⟨b, o + 1, none⟩ = some (.int .i64 (f : Int)) ∧ Below w.heap.size w W)
      (first | assumption | exact C1.out | exact C9.out | exact (CcP.step (by assumption : CcP w b o (.slice (some ⟨g, 0, none⟩) N N) f _) ((Below.refl _ _).alloc (Nat.le_refl _) _)))
      ((go_at_call 111; (with_reducible refine CC.out.mono ?_); rintro e w' ⟨v', rfl, ho, hB⟩; have HO := Lib.hid ho; have HB := Lib.hid hB; have C9 := Lib.hid (C0.out.step hB)))
    go_wp2
    go_ret
    exact ⟨v', rfl, HO.out, HB.out⟩
end Go.Proofs.YtngmaiiibinkaaaGreat
