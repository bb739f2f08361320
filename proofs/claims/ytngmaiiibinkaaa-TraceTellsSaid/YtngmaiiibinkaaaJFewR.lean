/- The law's few raw jobs. -/
import Derived.Test.YtngmaiiibinkaaaJArr
namespace Go.Proofs.Ytngmaiiibinkaaa
open Go.RowKit
set_option linter.unusedVariables false
set_option linter.unusedSimpArgs false

def fewRS1 (r : Fv) : Fv := { r with a := r.a % 12, c := r.c.take 5 }
def fewRS (rs : List Fv) : List Fv := (rs.take 12).map fewRS1
def fewRSPost (rs : List Fv) (w : World) (e : Ending) (w' : World) : Prop := ∃ v gs, e = .returned v ∧ FOwn 58 w.heap.size w' v gs ∧ gs.map (·.x) = fewRS rs ∧ Below w.heap.size w w'
structure fewRSIn (w wr : World) (v : Value) (rs : List Fv) : Prop where
  own : ∃ gs, FOwn 58 w.heap.size wr v gs ∧ gs.map (·.x) = rs.map fewRS1
  bel : Below w.heap.size w wr
set_option maxRecDepth 100000 in
set_option maxHeartbeats 8000000 in
theorem fewR_any (R : Option Addr) (rc : Nat) (rs : List Fv) (w : World) (hR : FRow w R rc rs) :
    Calls Try.prog 7 #[.slice R rs.length rc, .int .i64 12] w (fewRSPost rs w) := by
  obtain ⟨i0, hi, hz0, hz1, hz2⟩ := info_parts infoRs
  have hle := hR.le
  have hmx := hR.mx
  have RAW := Lib.hid hR
  clear hR
  go_enter Try.func7, Try.ntmps7
  go_wp2
  go_loopw [5, 6] (fun v i wr => ∃ k : Nat, k ≤ min rs.length 12 ∧ i = .int .i64 k ∧ Hid (fewRSIn w wr v (rs.take k))) (fun _ i _ => 12 - (intOf i).toNat)
  case atStart => exact ⟨0, Nat.zero_le _, rfl, Lib.hid ⟨⟨[], FOwn.nil _ _ _, rfl⟩, Below.refl _ _⟩⟩
  case round =>
    obtain ⟨k, hk, rfl, hI⟩ := hrel
    have hk1 : k ≤ rs.length := by omega
    have hk2 : k ≤ 12 := by omega
    by_cases hlt : k < rs.length ∧ k < 12
    · obtain ⟨hl1, hl2⟩ := hlt
      obtain ⟨rb, ro, x, C, cc, rfl, hx, hrb, hF0⟩ := RAW.out.get (k := k) (by omega)
      have hF := hF0.later hI.out.bel
      have c0 := hF.c0
      have c1 := hF.c1
      have c2 := hF.c2
      have c3 := hF.c3
      have c4 := hF.c4
      have g1 : decide ((k : Int) < (rs.length : Int)) = true := decide_eq_true (by omega)
      have g2 : decide ((k : Int) < 12) = true := decide_eq_true (by omega)
      have g2' : decide (k < 12) = true := decide_eq_true (by omega)
      have hi0 : (0 : Int) ≤ (k : Int) := by omega
      have hi1 : (k : Int) < (rs.length : Int) := by omega
      obtain ⟨gs, hG, hgs⟩ := hI.out.own
      have hgl : gs.length = k := by
        have := congrArg List.length hgs
        rw [List.length_map, List.length_map, List.length_take] at this
        omega
      have hlc := hF.s.le
      have hmc := hF.s.mx
      have HSF : Hid (Safe 58 w.heap.size w C x.c) := Lib.hid (fun hne a ha => by
        obtain ⟨b, o, n, hA, _, _, hbl, _⟩ := hF0.s.get (k := 0) (by rcases Nat.eq_zero_or_pos x.c.length with h0 | h0; exact absurd (List.length_eq_zero_iff.1 h0) hne; exact h0)
        rw [ha] at hA
        cases hA
        exact .inl hbl)
      have hgb := emod_bd x.a 12 (by omega)
      have HGB := Lib.hid hgb
      have KR0 := fun W => r8rest_any x.a 12 W hF.wf.a (by omega) (by omega)
      obtain ⟨ga, hga⟩ : ∃ ga, x.a % 12 = ga := ⟨_, rfl⟩
      have KR1 := KR0
      rw [hga] at KR1
      have KR := Lib.hid KR1
      have HGA0 := Lib.hid hga
      clear hgb KR0 KR1 hga
      have HX := Lib.hid hx
      have HF := Lib.hid hF
      have HG := Lib.hid hG
      have HGA := Lib.hid hG
      have HGS := Lib.hid hgs
      have HGL := Lib.hid hgl
      have HBW := Lib.hid hI.out.bel
      clear hF hF0 hx hG hgs hgl hI
      go_upto_region 6 with (fail)
      have F1 := Lib.hid (FB.new wr 58 (.int .i64 x.t) (.int .i64 x.a) (.int .i64 x.r) (.int .i64 x.k) (.slice C x.c.length cc))
      have B1 : Hid (Below wr.heap.size wr (wr.alloc (.cells #[.int .i64 x.t, .int .i64 x.a, .int .i64 x.r, .int .i64 x.k, .slice C x.c.length cc] 58))) := Lib.hid ((Below.refl _ _).alloc (Nat.le_refl _) _)
      generalize (wr.alloc (.cells #[.int .i64 x.t, .int .i64 x.a, .int .i64 x.r, .int .i64 x.k, .slice C x.c.length cc] 58)) = W1 at *
      obtain ⟨bx, hbx⟩ : ∃ bx, bx = wr.heap.size := ⟨_, rfl⟩
      have F1 : Hid (FB W1 bx 58 (.int .i64 x.t) (.int .i64 x.a) (.int .i64 x.r) (.int .i64 x.k) (.slice C x.c.length cc)) := by rw [hbx]; exact F1
      have HBX : Hid (wr.heap.size ≤ bx) := Lib.hid (by rw [hbx]; exact Nat.le_refl _)
      rw [← hbx]
      clear c0 c1 c2 c3 c4 hbx
      obtain ⟨z0, z1, z2, z3, z4⟩ := F1.out.z
      have y1 := F1.out.fz 1
      go_upto_region 7 with (go_at_call 15; (with_reducible refine (KR.out _).mono ?_); rintro e w2 ⟨rfl, rfl⟩)
      have F2 := Lib.hid (F1.out.set (i := 1) (.int .i64 ga) rfl)
      have B2 : Hid (Below wr.heap.size wr (W1.setCell ⟨bx, 1, none⟩ (.int .i64 ga))) := Lib.hid (B1.out.setCell (p := ⟨bx, 1, none⟩) HBX.out _)
      generalize W1.setCell ⟨bx, 1, none⟩ (.int .i64 ga) = W2 at *
      clear z0 z1 z2 z3 z4 y1
      obtain ⟨z0, z1, z2, z3, z4⟩ := F2.out.z
      have y1 := F2.out.fz 1
      by_cases hlong : 5 < x.c.length
      · have g5 : decide ((x.c.length : Int) > 5) = true := decide_eq_true (by omega)
        have g5' : decide (5 < x.c.length) = true := decide_eq_true hlong
        have hc6 : (5 : Int) ≤ (cc : Int) := by omega
        have hcz : cc ≠ 0 := by omega
        have y4 := F2.out.fz 4
        have HCL : Hid (x.c.take 5 = x.c.take 5) := Lib.hid rfl
        have hc66 : (x.c.take 5).length = 5 := by rw [List.length_take]; omega
        have HC66 := Lib.hid hc66
        clear hc66
        go_upto_region 9 with (fail)
        have F3 := Lib.hid (F2.out.set (i := 4) (.slice C 5 cc) rfl)
        have B3 : Hid (Below wr.heap.size wr (W2.setCell ⟨bx, 4, none⟩ (.slice C 5 cc))) := Lib.hid (B2.out.setCell (p := ⟨bx, 4, none⟩) HBX.out _)
        generalize W2.setCell ⟨bx, 4, none⟩ (.slice C 5 cc) = W3 at *
        clear z0 z1 z2 z3 z4 y1 y4
        have G3 : Hid (GOk 58 w.heap.size W3 ⟨⟨x.t, ga, x.r, x.k, x.c.take 5⟩, C, cc⟩) := Lib.hid ⟨⟨HF.out.wf.t, ⟨by show _ ≤ ga; have := HGB.out; have := HGA0.out; omega, by show ga ≤ _; have := HGB.out; have := HGA0.out; omega⟩, HF.out.wf.r, HF.out.wf.k⟩, (HF.out.s.later B3.out).take 5, fun hne a ha => by
          rcases HSF.out (by intro h0; rw [h0] at hne; exact hne (by simp)) a ha with h1 | ⟨cs, T, fr, h1, h2⟩
          · exact .inl h1
          · exact .inl (by have := (Array.getElem?_eq_some_iff.1 h1).1; exact this)⟩
        obtain ⟨z0, z1, z2, z3, z4⟩ := F3.out.z
        have hO := G3.out
        have HFA := Lib.hid (fun j u hu => by
          have := (FAt.new W3 ⟨x.t, ga, x.r, x.k, x.c.take 5⟩ C cc 58 hO.wf hO.s).r j u hu
          rw [Nat.zero_add] at this
          rw [add_none, Nat.zero_add]
          simp only [HC66.out] at this
          exact this : ∀ j u, (fvL ⟨x.t, ga, x.r, x.k, x.c.take 5⟩ C cc)[j]? = some u → (W3.alloc (.cells #[.int .i64 x.t, .int .i64 ga, .int .i64 x.r, .int .i64 x.k, .slice C 5 cc] 58)).cell? ((⟨W3.heap.size, 0, none⟩ : Addr).add j) = some u)
        have HG2 := Lib.hid (HGA.out.later B3.out)
        clear hO
        go_wp2_with (refine wpList_append_own _ rfl _ _ 23 rfl w.heap.size 58 i0 _ 5 56 Try.underlying23 hi hz0 hz1 hz2 rfl (by decide) _ gs.length (gvC gs) rfl (HG2.out.row.alloc _) ⟨W3.heap.size, 0, none⟩ 1 1 (fvL ⟨x.t, ga, x.r, x.k, x.c.take 5⟩ C cc) rfl rfl HFA.out (fvL_one _ _ _) (by have := HGL.out; unfold maxLen; omega) (by have := HGL.out; omega) (by have := HBW.out.size; have := B3.out.size; simp; omega) ?_; intro v' w8 hown' hgrow hnil')
        go_roundw
        case rel =>
          have ba : Below W3.heap.size W3 (W3.alloc (.cells #[.int .i64 x.t, .int .i64 ga, .int .i64 x.r, .int .i64 x.k, .slice C 5 cc] 58)) := (Below.refl _ _).alloc (Nat.le_refl _) _
          have hG8 := (HG2.out.later ba).push (G3.out.kept fun b hl _ => ba.block b hl) hown' hgrow
          have hB2 := HBW.out.trans (B3.out.mono HBW.out.size)
          have hL8 : Below w.heap.size w w8 := (hB2.trans (ba.mono hB2.size)).grown hgrow (by have := hB2.size; simp; omega) (fun q hq => (HG2.out.row.lt q hq).1)
          refine ⟨k + 1, by omega, by go_num, Lib.hid ⟨⟨_, hG8, ?_⟩, hL8⟩⟩
          rw [take_one HX.out, List.map_append, List.map_append, HGS.out]
          simp [fewRS1, HCL.out, HGA0.out]
        case measure => simp [intOf]; omega
      · have g5 : decide ((x.c.length : Int) > 5) = false := decide_eq_false (by omega)
        have g5' : decide (5 < x.c.length) = false := decide_eq_false hlong
        have HCL : Hid (x.c.take 5 = x.c) := Lib.hid (List.take_of_length_le (by omega))
        go_upto_region 9 with (fail)
        have F3 := F2
        have B3 := B2
        clear z0 z1 z2 z3 z4 y1
        have G3 : Hid (GOk 58 w.heap.size W2 ⟨⟨x.t, ga, x.r, x.k, x.c⟩, C, cc⟩) := Lib.hid ⟨⟨HF.out.wf.t, ⟨by show _ ≤ ga; have := HGB.out; have := HGA0.out; omega, by show ga ≤ _; have := HGB.out; have := HGA0.out; omega⟩, HF.out.wf.r, HF.out.wf.k⟩, HF.out.s.later B3.out, fun hne a ha => by
          rcases HSF.out hne a ha with h1 | ⟨cs, T, fr, h1, h2⟩
          · exact .inl h1
          · exact .inl (by have := (Array.getElem?_eq_some_iff.1 h1).1; exact this)⟩
        obtain ⟨z0, z1, z2, z3, z4⟩ := F3.out.z
        have hO := G3.out
        have HFA := Lib.hid (fun j u hu => by
          have := (FAt.new W2 ⟨x.t, ga, x.r, x.k, x.c⟩ C cc 58 hO.wf hO.s).r j u hu
          rw [Nat.zero_add] at this
          rw [add_none, Nat.zero_add]
          exact this : ∀ j u, (fvL ⟨x.t, ga, x.r, x.k, x.c⟩ C cc)[j]? = some u → (W2.alloc (.cells #[.int .i64 x.t, .int .i64 ga, .int .i64 x.r, .int .i64 x.k, .slice C x.c.length cc] 58)).cell? ((⟨W2.heap.size, 0, none⟩ : Addr).add j) = some u)
        have HG2 := Lib.hid (HGA.out.later B3.out)
        clear hO
        go_wp2_with (refine wpList_append_own _ rfl _ _ 23 rfl w.heap.size 58 i0 _ 5 56 Try.underlying23 hi hz0 hz1 hz2 rfl (by decide) _ gs.length (gvC gs) rfl (HG2.out.row.alloc _) ⟨W2.heap.size, 0, none⟩ 1 1 (fvL ⟨x.t, ga, x.r, x.k, x.c⟩ C cc) rfl rfl HFA.out (fvL_one _ _ _) (by have := HGL.out; unfold maxLen; omega) (by have := HGL.out; omega) (by have := HBW.out.size; have := B3.out.size; simp; omega) ?_; intro v' w8 hown' hgrow hnil')
        go_roundw
        case rel =>
          have ba : Below W2.heap.size W2 (W2.alloc (.cells #[.int .i64 x.t, .int .i64 ga, .int .i64 x.r, .int .i64 x.k, .slice C x.c.length cc] 58)) := (Below.refl _ _).alloc (Nat.le_refl _) _
          have hG8 := (HG2.out.later ba).push (G3.out.kept fun b hl _ => ba.block b hl) hown' hgrow
          have hB2 := HBW.out.trans (B3.out.mono HBW.out.size)
          have hL8 : Below w.heap.size w w8 := (hB2.trans (ba.mono hB2.size)).grown hgrow (by have := hB2.size; simp; omega) (fun q hq => (HG2.out.row.lt q hq).1)
          refine ⟨k + 1, by omega, by go_num, Lib.hid ⟨⟨_, hG8, ?_⟩, hL8⟩⟩
          rw [take_one HX.out, List.map_append, List.map_append, HGS.out]
          simp [fewRS1, HCL.out, HGA0.out]
        case measure => simp [intOf]; omega
    · obtain ⟨gs, hG, hgs⟩ := hI.out.own
      have HB := Lib.hid hI.out.bel
      have HG := Lib.hid hG
      have HGS := Lib.hid hgs
      clear hG hgs hI
      by_cases hkr : k < rs.length
      · have g1 : decide ((k : Int) < (rs.length : Int)) = true := decide_eq_true (by omega)
        have g2 : decide ((k : Int) < 12) = false := decide_eq_false (by omega)
        have g2' : decide (k < 12) = false := decide_eq_false (by omega)
        have HK : Hid (k = 12) := Lib.hid (by omega)
        go_wp2
        go_ret
        refine ⟨_, gs, rfl, HG.out, ?_, HB.out⟩
        rw [HGS.out, fewRS, HK.out]
      · have g1 : decide ((k : Int) < (rs.length : Int)) = false := decide_eq_false (by omega)
        have g1' : decide (k < rs.length) = false := decide_eq_false hkr
        have HK : Hid (rs.take 12 = rs.take k) := Lib.hid (by rw [List.take_of_length_le (by omega), List.take_of_length_le (by omega)])
        go_wp2
        go_ret
        refine ⟨_, gs, rfl, HG.out, ?_, HB.out⟩
        rw [HGS.out, fewRS, HK.out]
end Go.Proofs.Ytngmaiiibinkaaa
