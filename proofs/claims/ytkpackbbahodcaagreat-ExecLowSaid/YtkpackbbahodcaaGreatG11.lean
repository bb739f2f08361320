/- Texts about the program, one after the other: FewT, FewE, ELaw, EPlay. -/
import Derived.Test.YtkpackbbahodcaaGreatG5
import Derived.Test.YtkpackbbahodcaaGreatG10
import Derived.Test.YtkpackbbahodcaaGreatG6
import Derived.Test.YtkpackbbahodcaaGreatG7
import Derived.Test.YtkpackbbahodcaaGreatG4
/- The law's few raw jobs. -/
namespace Go.Proofs.YtkpackbbahodcaaGreat
open Go.RowKit
set_option linter.unusedVariables false
set_option linter.unusedSimpArgs false

def fewTS1 (r : Fv) : Fv := { r with a := r.a % 12, c := r.c.take 5 }
def fewTS (rs : List Fv) : List Fv := (rs.take 10).map fewTS1
def fewTSPost (rs : List Fv) (w : World) (e : Ending) (w' : World) : Prop := ∃ v gs, e = .returned v ∧ FOwn 62 w.heap.size w' v gs ∧ gs.map (·.x) = fewTS rs ∧ Below w.heap.size w w'
structure fewTSIn (w wr : World) (v : Value) (rs : List Fv) : Prop where
  own : ∃ gs, FOwn 62 w.heap.size wr v gs ∧ gs.map (·.x) = rs.map fewTS1
  bel : Below w.heap.size w wr
set_option maxRecDepth 100000 in
set_option maxHeartbeats 8000000 in
theorem fewT_any (R : Option Addr) (rc : Nat) (rs : List Fv) (w : World) (hR : FRow w R rc rs) :
    Calls Tryz.prog 15 #[.slice R rs.length rc, .int .i64 10] w (fewTSPost rs w) := by
  obtain ⟨i0, hi, hz0, hz1, hz2⟩ := info_parts infoRs
  have hle := hR.le
  have hmx := hR.mx
  have RAW := Lib.hid hR
  clear hR
  go_enter Tryz.func15, Tryz.ntmps15
  go_wp2
  go_loopw [5, 6] (fun v i wr => ∃ k : Nat, k ≤ min rs.length 10 ∧ i = .int .i64 k ∧ Hid (fewTSIn w wr v (rs.take k))) (fun _ i _ => 10 - (intOf i).toNat)
  case atStart => exact ⟨0, Nat.zero_le _, rfl, Lib.hid ⟨⟨[], FOwn.nil _ _ _, rfl⟩, Below.refl _ _⟩⟩
  case round =>
    obtain ⟨k, hk, rfl, hI⟩ := hrel
    have hk1 : k ≤ rs.length := by omega
    have hk2 : k ≤ 10 := by omega
    by_cases hlt : k < rs.length ∧ k < 10
    · obtain ⟨hl1, hl2⟩ := hlt
      obtain ⟨rb, ro, x, C, cc, rfl, hx, hrb, hF0⟩ := RAW.out.get (k := k) (by omega)
      have hF := hF0.later hI.out.bel
      have c0 := hF.c0
      have c1 := hF.c1
      have c2 := hF.c2
      have c3 := hF.c3
      have c4 := hF.c4
      have g1 : decide ((k : Int) < (rs.length : Int)) = true := decide_eq_true (by omega)
      have g2 : decide ((k : Int) < 10) = true := decide_eq_true (by omega)
      have g2' : decide (k < 10) = true := decide_eq_true (by omega)
      have hi0 : (0 : Int) ≤ (k : Int) := by omega
      have hi1 : (k : Int) < (rs.length : Int) := by omega
      obtain ⟨gs, hG, hgs⟩ := hI.out.own
      have hgl : gs.length = k := by
        have := congrArg List.length hgs
        rw [List.length_map, List.length_map, List.length_take] at this
        omega
      have hlc := hF.s.le
      have hmc := hF.s.mx
      have HSF : Hid (Safe 62 w.heap.size w C x.c) := Lib.hid (fun hne a ha => by
        obtain ⟨b, o, n, hA, _, _, hbl, _⟩ := hF0.s.get (k := 0) (by rcases Nat.eq_zero_or_pos x.c.length with h0 | h0; exact absurd (List.length_eq_zero_iff.1 h0) hne; exact h0)
        rw [ha] at hA
        cases hA
        exact .inl hbl)
      have hgb := emod_bd x.a 12 (by omega)
      have HGB := Lib.hid hgb
      have KR0 := fun W => r8rest_any x.a 12 W hF.wf.a (by omega) (by omega)
      obtain ⟨ga, hga⟩ : ∃ ga, x.a % 12 = ga := ⟨_, rfl⟩
      have KR1 := KR0
      rw [hga] at KR1
      have KR := Lib.hid KR1
      have HGA0 := Lib.hid hga
      clear hgb KR0 KR1 hga
      have HX := Lib.hid hx
      have HF := Lib.hid hF
      have HG := Lib.hid hG
      have HGA := Lib.hid hG
      have HGS := Lib.hid hgs
      have HGL := Lib.hid hgl
      have HBW := Lib.hid hI.out.bel
      clear hF hF0 hx hG hgs hgl hI
      go_upto_region 6 with (fail)
      have F1 := Lib.hid (FB.new wr 62 (.int .i64 x.t) (.int .i64 x.a) (.int .i64 x.r) (.int .i64 x.k) (.slice C x.c.length cc))
      have B1 : Hid (Below wr.heap.size wr (wr.alloc (.cells #[.int .i64 x.t, .int .i64 x.a, .int .i64 x.r, .int .i64 x.k, .slice C x.c.length cc] 62))) := Lib.hid ((Below.refl _ _).alloc (Nat.le_refl _) _)
      generalize (wr.alloc (.cells #[.int .i64 x.t, .int .i64 x.a, .int .i64 x.r, .int .i64 x.k, .slice C x.c.length cc] 62)) = W1 at *
      obtain ⟨bx, hbx⟩ : ∃ bx, bx = wr.heap.size := ⟨_, rfl⟩
      have F1 : Hid (FB W1 bx 62 (.int .i64 x.t) (.int .i64 x.a) (.int .i64 x.r) (.int .i64 x.k) (.slice C x.c.length cc)) := by rw [hbx]; exact F1
      have HBX : Hid (wr.heap.size ≤ bx) := Lib.hid (by rw [hbx]; exact Nat.le_refl _)
      rw [← hbx]
      clear c0 c1 c2 c3 c4 hbx
      obtain ⟨z0, z1, z2, z3, z4⟩ := F1.out.z
      have y1 := F1.out.fz 1
      go_upto_region 7 with (go_at_call 26; (with_reducible refine (KR.out _).mono ?_); rintro e w2 ⟨rfl, rfl⟩)
      have F2 := Lib.hid (F1.out.set (i := 1) (.int .i64 ga) rfl)
      have B2 : Hid (Below wr.heap.size wr (W1.setCell ⟨bx, 1, none⟩ (.int .i64 ga))) := Lib.hid (B1.out.setCell (p := ⟨bx, 1, none⟩) HBX.out _)
      generalize W1.setCell ⟨bx, 1, none⟩ (.int .i64 ga) = W2 at *
      clear z0 z1 z2 z3 z4 y1
      obtain ⟨z0, z1, z2, z3, z4⟩ := F2.out.z
      have y1 := F2.out.fz 1
      by_cases hlong : 5 < x.c.length
      · have g5 : decide ((x.c.length : Int) > 5) = true := decide_eq_true (by omega)
        have g5' : decide (5 < x.c.length) = true := decide_eq_true hlong
        have hc6 : (5 : Int) ≤ (cc : Int) := by omega
        have hcz : cc ≠ 0 := by omega
        have y4 := F2.out.fz 4
        have HCL : Hid (x.c.take 5 = x.c.take 5) := Lib.hid rfl
        have hc66 : (x.c.take 5).length = 5 := by rw [List.length_take]; omega
        have HC66 := Lib.hid hc66
        clear hc66
        go_upto_region 9 with (fail)
        have F3 := Lib.hid (F2.out.set (i := 4) (.slice C 5 cc) rfl)
        have B3 : Hid (Below wr.heap.size wr (W2.setCell ⟨bx, 4, none⟩ (.slice C 5 cc))) := Lib.hid (B2.out.setCell (p := ⟨bx, 4, none⟩) HBX.out _)
        generalize W2.setCell ⟨bx, 4, none⟩ (.slice C 5 cc) = W3 at *
        clear z0 z1 z2 z3 z4 y1 y4
        have G3 : Hid (GOk 62 w.heap.size W3 ⟨⟨x.t, ga, x.r, x.k, x.c.take 5⟩, C, cc⟩) := Lib.hid ⟨⟨HF.out.wf.t, ⟨by show _ ≤ ga; have := HGB.out; have := HGA0.out; omega, by show ga ≤ _; have := HGB.out; have := HGA0.out; omega⟩, HF.out.wf.r, HF.out.wf.k⟩, (HF.out.s.later B3.out).take 5, fun hne a ha => by
          rcases HSF.out (by intro h0; rw [h0] at hne; exact hne (by simp)) a ha with h1 | ⟨cs, T, fr, h1, h2⟩
          · exact .inl h1
          · exact .inl (by have := (Array.getElem?_eq_some_iff.1 h1).1; exact this)⟩
        obtain ⟨z0, z1, z2, z3, z4⟩ := F3.out.z
        have hO := G3.out
        have HFA := Lib.hid (fun j u hu => by
          have := (FAt.new W3 ⟨x.t, ga, x.r, x.k, x.c.take 5⟩ C cc 62 hO.wf hO.s).r j u hu
          rw [Nat.zero_add] at this
          rw [add_none, Nat.zero_add]
          simp only [HC66.out] at this
          exact this : ∀ j u, (fvL ⟨x.t, ga, x.r, x.k, x.c.take 5⟩ C cc)[j]? = some u → (W3.alloc (.cells #[.int .i64 x.t, .int .i64 ga, .int .i64 x.r, .int .i64 x.k, .slice C 5 cc] 62)).cell? ((⟨W3.heap.size, 0, none⟩ : Addr).add j) = some u)
        have HG2 := Lib.hid (HGA.out.later B3.out)
        clear hO
        go_wp2_with (refine wpList_append_own _ rfl _ _ 23 rfl w.heap.size 62 i0 _ 5 56 Tryz.underlying23 hi hz0 hz1 hz2 rfl (by decide) _ gs.length (gvC gs) rfl (HG2.out.row.alloc _) ⟨W3.heap.size, 0, none⟩ 1 1 (fvL ⟨x.t, ga, x.r, x.k, x.c.take 5⟩ C cc) rfl rfl HFA.out (fvL_one _ _ _) (by have := HGL.out; unfold maxLen; omega) (by have := HGL.out; omega) (by have := HBW.out.size; have := B3.out.size; simp; omega) ?_; intro v' w8 hown' hgrow hnil')
        go_roundw
        case rel =>
          have ba : Below W3.heap.size W3 (W3.alloc (.cells #[.int .i64 x.t, .int .i64 ga, .int .i64 x.r, .int .i64 x.k, .slice C 5 cc] 62)) := (Below.refl _ _).alloc (Nat.le_refl _) _
          have hG8 := (HG2.out.later ba).push (G3.out.kept fun b hl _ => ba.block b hl) hown' hgrow
          have hB2 := HBW.out.trans (B3.out.mono HBW.out.size)
          have hL8 : Below w.heap.size w w8 := (hB2.trans (ba.mono hB2.size)).grown hgrow (by have := hB2.size; simp; omega) (fun q hq => (HG2.out.row.lt q hq).1)
          refine ⟨k + 1, by omega, by go_num, Lib.hid ⟨⟨_, hG8, ?_⟩, hL8⟩⟩
          rw [take_one HX.out, List.map_append, List.map_append, HGS.out]
          simp [fewTS1, HCL.out, HGA0.out]
        case measure => simp [intOf]; omega
      · have g5 : decide ((x.c.length : Int) > 5) = false := decide_eq_false (by omega)
        have g5' : decide (5 < x.c.length) = false := decide_eq_false hlong
        have HCL : Hid (x.c.take 5 = x.c) := Lib.hid (List.take_of_length_le (by omega))
        go_upto_region 9 with (fail)
        have F3 := F2
        have B3 := B2
        clear z0 z1 z2 z3 z4 y1
        have G3 : Hid (GOk 62 w.heap.size W2 ⟨⟨x.t, ga, x.r, x.k, x.c⟩, C, cc⟩) := Lib.hid ⟨⟨HF.out.wf.t, ⟨by show _ ≤ ga; have := HGB.out; have := HGA0.out; omega, by show ga ≤ _; have := HGB.out; have := HGA0.out; omega⟩, HF.out.wf.r, HF.out.wf.k⟩, HF.out.s.later B3.out, fun hne a ha => by
          rcases HSF.out hne a ha with h1 | ⟨cs, T, fr, h1, h2⟩
          · exact .inl h1
          · exact .inl (by have := (Array.getElem?_eq_some_iff.1 h1).1; exact this)⟩
        obtain ⟨z0, z1, z2, z3, z4⟩ := F3.out.z
        have hO := G3.out
        have HFA := Lib.hid (fun j u hu => by
          have := (FAt.new W2 ⟨x.t, ga, x.r, x.k, x.c⟩ C cc 62 hO.wf hO.s).r j u hu
          rw [Nat.zero_add] at this
          rw [add_none, Nat.zero_add]
          exact this : ∀ j u, (fvL ⟨x.t, ga, x.r, x.k, x.c⟩ C cc)[j]? = some u → (W2.alloc (.cells #[.int .i64 x.t, .int .i64 ga, .int .i64 x.r, .int .i64 x.k, .slice C x.c.length cc] 62)).cell? ((⟨W2.heap.size, 0, none⟩ : Addr).add j) = some u)
        have HG2 := Lib.hid (HGA.out.later B3.out)
        clear hO
        go_wp2_with (refine wpList_append_own _ rfl _ _ 23 rfl w.heap.size 62 i0 _ 5 56 Tryz.underlying23 hi hz0 hz1 hz2 rfl (by decide) _ gs.length (gvC gs) rfl (HG2.out.row.alloc _) ⟨W2.heap.size, 0, none⟩ 1 1 (fvL ⟨x.t, ga, x.r, x.k, x.c⟩ C cc) rfl rfl HFA.out (fvL_one _ _ _) (by have := HGL.out; unfold maxLen; omega) (by have := HGL.out; omega) (by have := HBW.out.size; have := B3.out.size; simp; omega) ?_; intro v' w8 hown' hgrow hnil')
        go_roundw
        case rel =>
          have ba : Below W2.heap.size W2 (W2.alloc (.cells #[.int .i64 x.t, .int .i64 ga, .int .i64 x.r, .int .i64 x.k, .slice C x.c.length cc] 62)) := (Below.refl _ _).alloc (Nat.le_refl _) _
          have hG8 := (HG2.out.later ba).push (G3.out.kept fun b hl _ => ba.block b hl) hown' hgrow
          have hB2 := HBW.out.trans (B3.out.mono HBW.out.size)
          have hL8 : Below w.heap.size w w8 := (hB2.trans (ba.mono hB2.size)).grown hgrow (by have := hB2.size; simp; omega) (fun q hq => (HG2.out.row.lt q hq).1)
          refine ⟨k + 1, by omega, by go_num, Lib.hid ⟨⟨_, hG8, ?_⟩, hL8⟩⟩
          rw [take_one HX.out, List.map_append, List.map_append, HGS.out]
          simp [fewTS1, HCL.out, HGA0.out]
        case measure => simp [intOf]; omega
    · obtain ⟨gs, hG, hgs⟩ := hI.out.own
      have HB := Lib.hid hI.out.bel
      have HG := Lib.hid hG
      have HGS := Lib.hid hgs
      clear hG hgs hI
      by_cases hkr : k < rs.length
      · have g1 : decide ((k : Int) < (rs.length : Int)) = true := decide_eq_true (by omega)
        have g2 : decide ((k : Int) < 10) = false := decide_eq_false (by omega)
        have g2' : decide (k < 10) = false := decide_eq_false (by omega)
        have HK : Hid (k = 10) := Lib.hid (by omega)
        go_wp2
        go_ret
        refine ⟨_, gs, rfl, HG.out, ?_, HB.out⟩
        rw [HGS.out, fewTS, HK.out]
      · have g1 : decide ((k : Int) < (rs.length : Int)) = false := decide_eq_false (by omega)
        have g1' : decide (k < rs.length) = false := decide_eq_false hkr
        have HK : Hid (rs.take 10 = rs.take k) := Lib.hid (by rw [List.take_of_length_le (by omega), List.take_of_length_le (by omega)])
        go_wp2
        go_ret
        refine ⟨_, gs, rfl, HG.out, ?_, HB.out⟩
        rw [HGS.out, fewTS, HK.out]
end Go.Proofs.YtkpackbbahodcaaGreat
/- The law's few raw jobs. -/
namespace Go.Proofs.YtkpackbbahodcaaGreat
open Go.RowKit
set_option linter.unusedVariables false
set_option linter.unusedSimpArgs false

def fewES1 (r : Fv) : Fv := { r with a := r.a % 12, c := r.c.take 5 }
def fewES (rs : List Fv) : List Fv := (rs.take 8).map fewES1
def fewESPost (rs : List Fv) (w : World) (e : Ending) (w' : World) : Prop := ∃ v gs, e = .returned v ∧ FOwn 62 w.heap.size w' v gs ∧ gs.map (·.x) = fewES rs ∧ Below w.heap.size w w'
structure fewESIn (w wr : World) (v : Value) (rs : List Fv) : Prop where
  own : ∃ gs, FOwn 62 w.heap.size wr v gs ∧ gs.map (·.x) = rs.map fewES1
  bel : Below w.heap.size w wr
set_option maxRecDepth 100000 in
set_option maxHeartbeats 8000000 in
theorem fewE_any (R : Option Addr) (rc : Nat) (rs : List Fv) (w : World) (hR : FRow w R rc rs) :
    Calls Tryz.prog 15 #[.slice R rs.length rc, .int .i64 8] w (fewESPost rs w) := by
  obtain ⟨i0, hi, hz0, hz1, hz2⟩ := info_parts infoRs
  have hle := hR.le
  have hmx := hR.mx
  have RAW := Lib.hid hR
  clear hR
  go_enter Tryz.func15, Tryz.ntmps15
  go_wp2
  go_loopw [5, 6] (fun v i wr => ∃ k : Nat, k ≤ min rs.length 8 ∧ i = .int .i64 k ∧ Hid (fewESIn w wr v (rs.take k))) (fun _ i _ => 8 - (intOf i).toNat)
  case atStart => exact ⟨0, Nat.zero_le _, rfl, Lib.hid ⟨⟨[], FOwn.nil _ _ _, rfl⟩, Below.refl _ _⟩⟩
  case round =>
    obtain ⟨k, hk, rfl, hI⟩ := hrel
    have hk1 : k ≤ rs.length := by omega
    have hk2 : k ≤ 8 := by omega
    by_cases hlt : k < rs.length ∧ k < 8
    · obtain ⟨hl1, hl2⟩ := hlt
      obtain ⟨rb, ro, x, C, cc, rfl, hx, hrb, hF0⟩ := RAW.out.get (k := k) (by omega)
      have hF := hF0.later hI.out.bel
      have c0 := hF.c0
      have c1 := hF.c1
      have c2 := hF.c2
      have c3 := hF.c3
      have c4 := hF.c4
      have g1 : decide ((k : Int) < (rs.length : Int)) = true := decide_eq_true (by omega)
      have g2 : decide ((k : Int) < 8) = true := decide_eq_true (by omega)
      have g2' : decide (k < 8) = true := decide_eq_true (by omega)
      have hi0 : (0 : Int) ≤ (k : Int) := by omega
      have hi1 : (k : Int) < (rs.length : Int) := by omega
      obtain ⟨gs, hG, hgs⟩ := hI.out.own
      have hgl : gs.length = k := by
        have := congrArg List.length hgs
        rw [List.length_map, List.length_map, List.length_take] at this
        omega
      have hlc := hF.s.le
      have hmc := hF.s.mx
      have HSF : Hid (Safe 62 w.heap.size w C x.c) := Lib.hid (fun hne a ha => by
        obtain ⟨b, o, n, hA, _, _, hbl, _⟩ := hF0.s.get (k := 0) (by rcases Nat.eq_zero_or_pos x.c.length with h0 | h0; exact absurd (List.length_eq_zero_iff.1 h0) hne; exact h0)
        rw [ha] at hA
        cases hA
        exact .inl hbl)
      have hgb := emod_bd x.a 12 (by omega)
      have HGB := Lib.hid hgb
      have KR0 := fun W => r8rest_any x.a 12 W hF.wf.a (by omega) (by omega)
      obtain ⟨ga, hga⟩ : ∃ ga, x.a % 12 = ga := ⟨_, rfl⟩
      have KR1 := KR0
      rw [hga] at KR1
      have KR := Lib.hid KR1
      have HGA0 := Lib.hid hga
      clear hgb KR0 KR1 hga
      have HX := Lib.hid hx
      have HF := Lib.hid hF
      have HG := Lib.hid hG
      have HGA := Lib.hid hG
      have HGS := Lib.hid hgs
      have HGL := Lib.hid hgl
      have HBW := Lib.hid hI.out.bel
      clear hF hF0 hx hG hgs hgl hI
      go_upto_region 6 with (fail)
      have F1 := Lib.hid (FB.new wr 62 (.int .i64 x.t) (.int .i64 x.a) (.int .i64 x.r) (.int .i64 x.k) (.slice C x.c.length cc))
      have B1 : Hid (Below wr.heap.size wr (wr.alloc (.cells #[.int .i64 x.t, .int .i64 x.a, .int .i64 x.r, .int .i64 x.k, .slice C x.c.length cc] 62))) := Lib.hid ((Below.refl _ _).alloc (Nat.le_refl _) _)
      generalize (wr.alloc (.cells #[.int .i64 x.t, .int .i64 x.a, .int .i64 x.r, .int .i64 x.k, .slice C x.c.length cc] 62)) = W1 at *
      obtain ⟨bx, hbx⟩ : ∃ bx, bx = wr.heap.size := ⟨_, rfl⟩
      have F1 : Hid (FB W1 bx 62 (.int .i64 x.t) (.int .i64 x.a) (.int .i64 x.r) (.int .i64 x.k) (.slice C x.c.length cc)) := by rw [hbx]; exact F1
      have HBX : Hid (wr.heap.size ≤ bx) := Lib.hid (by rw [hbx]; exact Nat.le_refl _)
      rw [← hbx]
      clear c0 c1 c2 c3 c4 hbx
      obtain ⟨z0, z1, z2, z3, z4⟩ := F1.out.z
      have y1 := F1.out.fz 1
      go_upto_region 7 with (go_at_call 26; (with_reducible refine (KR.out _).mono ?_); rintro e w2 ⟨rfl, rfl⟩)
      have F2 := Lib.hid (F1.out.set (i := 1) (.int .i64 ga) rfl)
      have B2 : Hid (Below wr.heap.size wr (W1.setCell ⟨bx, 1, none⟩ (.int .i64 ga))) := Lib.hid (B1.out.setCell (p := ⟨bx, 1, none⟩) HBX.out _)
      generalize W1.setCell ⟨bx, 1, none⟩ (.int .i64 ga) = W2 at *
      clear z0 z1 z2 z3 z4 y1
      obtain ⟨z0, z1, z2, z3, z4⟩ := F2.out.z
      have y1 := F2.out.fz 1
      by_cases hlong : 5 < x.c.length
      · have g5 : decide ((x.c.length : Int) > 5) = true := decide_eq_true (by omega)
        have g5' : decide (5 < x.c.length) = true := decide_eq_true hlong
        have hc6 : (5 : Int) ≤ (cc : Int) := by omega
        have hcz : cc ≠ 0 := by omega
        have y4 := F2.out.fz 4
        have HCL : Hid (x.c.take 5 = x.c.take 5) := Lib.hid rfl
        have hc66 : (x.c.take 5).length = 5 := by rw [List.length_take]; omega
        have HC66 := Lib.hid hc66
        clear hc66
        go_upto_region 9 with (fail)
        have F3 := Lib.hid (F2.out.set (i := 4) (.slice C 5 cc) rfl)
        have B3 : Hid (Below wr.heap.size wr (W2.setCell ⟨bx, 4, none⟩ (.slice C 5 cc))) := Lib.hid (B2.out.setCell (p := ⟨bx, 4, none⟩) HBX.out _)
        generalize W2.setCell ⟨bx, 4, none⟩ (.slice C 5 cc) = W3 at *
        clear z0 z1 z2 z3 z4 y1 y4
        have G3 : Hid (GOk 62 w.heap.size W3 ⟨⟨x.t, ga, x.r, x.k, x.c.take 5⟩, C, cc⟩) := Lib.hid ⟨⟨HF.out.wf.t, ⟨by show _ ≤ ga; have := HGB.out; have := HGA0.out; omega, by show ga ≤ _; have := HGB.out; have := HGA0.out; omega⟩, HF.out.wf.r, HF.out.wf.k⟩, (HF.out.s.later B3.out).take 5, fun hne a ha => by
          rcases HSF.out (by intro h0; rw [h0] at hne; exact hne (by simp)) a ha with h1 | ⟨cs, T, fr, h1, h2⟩
          · exact .inl h1
          · exact .inl (by have := (Array.getElem?_eq_some_iff.1 h1).1; exact this)⟩
        obtain ⟨z0, z1, z2, z3, z4⟩ := F3.out.z
        have hO := G3.out
        have HFA := Lib.hid (fun j u hu => by
          have := (FAt.new W3 ⟨x.t, ga, x.r, x.k, x.c.take 5⟩ C cc 62 hO.wf hO.s).r j u hu
          rw [Nat.zero_add] at this
          rw [add_none, Nat.zero_add]
          simp only [HC66.out] at this
          exact this : ∀ j u, (fvL ⟨x.t, ga, x.r, x.k, x.c.take 5⟩ C cc)[j]? = some u → (W3.alloc (.cells #[.int .i64 x.t, .int .i64 ga, .int .i64 x.r, .int .i64 x.k, .slice C 5 cc] 62)).cell? ((⟨W3.heap.size, 0, none⟩ : Addr).add j) = some u)
        have HG2 := Lib.hid (HGA.out.later B3.out)
        clear hO
        go_wp2_with (refine wpList_append_own _ rfl _ _ 23 rfl w.heap.size 62 i0 _ 5 56 Tryz.underlying23 hi hz0 hz1 hz2 rfl (by decide) _ gs.length (gvC gs) rfl (HG2.out.row.alloc _) ⟨W3.heap.size, 0, none⟩ 1 1 (fvL ⟨x.t, ga, x.r, x.k, x.c.take 5⟩ C cc) rfl rfl HFA.out (fvL_one _ _ _) (by have := HGL.out; unfold maxLen; omega) (by have := HGL.out; omega) (by have := HBW.out.size; have := B3.out.size; simp; omega) ?_; intro v' w8 hown' hgrow hnil')
        go_roundw
        case rel =>
          have ba : Below W3.heap.size W3 (W3.alloc (.cells #[.int .i64 x.t, .int .i64 ga, .int .i64 x.r, .int .i64 x.k, .slice C 5 cc] 62)) := (Below.refl _ _).alloc (Nat.le_refl _) _
          have hG8 := (HG2.out.later ba).push (G3.out.kept fun b hl _ => ba.block b hl) hown' hgrow
          have hB2 := HBW.out.trans (B3.out.mono HBW.out.size)
          have hL8 : Below w.heap.size w w8 := (hB2.trans (ba.mono hB2.size)).grown hgrow (by have := hB2.size; simp; omega) (fun q hq => (HG2.out.row.lt q hq).1)
          refine ⟨k + 1, by omega, by go_num, Lib.hid ⟨⟨_, hG8, ?_⟩, hL8⟩⟩
          rw [take_one HX.out, List.map_append, List.map_append, HGS.out]
          simp [fewES1, HCL.out, HGA0.out]
        case measure => simp [intOf]; omega
      · have g5 : decide ((x.c.length : Int) > 5) = false := decide_eq_false (by omega)
        have g5' : decide (5 < x.c.length) = false := decide_eq_false hlong
        have HCL : Hid (x.c.take 5 = x.c) := Lib.hid (List.take_of_length_le (by omega))
        go_upto_region 9 with (fail)
        have F3 := F2
        have B3 := B2
        clear z0 z1 z2 z3 z4 y1
        have G3 : Hid (GOk 62 w.heap.size W2 ⟨⟨x.t, ga, x.r, x.k, x.c⟩, C, cc⟩) := Lib.hid ⟨⟨HF.out.wf.t, ⟨by show _ ≤ ga; have := HGB.out; have := HGA0.out; omega, by show ga ≤ _; have := HGB.out; have := HGA0.out; omega⟩, HF.out.wf.r, HF.out.wf.k⟩, HF.out.s.later B3.out, fun hne a ha => by
          rcases HSF.out hne a ha with h1 | ⟨cs, T, fr, h1, h2⟩
          · exact .inl h1
          · exact .inl (by have := (Array.getElem?_eq_some_iff.1 h1).1; exact this)⟩
        obtain ⟨z0, z1, z2, z3, z4⟩ := F3.out.z
        have hO := G3.out
        have HFA := Lib.hid (fun j u hu => by
          have := (FAt.new W2 ⟨x.t, ga, x.r, x.k, x.c⟩ C cc 62 hO.wf hO.s).r j u hu
          rw [Nat.zero_add] at this
          rw [add_none, Nat.zero_add]
          exact this : ∀ j u, (fvL ⟨x.t, ga, x.r, x.k, x.c⟩ C cc)[j]? = some u → (W2.alloc (.cells #[.int .i64 x.t, .int .i64 ga, .int .i64 x.r, .int .i64 x.k, .slice C x.c.length cc] 62)).cell? ((⟨W2.heap.size, 0, none⟩ : Addr).add j) = some u)
        have HG2 := Lib.hid (HGA.out.later B3.out)
        clear hO
        go_wp2_with (refine wpList_append_own _ rfl _ _ 23 rfl w.heap.size 62 i0 _ 5 56 Tryz.underlying23 hi hz0 hz1 hz2 rfl (by decide) _ gs.length (gvC gs) rfl (HG2.out.row.alloc _) ⟨W2.heap.size, 0, none⟩ 1 1 (fvL ⟨x.t, ga, x.r, x.k, x.c⟩ C cc) rfl rfl HFA.out (fvL_one _ _ _) (by have := HGL.out; unfold maxLen; omega) (by have := HGL.out; omega) (by have := HBW.out.size; have := B3.out.size; simp; omega) ?_; intro v' w8 hown' hgrow hnil')
        go_roundw
        case rel =>
          have ba : Below W2.heap.size W2 (W2.alloc (.cells #[.int .i64 x.t, .int .i64 ga, .int .i64 x.r, .int .i64 x.k, .slice C x.c.length cc] 62)) := (Below.refl _ _).alloc (Nat.le_refl _) _
          have hG8 := (HG2.out.later ba).push (G3.out.kept fun b hl _ => ba.block b hl) hown' hgrow
          have hB2 := HBW.out.trans (B3.out.mono HBW.out.size)
          have hL8 : Below w.heap.size w w8 := (hB2.trans (ba.mono hB2.size)).grown hgrow (by have := hB2.size; simp; omega) (fun q hq => (HG2.out.row.lt q hq).1)
          refine ⟨k + 1, by omega, by go_num, Lib.hid ⟨⟨_, hG8, ?_⟩, hL8⟩⟩
          rw [take_one HX.out, List.map_append, List.map_append, HGS.out]
          simp [fewES1, HCL.out, HGA0.out]
        case measure => simp [intOf]; omega
    · obtain ⟨gs, hG, hgs⟩ := hI.out.own
      have HB := Lib.hid hI.out.bel
      have HG := Lib.hid hG
      have HGS := Lib.hid hgs
      clear hG hgs hI
      by_cases hkr : k < rs.length
      · have g1 : decide ((k : Int) < (rs.length : Int)) = true := decide_eq_true (by omega)
        have g2 : decide ((k : Int) < 8) = false := decide_eq_false (by omega)
        have g2' : decide (k < 8) = false := decide_eq_false (by omega)
        have HK : Hid (k = 8) := Lib.hid (by omega)
        go_wp2
        go_ret
        refine ⟨_, gs, rfl, HG.out, ?_, HB.out⟩
        rw [HGS.out, fewES, HK.out]
      · have g1 : decide ((k : Int) < (rs.length : Int)) = false := decide_eq_false (by omega)
        have g1' : decide (k < rs.length) = false := decide_eq_false hkr
        have HK : Hid (rs.take 8 = rs.take k) := Lib.hid (by rw [List.take_of_length_le (by omega), List.take_of_length_le (by omega)])
        go_wp2
        go_ret
        refine ⟨_, gs, rfl, HG.out, ?_, HB.out⟩
        rw [HGS.out, fewES, HK.out]
end Go.Proofs.YtkpackbbahodcaaGreat
/- Sets by numbers may be; few jobs of few raw numbers; the chapter's example. -/
namespace Go.Proofs.YtkpackbbahodcaaGreat
open Go.RowKit
set_option linter.unusedVariables false
set_option linter.unusedSimpArgs false
def untS0 (ts : List Ts) (js : List Fv) (T : Nat) : List Spn × List Int := ((tst ts js T).sp, (tst ts js T).en)
/-! ### Sets by numbers -/
theorem word_t : ∀ i, i < 8 → wordB (bs [116, UInt8.ofNat (97 + i)]) = true := by
  intro i hi
  rw [wordB_cons (c := 116) (r := [UInt8.ofNat (97 + i)]) (by simp [bs])]
  have h : ∀ i, i < 8 → (decide ((oneT 0 116 [UInt8.ofNat (97 + i)]).k = 1) && decide ((oneT 0 116 [UInt8.ofNat (97 + i)]).t.length = 2)) = true := by decide +kernel
  have := h i hi
  rw [bs_size]
  exact this
theorem name_t_inj : ∀ i, i < 8 → ∀ j, j < 8 → bs [116, UInt8.ofNat (97 + i)] = bs [116, UInt8.ofNat (97 + j)] → i = j := by
  intro i hi j hj h
  have h2 : [116, UInt8.ofNat (97 + i)] = [116, UInt8.ofNat (97 + j)] := by
    have := congrArg (fun b : ByteArray => b.data.toList) h
    simpa [bs] using this
  have h3 : UInt8.ofNat (97 + i) = UInt8.ofNat (97 + j) := by simpa using h2
  have h4 := congrArg UInt8.toNat h3
  simp at h4
  omega
theorem sf_check {i : Nat} {x : Ts} (h : SF i x) (hi : i < 8) (h1 : 1 ≤ x.p) (h2 : x.p ≤ 8) : checkE x = 0 := by
  have hn : namedB x = true := by
    rw [namedB, h.n, word_t i hi, bs_size]
    rfl
  have hr : rangedB x = true := by
    have := h.c0; have := h.c1; have := h.d0; have := h.d1; have := h.j0; have := h.t0; have := h.t1; have := h.q0; have := h.q1
    rw [rangedB, inB_yes (by omega), inB_yes (by omega), inB_yes (by omega), inB_yes (by omega), inB_yes (by omega), inB_yes (by omega)]
    rfl
  have ho : overB x = false := by
    have := h.d0; have := h.t0; have := h.q1
    simp only [overB, decide_eq_false_iff_not]
    omega
  rw [checkE, hn, hr, ho]
  rfl
theorem chkFrom_good : ∀ (l pre : List Ts), (∀ x ∈ l, checkE x = 0) → (∀ (i j : Nat) (x y : Ts), (pre ++ l)[i]? = some x → (pre ++ l)[j]? = some y → (x.n = y.n ∨ x.p = y.p) → i = j) → (chkFrom pre l).2 = 0
  | [], pre, _, _ => rfl
  | a :: r, pre, h1, h2 => by
    have ha : (pre ++ a :: r)[pre.length]? = some a := by simp
    have hn : (nameIn pre a || prioIn pre a) = false := by
      rw [Bool.or_eq_false_iff]
      constructor
      · rw [nameIn, List.any_eq_false]
        intro y hy
        obtain ⟨i, hi, rfl⟩ := List.getElem_of_mem hy
        intro he
        have := h2 i pre.length _ a (by rw [List.getElem?_append_left hi, List.getElem?_eq_getElem hi]) ha (.inl (by simpa using he))
        omega
      · rw [prioIn, List.any_eq_false]
        intro y hy
        obtain ⟨i, hi, rfl⟩ := List.getElem_of_mem hy
        intro he
        have := h2 i pre.length _ a (by rw [List.getElem?_append_left hi, List.getElem?_eq_getElem hi]) ha (.inr (by simpa using he))
        omega
    rw [chkFrom, if_neg (by rw [h1 a (by simp)]; simp), hn]
    refine chkFrom_good r (pre ++ [a]) (fun x hx => h1 x (by simp [hx])) (fun i j x y hx hy he => h2 i j x y (by simpa using hx) (by simpa using hy) he)
theorem set_ok {ts : List Ts} (h1 : 1 ≤ ts.length) (h8 : ts.length ≤ 8) (hd : Dist ts) (hs : SFs ts) (hp : ∀ (i : Nat) (x : Ts), ts[i]? = some x → 1 ≤ x.p ∧ x.p ≤ 8) : (chkAll ts).2 = 0 := by
  rw [chkAll, if_neg (by omega)]
  refine chkFrom_good ts [] (fun x hx => ?_) (fun i j x y hx hy he => ?_)
  · obtain ⟨i, hi, rfl⟩ := List.getElem_of_mem hx
    have hg := List.getElem?_eq_getElem hi
    exact sf_check (hs i _ hg) (by omega) (hp i _ hg).1 (hp i _ hg).2
  · simp only [List.nil_append] at hx hy
    rcases he with he | he
    · have e1 := (hs i x hx).n
      have e2 := (hs j y hy).n
      have hi := (List.getElem?_eq_some_iff.1 hx).1
      have hj := (List.getElem?_eq_some_iff.1 hy).1
      rw [e1, e2] at he
      exact name_t_inj i (by omega) j (by omega) he
    · exact hd i j x y hx hy he


/-! ### Few jobs -/
structure TkS (x : Ts) : Prop where
  c0 : 1 ≤ x.c
  c1 : x.c ≤ 4
  t0 : 1 ≤ x.t
  t1 : x.t ≤ 20
  j0 : 0 ≤ x.j
  j1 : x.j ≤ 14
  q0 : 1 ≤ x.q
  q1 : x.q ≤ x.c
theorem tks_of {ss : List Ts} (h : SFs ss) (p : Int) : TkS (tk ss p) := by
  unfold tk
  rw [List.getD_eq_getElem?_getD]
  cases hp : ss[p.toNat]? with
  | none => exact ⟨by decide, by decide, by decide, by decide, by decide, by decide, by decide, by decide⟩
  | some x =>
    have s := h _ x hp
    have := s.c0; have := s.c1; have := s.d0; have := s.d1; have := s.j0; have := s.t0; have := s.t1; have := s.q0; have := s.q1
    exact ⟨by simp; omega, by simp; omega, by simp; omega, by simp; omega, by simp; omega, by simp; omega, by simp; omega, by simp; omega⟩
def Bs (js : List Fv) : Prop := ∀ j ∈ js, 0 ≤ j.a ∧ j.a ≤ js.length * 32
theorem Bs.snoc {ts : List Ts} (hs : SFs ts) {js : List Fv} (h : Bs js) {r : Fv} (hr : 0 ≤ r.a ∧ r.a < 12) : Bs (js ++ [decJ ts js r]) := by
  have hx := tks_of hs (r.t % (ts.length : Int))
  have h1 : 0 ≤ soonI ts js (r.t % (ts.length : Int)) ∧ soonI ts js (r.t % (ts.length : Int)) ≤ js.length * 32 + 20 := by
    unfold soonI
    cases hl : lastT js (r.t % (ts.length : Int)) with
    | none => simp only; omega
    | some j =>
      have := h j (lastT_mem hl).1
      have := hx.t0
      have := hx.t1
      simp only
      omega
  have e : r.a % 1048576 = r.a := Int.emod_eq_of_lt hr.1 (by omega)
  intro j hj
  rw [List.length_append, List.length_singleton]
  rcases List.mem_append.1 hj with hj | hj
  · have := h j hj; omega
  · rw [List.mem_singleton] at hj
    subst hj
    simp only [decJ, e]
    omega
theorem decF_bs {ts : List Ts} (hs : SFs ts) : ∀ (rs js : List Fv), (∀ r ∈ rs, 0 ≤ r.a ∧ r.a < 12) → Bs js → Bs (decF ts js rs)
  | [], js, _, h => h
  | r :: rs, js, hr, h => decF_bs hs rs _ (fun x hx => hr x (List.mem_cons_of_mem _ hx)) (h.snoc hs (hr r (by simp)))
/-- A set, and jobs, by few plain numbers. -/
structure Sm (ss : List Ts) (js : List Fv) (M n : Nat) : Prop where
  s1 : 1 ≤ ss.length
  sM : ss.length ≤ M
  M8 : M ≤ 8
  di : Dist ss
  sf : SFs ss
  pr : ∀ (i : Nat) (x : Ts), ss[i]? = some x → 1 ≤ x.p ∧ x.p ≤ 8
  lg : legS ss js = true
  le : js.length ≤ n
  bs : Bs js
theorem sm_of {ss : List Ts} {fs : List Fv} {M n : Nat} (s1 : 1 ≤ ss.length) (sM : ss.length ≤ M) (M8 : M ≤ 8) (di : Dist ss) (sf : SFs ss) (pr : ∀ (i : Nat) (x : Ts), ss[i]? = some x → 1 ≤ x.p ∧ x.p ≤ 8) (hf : fs.length ≤ n) (hn : n ≤ 10) (ha : ∀ r ∈ fs, 0 ≤ r.a ∧ r.a < 12) : Sm ss (decS ss fs) M n := by
  have hok := set_ok s1 (by omega) di sf pr
  have e : fs.take 4096 = fs := List.take_of_length_le (by omega)
  refine ⟨s1, sM, M8, di, sf, pr, decS_legal hok fs, ?_, ?_⟩
  · rw [decS, e, decF_len]; simp; omega
  · rw [decS, e]; exact decF_bs sf fs [] ha (fun j hj => by cases hj)
section
variable {ss : List Ts} {js : List Fv} {M n : Nat}
theorem Sm.ok (h : Sm ss js M n) : (chkAll ss).2 = 0 := set_ok h.s1 (by have := h.sM; have := h.M8; omega) h.di h.sf h.pr
theorem Sm.ljs (h : Sm ss js M n) : LJs ss js := by
  obtain ⟨h1, h2, h3⟩ := legS_parts h.lg
  exact ljs_of (vs_of h1) js h3
theorem Sm.lgs (h : Sm ss js M n) : Lg js := lg_of h.ljs
theorem Sm.t (h : Sm ss js M n) : ∀ i, i < js.length → 0 ≤ (jb js i).t ∧ (jb js i).t < ss.length := fun i hi => ⟨(jb_lj h.ljs hi).t0, (jb_lj h.ljs hi).t1⟩
theorem Sm.ar (h : Sm ss js M n) (hn : n ≤ 10) : ∀ j ∈ js, 0 ≤ j.a ∧ j.a ≤ 320 ∧ j.a ≤ j.r ∧ j.r ≤ 340 ∧ 1 ≤ j.k ∧ j.k ≤ 4 := fun j hj => by
  have h1 := h.bs j hj
  have h2 := h.ljs.all j hj
  have h3 := tks_of h.sf j.t
  have := h.le
  have := h2.r0; have := h2.r1; have := h2.k0; have := h2.k1; have := h3.j1; have := h3.c1
  omega
theorem Sm.arb (h : Sm ss js M n) (hn : n ≤ 10) {i : Nat} (hi : i < js.length) : 0 ≤ (jb js i).a ∧ (jb js i).a ≤ 320 ∧ (jb js i).a ≤ (jb js i).r ∧ (jb js i).r ≤ 340 ∧ 1 ≤ (jb js i).k ∧ (jb js i).k ≤ 4 := by
  have e : js[i]? = some js[i] := List.getElem?_eq_getElem hi
  rw [jb_get e]
  exact h.ar hn _ (List.mem_of_getElem? e)
theorem sum_bd (f : Fv → Int) (b : Int) : ∀ l : List Fv, (∀ j ∈ l, f j ≤ b) → (l.map f).sum ≤ l.length * b
  | [], _ => by simp
  | a :: l, h => by
    have := sum_bd f b l (fun j hj => h j (List.mem_cons_of_mem _ hj))
    have := h a (by simp)
    rw [List.map_cons, List.sum_cons, List.length_cons, Int.natCast_add, Int.add_mul]
    omega
theorem Sm.tot (h : Sm ss js M n) (hn : n ≤ 10) : (js.map (·.k)).sum ≤ 40 := by
  have := sum_bd (·.k) 4 js (fun j hj => (h.ar hn j hj).2.2.2.2.2)
  have := h.le
  omega
theorem Sm.done (h : Sm ss js M n) (hn : n ≤ 10) : ∀ i, i < js.length → kO (tst ss js 381).dn i = (jb js i).k :=
  done_at h.lgs 340 40 (fun i hi => (h.arb hn hi).2.2.2.1) (h.tot hn)
theorem Sm.doneT (h : Sm ss js M n) (hn : n ≤ 10) : ∀ i, i < js.length → kO (tst ss js 9223372036854775807).dn i = (jb js i).k := by
  intro i hi
  rw [(done_later h.lgs (show 381 ≤ 9223372036854775807 by omega) (h.done hn)).1]
  exact h.done hn i hi
end

/-! ### The example -/
def exA : Ts := ⟨{ data := #[97] }, 1, 9, 9, 0, 1, 1⟩
def exB : Ts := ⟨{ data := #[98] }, 3, 9, 9, 0, 2, 2⟩
def exJ : Fv := ⟨1, 0, 0, 3, [2]⟩
def exI : Fv := ⟨0, 1, 1, 1, []⟩
theorem word_ab : wordB { data := #[97] } = true ∧ wordB { data := #[98] } = true := ⟨wordB_one 97 (by decide +kernel), wordB_one 98 (by decide +kernel)⟩
theorem ex_ok : (chkAll [exA, exB]).2 = 0 := by
  have h : checkE exA = 0 := by simp [checkE, namedB, exA, word_ab.1, ByteArray.size, rangedB, inB, overB]
  have h' : checkE exB = 0 := by simp [checkE, namedB, exB, word_ab.2, ByteArray.size, rangedB, inB, overB]
  rw [chkAll, if_neg (by simp)]
  refine chkFrom_good _ _ (fun x hx => ?_) (fun i j x y hx hy he => ?_)
  · simp at hx
    rcases hx with rfl | rfl
    · exact h
    · exact h'
  · have hi := (List.getElem?_eq_some_iff.1 hx).1
    have hj := (List.getElem?_eq_some_iff.1 hy).1
    simp at hi hj
    rcases (by omega : i = 0 ∨ i = 1) with rfl | rfl <;> rcases (by omega : j = 0 ∨ j = 1) with rfl | rfl <;> simp at hx hy <;> subst hx <;> subst hy <;> simp [exA, exB] at he ⊢
theorem ex_leg : legS [exA, exB] [exJ, exI] = true := by
  rw [legS, decide_eq_true ⟨ex_ok, by simp⟩]
  decide +kernel
theorem ex_lg : Lg [exJ, exI] := by
  obtain ⟨h1, h2, h3⟩ := legS_parts ex_leg
  exact lg_of (ljs_of (vs_of h1) _ h3)
theorem ex_runs : untS0 [exA, exB] [exJ, exI] 9223372036854775807 = ([⟨0, 0, 2⟩, ⟨1, 2, 3⟩, ⟨0, 3, 4⟩], [4, 3]) := by
  have hd : (tst [exA, exB] [exJ, exI] 4).dn = [3, 1] := by decide +kernel
  have h := done_later (ts := [exA, exB]) ex_lg (a := 4) (b := 9223372036854775807) (by omega) (fun i hi => by
    rw [hd]
    have hi : i < 2 := hi
    rcases (by omega : i = 0 ∨ i = 1) with rfl | rfl <;> rfl)
  rw [untS0, h.2.1, h.2.2]
  decide +kernel
end Go.Proofs.YtkpackbbahodcaaGreat
/- The executive goes on: the walk. -/
namespace Go.Proofs.YtkpackbbahodcaaGreat
open Go.RowKit
set_option linter.unusedVariables false
set_option linter.unusedSimpArgs false
attribute [local go_sem ↓] Go.wp_at_zero Go.wp_at_succ
/-- Where it is at tick t, of T. -/
structure PlI (C : Cfg) (T t : Nat) (w : World) : Prop where
  ex : ∃ m L lf vc vs ve rb rv, Ex C w (C.mv t m L) vc vs ve rb rv lf ∧ (t < T → lf = lfN C.js (C.st t).dn ∧ PlF C t m L)
  le : t ≤ T
def PlP (C : Cfg) (T : Nat) (e : Ending) (w' : World) : Prop := e = .returned (.tuple #[]) ∧ ∃ M lf vc vs ve rb rv, Ex C w' M vc vs ve rb rv lf ∧ M.sp = (C.st T).sp ∧ M.en = (C.st T).en
section
variable {C : Cfg} {T t m k i τ : Nat} {L : List Int} {w : World}
theorem mv_run {rest : List Nat} (he : C.st (t + k) = runM C.js (C.st t) t i k) : wkM C (C.mv t m L) i k rest = C.mv (t + k) m (wkM C (C.mv t m L) i k rest).L := by
  have e : ((t + k : Nat) : Int) = (t : Int) + k := by omega
  unfold Cfg.mv
  rw [he, e]
  rfl
theorem pl_next {vc vs ve : Value} {rb : Nat → Nat} {rv : Nat → Value} {lf : Nat → Int × List Int} {rest : List Nat} (h : Ex C w (wkM C (C.mv t m L) i k rest) vc vs ve rb rv lf) (he : C.st (t + k) = runM C.js (C.st t) t i k) (hle : t + k ≤ T)
    (hF : t + k < T → PlF C (t + k) m (wkM C (C.mv t m L) i k rest).L ∧ ∀ p, lfN C.js (C.st (t + k)).dn p = lf p) : PlI C T (t + k) w := by
  rw [mv_run he] at h
  refine ⟨?_, hle⟩
  by_cases hlt : t + k < T
  · obtain ⟨h1, h2⟩ := hF hlt
    exact ⟨m, _, _, vc, vs, ve, rb, rv, h.lfs (fun p _ _ => h2 p), fun _ => ⟨rfl, h1⟩⟩
  · exact ⟨m, _, _, vc, vs, ve, rb, rv, h, fun h => absurd h hlt⟩
theorem lf_free (hC : Cok C) (hi : i < C.js.length) (hc : cl (jb C.js i).c (kO (C.st t).dn i) = []) (he : C.st (t + k) = runM C.js (C.st t) t i k) : ∀ p, lfN C.js (C.st (t + k)).dn p = lfW (lfN C.js (C.st t).dn) i k p := by
  intro p
  have e2 : (C.st (t + k)).dn = (C.st t).dn.set i (kO (C.st t).dn i + k) := by rw [he]; rfl
  unfold lfN lfW
  rw [e2, kO_run hC hi]
  by_cases h : p = i
  · subst h
    simp only [if_true, (cl_none _ _ hc k (by omega)).2, hc]
    congr 1
    omega
  · rw [if_neg h, if_neg h]
theorem lf_sec {l : List Int} (hC : Cok C) (hi : i < C.js.length) (hc : cl (jb C.js i).c (kO (C.st t).dn i + k) = l) (he : C.st (t + k) = runM C.js (C.st t) t i k) : ∀ p, lfN C.js (C.st (t + k)).dn p = lfW (lfC (lfN C.js (C.st t).dn) i l) i k p := by
  intro p
  have e2 : (C.st (t + k)).dn = (C.st t).dn.set i (kO (C.st t).dn i + k) := by rw [he]; rfl
  unfold lfN lfW lfC
  rw [e2, kO_run hC hi]
  by_cases h : p = i
  · subst h
    simp only [if_true, hc]
    congr 1
    omega
  · simp only [if_neg h]
theorem wkh_of {r : List Int} {rest : List Nat} {n : Int} (hC : Cok C) (htot : (C.js.map (·.k)).sum ≤ 1000000000) (hL : L = (τ : Int) :: r) (hτ : τ < C.ts.length) (hq : quS C.js (C.st t).dn (C.o.take m) τ = i :: rest) (n1 : 1 ≤ n) (n2 : kO (C.st t).dn i + n ≤ (jb C.js i).k) (n3 : (t : Int) + n ≤ 9223372036854775807) :
    WkH C (C.mv t m L) (lfN C.js (C.st t).dn) i τ r rest n := by
  have hi : i ∈ quS C.js (C.st t).dn (C.o.take m) τ := by rw [hq]; simp
  obtain ⟨a1, a2, a3⟩ := quS_mem.1 hi
  have hil : i < C.js.length := hC.rel (List.mem_of_mem_take a1)
  have hI := hC.ti t
  refine ⟨hI.ld.symm, hI.le.symm, hL, hτ, hq, rfl, fun y hy hyi => ?_, ?_, by simp only [Cfg.mv]; omega, n1, n2, n3, (hI.d0 i hil).1⟩
  · obtain ⟨y1, y2, y3, y4⟩ := hI.sp y hy
    simp only [Cfg.mv]
    rcases Int.lt_or_le y.t t with h | h
    · have := y4 h; rw [hyi] at this; omega
    · omega
  · have h2 : ((C.st t).sp.length : Int) ≤ (C.js.map (·.k)).sum := spn_few (ts := C.ts) hC.lg t
    simp only [Cfg.mv]
    omega
end
set_option maxRecDepth 100000 in
set_option maxHeartbeats 16000000 in
theorem play_any {C : Cfg} {w : World} {en : Int} {T : Nat} (hC : Cok C) (h : PlI C T 0 w) (hT : en.toNat = T) (he : en ≤ 9223372036854775807) (htot : (C.js.map (·.k)).sum ≤ 1000000000) :
    Calls Tryz.prog 32 #[.pointer (some ⟨C.bx, 0, none⟩), .int .i64 en] w (PlP C T) := by
  have H0 := Lib.hid h
  have HT := Lib.hid hT
  have HTOT := Lib.hid htot
  have HE := Lib.hid he
  clear h hT htot he
  go_enter Tryz.func32, Tryz.ntmps32
  go_wp2
  go_step3
  go_wp2
  go_step3
  go_wp2
  go_loopg [] (T + 1) (fun gm wr => ∃ t : Nat, T + 1 ≤ gm + t ∧ Hid (PlI C T t wr))
  case atStart => exact ⟨0, by omega, H0⟩
  case round =>
    obtain ⟨t, hm, hI⟩ := hrel
    clear H0
    obtain ⟨m, L, lf, vc, vs, ve, rb, rv, hE, hF⟩ := hI.out.ex
    have c4 := hE.c4
    have htT := hI.out.le
    by_cases hlt : t < T
    · obtain ⟨hlf, hF1⟩ := hF hlt
      subst hlf
      clear hF
      have hF := hF1
      clear hF1
      have ten : (t : Int) < en := by have := HT.out; omega
      have hen := HE.out
      have RL := Lib.hid (release_any (M := C.mv t m L) hC ⟨⟨vc, vs, ve, rb, rv, hE⟩, hF.hd, hF.le, Nat.le_refl _, hF.lo⟩ (show 0 ≤ (t : Int) ∧ (t : Int) ≤ 9223372036854775807 by omega) hF.hz)
      have HF := Lib.hid hF
      clear hE hF
      simp only [Cfg.mv] at c4
      go_upto_region 2 with (go_at_call 49; (with_reducible refine RL.out.mono ?_); rintro e w1 ⟨rfl, m1, L1, hR1, hRel⟩)
      have hF1 : PlF C t m1 L1 := ⟨hR1.hd, HF.out.dec, hR1.le, hR1.lo, fun p hp => HF.out.hz p (by
        have hge := hR1.ge
        simp only [Cfg.mv] at hge
        have : C.o.drop m1 = (C.o.drop m).drop (m1 - m) := by rw [List.drop_drop]; congr 1; omega
        rw [this] at hp
        exact List.mem_of_mem_drop hp)⟩
      obtain ⟨vc, vs, ve, rb, rv, hE1⟩ := hR1.ex
      have hE1 : Ex C w1 (C.mv t m1 L1) vc vs ve rb rv (lfN C.js (C.st t).dn) := hE1
      have hRel : Rel C.js C.o m1 t := hRel
      have l4 := World.block_lt_of_cell? w1 _ hE1.c4
      have QT := Lib.hid (quiet_any hC hE1 (show 0 ≤ (t : Int) ∧ (t : Int) ≤ 9223372036854775807 by omega))
      have E1 := Lib.hid hE1
      have F1 := Lib.hid hF1
      have RE := Lib.hid hRel
      have d4 := hE1.c4
      simp only [Cfg.mv] at d4
      clear hR1 hF1 hRel hE1 RL c4 HF
      cases L1 with
      | nil =>
        have FN := Lib.hid (fun W (hB : Below w1.heap.size w1 W) => first_none (E1.out.later hC hB) rfl)
        cases hd : C.o.drop m1 with
        | nil =>
          have hrel : relS C (C.mv t m1 []) = 9223372036854775807 := by unfold relS; simp only [Cfg.mv, hd]
          rw [hrel] at QT
          have HD := Lib.hid hd
          obtain ⟨g, off, cs, hvc, -⟩ := E1.out.com.ex
          simp only [Cfg.mv, hd, List.length_nil] at hvc
          subst hvc
          have d1 := E1.out.c1
          have l1 := World.block_lt_of_cell? w1 _ d1
          clear hrel hd
          go_upto_region 8 with (first
            | (go_at_call 51; (with_reducible refine QT.out.mono ?_); rintro e w2 ⟨rfl, nq, rfl⟩; have F2 := Lib.hid (FN.out _ (below_drewN2 w1 nq)))
            | (go_at_call 52; (with_reducible refine F2.out.mono ?_); rintro e w3 ⟨rfl, hB3⟩; have B3 := Lib.hid ((below_drewN2 w1 nq).trans (hB3.mono (by simp)));
               have y1 := (B3.out.cell (p := ⟨C.bx, 1, none⟩) l1).trans d1))
          have hdn := F1.out.ended hC HD.out
          have e := run_done (ts := C.ts) hC.lg hdn (T - t)
          rw [show t + (T - t) = T by omega] at e
          have EE := Lib.hid e
          have FIN := Lib.hid (E1.out.later hC B3.out)
          clear hdn e
          go_wp2
          first | rw [Exit.noGoto_ret] | simp only [Exit.noGoto] | skip
          go_end0
          exact ⟨rfl, _, _, _, _, _, _, _, FIN.out, EE.out.2.1.symm, EE.out.2.2.symm⟩
        | cons p r =>
          have hrel : relS C (C.mv t m1 []) = (jb C.js p).r - t := by unfold relS; simp only [Cfg.mv, hd]
          rw [hrel] at QT
          have hpl : p < C.js.length := hC.rel (List.mem_of_mem_drop (i := m1) (by rw [hd]; simp))
          have hrp := RE.out.hi p (by rw [hd]; simp)
          have hrb := hC.bd p hpl
          obtain ⟨k, hk⟩ : ∃ k : Nat, min ((jb C.js p).r - t) (en - t) = (k : Int) := ⟨(min ((jb C.js p).r - t) (en - t)).toNat, by omega⟩
          have hTen := HT.out
          have hk1 : 1 ≤ k := by omega
          have hkT : t + k ≤ T := by omega
          have hkr : (t : Int) + k ≤ (jb C.js p).r := by omega
          have IDL := Lib.hid (F1.out.idle hC RE.out hk1 (far hC RE.out hd hkr))
          have HD := Lib.hid hd
          obtain ⟨g, off, cs, hvc, -⟩ := E1.out.com.ex
          simp only [Cfg.mv, hd, List.length_cons] at hvc
          subst hvc
          have d1 := E1.out.c1
          have l1 := World.block_lt_of_cell? w1 _ d1
          have lz : (((r.length + 1 : Nat) : Int) == 0) = false := by rw [beq_eq_false_iff_ne]; omega
          have wsub : IntKind.i64.wrap (en - t) = en - t := IntWalk.i64_in _ (by omega)
          have WT := Lib.hid (fun W (hB : Below w1.heap.size w1 W) => wait_any hC (E1.out.later hC hB) (k : Int) (show (0 : Int) ≤ (t : Int) by omega) (by omega) (show (t : Int) + k ≤ 9223372036854775807 by omega))
          have HK := Lib.hid hk
          clear hrel hd hTen hkr hrp hrb hpl
          go_upto_region 9 with (first
            | (go_at_call 51; (with_reducible refine QT.out.mono ?_); rintro e w2 ⟨rfl, nq, rfl⟩; have F2 := Lib.hid (FN.out _ (below_drewN2 w1 nq)))
            | (go_at_call 52; (with_reducible refine F2.out.mono ?_); rintro e w3 ⟨rfl, hB3⟩; have B3 := Lib.hid ((below_drewN2 w1 nq).trans (hB3.mono (by simp)));
               have y1 := (B3.out.cell (p := ⟨C.bx, 1, none⟩) l1).trans d1))
          have y4 := (B3.out.cell (p := ⟨C.bx, 4, none⟩) l4).trans d4
          have W3 := Lib.hid (WT.out _ B3.out)
          clear y1 d1 d4 l1
          go_wp2_with (go_at_call 50; (with_reducible refine W3.out.mono ?_); rintro e w4 ⟨rfl, vc4, vs4, ve4, rb4, rv4, hE4⟩)
          have NX := Lib.hid (show PlI C T (t + k) w4 from by
            obtain ⟨e1, e2⟩ := IDL.out
            have e3 : ({ C.mv t m1 [] with now := (C.mv t m1 []).now + (k : Int) } : Mv) = C.mv (t + k) m1 [] := by
              have ec : ((t + k : Nat) : Int) = (t : Int) + k := by omega
              unfold Cfg.mv
              rw [e1, ec]
            rw [e3] at hE4
            have e4 : (C.st (t + k)).dn = (C.st t).dn := by rw [e1]
            refine ⟨⟨m1, [], _, vc4, vs4, ve4, rb4, rv4, hE4, fun _ => ⟨by rw [e4], e2⟩⟩, hkT⟩)
          clear hE4
          go_roundg (gk - k)
          case measure => omega
          case rel => exact ⟨t + k, by omega, NX⟩
      | cons x r =>
        obtain ⟨τ, i, rest, rfl, hτ, hq, hwho⟩ := F1.out.who_some hC RE.out
        have hiq : i ∈ quS C.js (C.st t).dn (C.o.take m1) τ := by rw [hq]; simp
        obtain ⟨a1, a2, a3⟩ := quS_mem.1 hiq
        have hil : i < C.js.length := hC.rel (List.mem_of_mem_take a1)
        have hbd := hC.bd i hil
        have hI := (hC.ti t).d0 i hil
        have FN := Lib.hid (fun W (hB : Below w1.heap.size w1 W) => first_some (M := C.mv t m1 ((τ : Int) :: r)) hC (E1.out.later hC hB) rfl hτ hq)
        have hTen := HT.out
        have RS := Lib.hid (fun W (hB : Below w1.heap.size w1 W) => (E1.out.later hC hB).rs i a1 a3)
        have wsub : IntKind.i64.wrap (en - t) = en - t := IntWalk.i64_in _ (by omega)
        have hwth := F1.out.wth hC i
        cases hcl : cl (jb C.js i).c (kO (C.st t).dn i) with
        | cons a l =>
          obtain ⟨s1, s2, s3, s4, s5⟩ := cl_step _ _ _ _ (hC.lg.pos i) hI.1 hwth hcl
          have hfit := hC.lg.fit i hil
          obtain ⟨k, hk⟩ : ∃ k : Nat, min a (en - t) = (k : Int) := ⟨(min a (en - t)).toNat, by omega⟩
          have hk1 : 1 ≤ k := by omega
          have hkT : t + k ≤ T := by omega
          have hka : (k : Int) ≤ a := by omega
          have hfull : t + k < T → (k : Int) = a := by omega
          have RUN := Lib.hid (run_sec (ts := C.ts) hC.lg hwho hwth hcl k hk1 hka)
          have SC := Lib.hid (fun W (hB : Below w1.heap.size w1 W) => section_any (n := (k : Int)) (a := a) (l := l) hC (E1.out.later hC hB) (wkh_of hC HTOT.out rfl hτ hq (by omega) (by omega) (by omega)) hcl)
          have FULL := Lib.hid hfull
          have S4 := Lib.hid s4
          have S5 := Lib.hid s5
          have HK := Lib.hid hk
          have HQ := Lib.hid hq
          have KB := Lib.hid (show kO (C.st t).dn i + k ≤ (jb C.js i).k by omega)
          have CLL := Lib.hid hcl
          have qv : Hid (relS C (C.mv t m1 ((τ : Int) :: r)) = relS C (C.mv t m1 ((τ : Int) :: r))) := Lib.hid rfl
          generalize relS C (C.mv t m1 ((τ : Int) :: r)) = rel at *
          clear hfull s2 s3 s4 s5 hq hiq a2 a3 hbd hI hwth hcl hfit hwho hTen
          go_upto_region 4 with (first
            | (go_at_call 51; (with_reducible refine QT.out.mono ?_); rintro e w2 ⟨rfl, nq, rfl⟩; have F2 := Lib.hid (FN.out _ (below_drewN2 w1 nq)))
            | (go_at_call 52; (with_reducible refine F2.out.mono ?_); rintro e w3 ⟨rfl, hB3⟩; have B3 := Lib.hid ((below_drewN2 w1 nq).trans (hB3.mono (by simp)))))
          have y4 := (B3.out.cell (p := ⟨C.bx, 4, none⟩) l4).trans d4
          obtain ⟨A, cc, hA, hcr⟩ := (RS.out _ B3.out).is
          have ecl : (lfN C.js (C.st t).dn i).2 = a :: l := CLL.out
          rw [ecl] at hA hcr
          obtain ⟨b, o, rfl, hca⟩ := hcr.at_ 0 a rfl
          have hle := hcr.le
          have hmx := hcr.mx
          rw [List.length_cons] at hA hle
          have q2 := cell_of_row w3 (rb i) 2 _ _ _ hA
          simp only [List.getElem?_toArray, List.getElem?_cons_zero, List.getElem?_cons_succ] at q2
          have q3 : w3.cell? ⟨b, o, none⟩ = some (.int .i64 a) := by
            have := ((E1.out.later hC B3.out).bel.cell (p := ⟨b, o + 0, none⟩) (World.block_lt_of_cell? _ _ hca)).trans hca
            rwa [Nat.add_zero] at this
          have lz : (0 : Int) < ((l.length + 1 : Nat) : Int) := by omega
          have S3 := Lib.hid (SC.out _ B3.out)
          clear hA hcr hca hB3 d4 ecl
          go_upto_region 5 with (fail)
          first | go_quiet (fail) | go_region
          have y4' : (w3.drewN nq).cell? ⟨C.bx, 4, none⟩ = some (.int .i64 (t : Int)) := y4
          have S4' := Lib.hid (SC.out _ (B3.out.trans ((below_drewN2 w3 nq).mono B3.out.size)))
          clear y4 q2 q3 S3
          go_wp2_with (go_at_call 53; (with_reducible refine S4'.out.mono ?_); rintro e w4 ⟨rfl, vc4, vs4, ve4, rb4, rv4, hE4⟩)
          have NX := Lib.hid (show PlI C T (t + k) w4 from pl_next hE4 RUN.out hkT (fun hlt2 => ⟨F1.out.ran hC rfl HQ.out hk1 RUN.out KB.out (by rw [FULL.out hlt2]; exact S4.out), lf_sec hC hil (by rw [FULL.out hlt2]; exact S5.out) RUN.out⟩))
          clear hE4
          go_roundg (gk - k)
          case measure => omega
          case rel => exact ⟨t + k, by omega, NX⟩
        | nil =>
          obtain ⟨hr1, hr2⟩ : 1 ≤ relS C (C.mv t m1 ((τ : Int) :: r)) ∧ ∀ k : Nat, (k : Int) ≤ relS C (C.mv t m1 ((τ : Int) :: r)) → ∀ j, j < C.js.length → (jb C.js j).r ≤ t ∨ (t : Int) + k ≤ (jb C.js j).r := by
            unfold relS
            simp only [Cfg.mv]
            cases hd : C.o.drop m1 with
            | nil =>
              simp only
              exact ⟨by omega, fun k _ => far_nil hC RE.out hd k⟩
            | cons p r' =>
              have hrp := RE.out.hi p (by rw [hd]; simp)
              simp only
              exact ⟨by omega, fun k hk => far hC RE.out hd (by omega)⟩
          generalize relS C (C.mv t m1 ((τ : Int) :: r)) = rel at *
          obtain ⟨k, hk⟩ : ∃ k : Nat, min (min ((jb C.js i).k - kO (C.st t).dn i) rel) (en - t) = (k : Int) := ⟨(min (min ((jb C.js i).k - kO (C.st t).dn i) rel) (en - t)).toNat, by omega⟩
          have hk1 : 1 ≤ k := by omega
          have hkT : t + k ≤ T := by omega
          have hkk : kO (C.st t).dn i + k ≤ (jb C.js i).k := by omega
          have RUN := Lib.hid (run_free (ts := C.ts) hC.lg F1.out.dec hwho hcl hkk (hr2 k (by omega)) k hk1 (Nat.le_refl _))
          have SC := Lib.hid (fun W (hB : Below w1.heap.size w1 W) => work_any (n := (k : Int)) hC (E1.out.later hC hB) (wkh_of hC HTOT.out rfl hτ hq (by omega) (by omega) (by omega)))
          have CLN := Lib.hid ((cl_none _ _ hcl k (by omega)).1)
          have KB := Lib.hid hkk
          have HK := Lib.hid hk
          have HQ := Lib.hid hq
          have CLL := Lib.hid hcl
          obtain ⟨kw, hkw⟩ : ∃ kw, (jb C.js i).k - kO (C.st t).dn i = kw := ⟨_, rfl⟩
          have HKW := Lib.hid hkw
          rw [hkw] at hk
          clear hr2 hq hiq a2 a3 hbd hI hwth hcl hwho hTen hkk hkw
          go_upto_region 4 with (first
            | (go_at_call 51; (with_reducible refine QT.out.mono ?_); rintro e w2 ⟨rfl, nq, rfl⟩; have F2 := Lib.hid (FN.out _ (below_drewN2 w1 nq)))
            | (go_at_call 52; (with_reducible refine F2.out.mono ?_); rintro e w3 ⟨rfl, hB3⟩; have B3 := Lib.hid ((below_drewN2 w1 nq).trans (hB3.mono (by simp)))))
          have y4 := (B3.out.cell (p := ⟨C.bx, 4, none⟩) l4).trans d4
          obtain ⟨A, cc, hA, hcr⟩ := (RS.out _ B3.out).is
          have ecl : lfN C.js (C.st t).dn i = (kw, []) := by unfold lfN; rw [CLL.out, HKW.out]
          rw [ecl] at hA
          simp only [List.length_nil] at hA
          have q2 := cell_of_row w3 (rb i) 2 _ _ _ hA
          have q1 := cell_of_row w3 (rb i) 1 _ _ _ hA
          simp only [List.getElem?_toArray, List.getElem?_cons_zero, List.getElem?_cons_succ] at q2 q1
          clear hA hcr hB3 d4 ecl
          go_upto_region 7 with (fail)
          first | go_quiet (fail) | go_region
          have y4' : (w3.drewN nq).cell? ⟨C.bx, 4, none⟩ = some (.int .i64 (t : Int)) := y4
          have S4' := Lib.hid (SC.out _ (B3.out.trans ((below_drewN2 w3 nq).mono B3.out.size)))
          clear y4 q2 q1
          go_wp2_with (go_at_call 54; (with_reducible refine S4'.out.mono ?_); rintro e w4 ⟨rfl, vc4, vs4, ve4, rb4, rv4, hE4⟩)
          have NX := Lib.hid (show PlI C T (t + k) w4 from pl_next hE4 RUN.out hkT (fun hlt2 => ⟨F1.out.ran hC rfl HQ.out hk1 RUN.out KB.out CLN.out, lf_free hC hil CLL.out RUN.out⟩))
          clear hE4
          go_roundg (gk - k)
          case measure => omega
          case rel => exact ⟨t + k, by omega, NX⟩
    · have hte : t = T := by omega
      subst hte
      have ten : ¬ ((t : Int) < en) := by have := HT.out; omega
      simp only [Cfg.mv] at c4
      have HX := Lib.hid hE
      clear hE hF
      go_wp2
      first | rw [Exit.noGoto_ret] | simp only [Exit.noGoto] | skip
      go_end0
      exact ⟨rfl, _, _, _, _, _, _, _, HX.out, rfl, rfl⟩
end Go.Proofs.YtkpackbbahodcaaGreat
