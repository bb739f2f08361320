/- RtaLeast: the walk. -/
import Derived.Test.YtnhddnldebdmbaaDoorG10
import Derived.Test.YtnhddnldebdmbaaDoorG7
namespace Go.Proofs.YtnhddnldebdmbaaDoor
open Go.RowKit
set_option linter.unusedVariables false
set_option linter.unusedSimpArgs false
set_option maxRecDepth 100000 in
set_option maxHeartbeats 8000000 in
theorem rle_walk (A0 : Option Addr) (cap0 : Nat) (l0 : List Sp) (a1 a2 : Int) (w : World) (hT : Tab w) (h0 : SRow w A0 cap0 l0) (i1 : in64 a1) (i2 : in64 a2) :
    Calls Tryd.prog 5 #[.slice A0 l0.length cap0, .int .i64 a1, .int .i64 a2] w fun e w' => e = .returned (.bool true) ∧ Below w.heap.size w w' := by
  have KA := Lib.hid awake_any
  have KS := Lib.hid (fun W (h : Lt w W) => set_any 6 (by omega) (by omega) A0 cap0 l0 a1 W (h0.later h) i1)
  have HL : Hid (Lt w w) := Lib.hid (Below.refl _ _)
  have HTB := Lib.hid (fun W (h : Lt w W) => hT.below h)
  have HI2 := Lib.hid i2
  generalize l0.length = m0 at *
  clear h0 hT i2
  go_enter Tryd.func5, Tryd.ntmps5
  go_upto_region 3 with (first
    | (go_at_call 8; (with_reducible refine (KA.out _ (HTB.out _ HL.out)).mono ?_); rintro e v ⟨rfl, h⟩; have HL := Lib.hid (lt_step _ _ HL.out h); clear h)
    | (go_at_call 9; (with_reducible refine (KS.out _ HL.out).mono ?_); rintro e v ⟨A, cap, ts, rfl, hR, hn1, hn6, hd, hsf, hp, h⟩; have HR := Lib.hid hR; have HST := Lib.hid (St.mk hn1 (by omega) hd hsf hp); have HL := Lib.hid (lt_step _ _ HL.out h); clear h hR hsf hd hp)
    | fail)
  have hle := HR.out.le
  have hmx := HR.out.mx
  obtain ⟨r0, r1⟩ := restI_bd a1 (ts.length : Int) (by omega) (by omega)
  have KR := Lib.hid (fun W => rest_any a1 (ts.length : Int) W i1 (by omega) (by omega))
  generalize restI a1 (ts.length : Int) = r at *
  obtain ⟨k, rfl⟩ : ∃ k : Nat, r = (k : Int) := ⟨r.toNat, by omega⟩
  obtain ⟨bk, ok, y, rfl, hy, hyw, hbl, hTk⟩ := HR.out.get (k := k) (by omega)
  have hck := HST.out.chk
  obtain ⟨iy, sy⟩ := HST.out.sf (List.mem_of_getElem? hy)
  have c0 := sy.c0
  have d0 := sy.d0
  have d1 := sy.d1
  have j0 := sy.j0
  have hbd := boundI_bd ts (k : Int)
  have hlp := least_pure hck hy
  have ik : in64 (k : Int) := ⟨by omega, by omega⟩
  have KB := Lib.hid (fun W (h : Lt v W) => rta_bound (some ⟨bk, ok, none⟩) cap ts k W (HR.out.later h) ik (HTB.out _ (lt_step _ _ HL.out h)))
  have KN := Lib.hid (fun W (h : Lt v W) (x : Int) (hx : U x) => need_any (some ⟨bk, ok, none⟩) cap ts k x W (HR.out.later h) ik hx (HTB.out _ (lt_step _ _ HL.out h)))
  obtain ⟨⟨br, be⟩, hbr⟩ : ∃ p, boundI ts (k : Int) = p := ⟨_, rfl⟩
  rw [hbr] at hbd hlp KB
  generalize needI ts (k : Int) = nf at *
  simp only at hbd hlp KB
  have HTk := Lib.hid hTk
  have HV : Hid (Lt v v) := Lib.hid (Below.refl _ _)
  generalize hN : ts.length = N at *
  obtain ⟨b0, b1, b2⟩ := hbd
  have hi0 : (0 : Int) ≤ (k : Int) := by omega
  have hi1 : (k : Int) < (N : Int) := by omega
  obtain ⟨md, hmd⟩ : ∃ md, y.d - y.j = md := ⟨_, rfl⟩
  obtain ⟨wd, hwd⟩ : ∃ wd, br - y.j = wd := ⟨_, rfl⟩
  have hm1 : 1 ≤ md ∧ md ≤ 14 := by omega
  rw [hmd, hwd] at hlp
  have HMD := Lib.hid hmd
  have HWD := Lib.hid hwd
  have HW1 := Lib.hid (w64 (z := md) (by omega) (by omega))
  clear hck hy hyw hbl hTk hbr i1 ik hn1 hn6 hN sy c0 d0 hle hmx
  rcases hlp with ⟨rfl, g1, g2, g3, g4⟩ | ⟨rfl, rfl, g4⟩
  · obtain ⟨s0, s1⟩ := restI_bd a2 wd (by omega) (by omega)
    have KR2 := Lib.hid (fun W => rest_any a2 wd W HI2.out (by omega) (by omega))
    generalize restI a2 wd = z at *
    have HWW := Lib.hid (w64 (z := wd) (by omega) (by omega))
    have HWX := Lib.hid (w64 (z := 1 + z) (by omega) (by omega))
    have HUX := Lib.hid (wu64 (z := 1 + z) (by omega) (by omega))
    have HUW := Lib.hid (wu64 (z := wd) (by omega) (by omega))
    have KNW := Lib.hid (fun W h => KN.out W h wd ⟨by omega, by omega⟩)
    have KNX := Lib.hid (fun W h => KN.out W h (1 + z) ⟨by omega, by omega⟩)
    rw [g3] at KNW
    have t1 : decide (wd < 1) = false := decide_eq_false (by omega)
    have t2 : decide (wd > md) = false := decide_eq_false (by omega)
    have t2' : decide (md < wd) = false := decide_eq_false (by omega)
    have t3 : (wd != wd) = false := by simp
    have G4 := Lib.hid g4
    by_cases hx : 1 + z = wd
    · have t4 : (1 + z == wd) = true := by simpa using hx
      clear g1 g2 g3 g4 hx s0 s1 r0 r1 hm1 b0 b1 b2 j0 d1
      go_upto_region 5 with (first
        | (go_at_call 11; (with_reducible refine (KR.out _).mono ?_); rintro e v1 ⟨rfl, rfl⟩)
        | (go_at_call 14; (with_reducible refine (KB.out _ HV.out).mono ?_); rintro e v1 ⟨rfl, h⟩; have HV := Lib.hid (lt_step _ _ HV.out h); clear h)
        | fail)
      have hTr := HTk.out.later HV.out
      have c3 := hTr.c3
      have c4 := hTr.c4
      clear hTr
      obtain ⟨hw1, hw1'⟩ := HW1.out
      have hmd := HMD.out
      go_quiet (fail)
      have HV := Lib.hid (show Lt v _ from below_drewN HV.out nq)
      have hwd := HWD.out
      obtain ⟨hx1, hx1'⟩ := HWX.out
      obtain ⟨hv1, hv1'⟩ := HWW.out
      have hu1 := HUX.out
      have hu2 := HUW.out
      go_wp2_with (first
        | (go_at_call 11; (with_reducible refine (KR2.out _).mono ?_); rintro e v3 ⟨rfl, rfl⟩)
        | (go_at_call 15; (with_reducible refine (KNW.out _ HV.out).mono ?_); rintro e v3 ⟨rfl, h⟩; have HV := Lib.hid (lt_step _ _ HV.out h); clear h)
        | fail)
      go_ret
      exact ⟨rfl, Below.trans HL.out (Below.mono HV.out (Below.size HL.out))⟩
    · have t4 : (1 + z == wd) = false := by simpa using hx
      have t5 : decide (nf (1 + z) > 1 + z) = true := decide_eq_true (g4 _ (by omega) (by omega))
      generalize nf (1 + z) = nz at *
      have T5 := Lib.hid t5
      clear g1 g2 g3 g4 hx s0 s1 r0 r1 hm1 b0 b1 b2 j0 d1
      go_upto_region 5 with (first
        | (go_at_call 11; (with_reducible refine (KR.out _).mono ?_); rintro e v1 ⟨rfl, rfl⟩)
        | (go_at_call 14; (with_reducible refine (KB.out _ HV.out).mono ?_); rintro e v1 ⟨rfl, h⟩; have HV := Lib.hid (lt_step _ _ HV.out h); clear h)
        | fail)
      have hTr := HTk.out.later HV.out
      have c3 := hTr.c3
      have c4 := hTr.c4
      clear hTr
      obtain ⟨hw1, hw1'⟩ := HW1.out
      have hmd := HMD.out
      go_quiet (fail)
      have HV := Lib.hid (show Lt v _ from below_drewN HV.out nq)
      have hwd := HWD.out
      obtain ⟨hx1, hx1'⟩ := HWX.out
      obtain ⟨hv1, hv1'⟩ := HWW.out
      have hu1 := HUX.out
      have hu2 := HUW.out
      have t5' : decide (1 + z < nz) = true := T5.out
      go_wp2_with (first
        | (go_at_call 11; (with_reducible refine (KR2.out _).mono ?_); rintro e v3 ⟨rfl, rfl⟩)
        | (go_at_call 15; (with_reducible refine (KNW.out _ HV.out).mono ?_); rintro e v3 ⟨rfl, h⟩; have HV := Lib.hid (lt_step _ _ HV.out h); clear h)
        | (go_at_call 15; (with_reducible refine (KNX.out _ HV.out).mono ?_); rintro e v4 ⟨rfl, h⟩; have HV := Lib.hid (lt_step _ _ HV.out h); clear h)
        | fail)
      go_ret
      exact ⟨rfl, Below.trans HL.out (Below.mono HV.out (Below.size HL.out))⟩
  · obtain ⟨s0, s1⟩ := restI_bd a2 md (by omega) (by omega)
    have KR2 := Lib.hid (fun W => rest_any a2 md W HI2.out (by omega) (by omega))
    generalize restI a2 md = z at *
    have HWX := Lib.hid (w64 (z := 1 + z) (by omega) (by omega))
    have HUX := Lib.hid (wu64 (z := 1 + z) (by omega) (by omega))
    have KNX := Lib.hid (fun W h => KN.out W h (1 + z) ⟨by omega, by omega⟩)
    have t5 : decide (nf (1 + z) > 1 + z) = true := decide_eq_true (g4 _ (by omega) (by omega))
    generalize nf (1 + z) = nz at *
    have T5 := Lib.hid t5
    have HWI := Lib.hid (show wrap64 (0 - y.j) = 0 - y.j ∧ IntKind.i64.wrap (0 - y.j) = 0 - y.j from ⟨IntWalk.wrap64_in _ (by omega), by rw [IntKind.wrap_i64]; omega⟩)
    clear g4 s0 s1 r0 r1 hm1 b0 b1 b2 j0 d1
    go_upto_region 5 with (first
      | (go_at_call 11; (with_reducible refine (KR.out _).mono ?_); rintro e v1 ⟨rfl, rfl⟩)
      | (go_at_call 14; (with_reducible refine (KB.out _ HV.out).mono ?_); rintro e v1 ⟨rfl, h⟩; have HV := Lib.hid (lt_step _ _ HV.out h); clear h)
      | fail)
    have hTr := HTk.out.later HV.out
    have c3 := hTr.c3
    have c4 := hTr.c4
    clear hTr
    obtain ⟨hw1, hw1'⟩ := HW1.out
    have hmd := HMD.out
    go_quiet (fail)
    have HV := Lib.hid (show Lt v _ from below_drewN HV.out nq)
    obtain ⟨hx1, hx1'⟩ := HWX.out
    obtain ⟨hz1, hz1'⟩ := HWI.out
    have hu1 := HUX.out
    have t5' : decide (1 + z < nz) = true := T5.out
    go_wp2_with (first
      | (go_at_call 11; (with_reducible refine (KR2.out _).mono ?_); rintro e v3 ⟨rfl, rfl⟩)
      | (go_at_call 15; (with_reducible refine (KNX.out _ HV.out).mono ?_); rintro e v4 ⟨rfl, h⟩; have HV := Lib.hid (lt_step _ _ HV.out h); clear h)
      | fail)
    go_ret
    exact ⟨rfl, Below.trans HL.out (Below.mono HV.out (Below.size HL.out))⟩
end Go.Proofs.YtnhddnldebdmbaaDoor
