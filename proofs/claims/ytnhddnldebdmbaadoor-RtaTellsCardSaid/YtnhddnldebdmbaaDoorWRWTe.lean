/- RtaTells: the walk. -/
import Derived.Test.YtnhddnldebdmbaaDoorG10
import Derived.Test.YtnhddnldebdmbaaDoorG11
import Derived.Test.YtnhddnldebdmbaaDoorG7
namespace Go.Proofs.YtnhddnldebdmbaaDoor
open Go.RowKit
set_option linter.unusedVariables false
set_option linter.unusedSimpArgs false
theorem tdiv7 {a : Int} (h : in64 a) : in64 (a.tdiv 7) := by
  obtain ⟨h0, h1⟩ := h
  have e := Int.tmod_add_mul_tdiv a 7
  have m1 := Int.tmod_lt_of_pos a (show (0 : Int) < 7 by decide)
  have m2 := Int.tmod_lt_of_pos (-a) (show (0 : Int) < 7 by decide)
  rw [Int.neg_tmod] at m2
  exact ⟨by omega, by omega⟩
theorem St.few {ts : List Ts} (h : St ts) : Few20 ts := fun x hx => by
  obtain ⟨i, s⟩ := h.sf hx
  have := s.d1; have := s.j0
  omega
set_option maxRecDepth 100000 in
set_option maxHeartbeats 8000000 in
theorem rte_walk (A0 : Option Addr) (cap0 : Nat) (l0 : List Sp) (A1 : Option Addr) (cap1 : Nat) (l1 : List Ts) (x0 : Int) (w : World) (hT : Tab w) (h0 : SRow w A0 cap0 l0) (h1 : Row w A1 cap1 l1) (i0 : in64 x0) :
    Calls Tryd.prog 3 #[.slice A0 l0.length cap0, .slice A1 l1.length cap1, .int .i64 x0] w fun e w' => e = .returned (.bool true) ∧ Below w.heap.size w w' := by
  have KA := Lib.hid awake_any
  have KS := Lib.hid (fun W (h : Lt w W) => set_any 6 (by omega) (by omega) A0 cap0 l0 x0 W (h0.later h) i0)
  have HTB := Lib.hid (fun W (h : Lt w W) => hT.below h)
  have HR1 := Lib.hid (fun W (h : Lt w W) => h1.later h)
  have HL : Hid (Lt w w) := Lib.hid (Below.refl _ _)
  have hle1 := h1.le
  have hmx1 := h1.mx
  have i7 := tdiv7 i0
  generalize l0.length = m0 at *
  clear h0 hT h1
  go_enter Tryd.func3, Tryd.ntmps3
  go_upto_region 2 with (go_at_call 8; (with_reducible refine (KA.out _ (HTB.out _ HL.out)).mono ?_); rintro e v0 ⟨rfl, h⟩; have HL := Lib.hid (lt_step _ _ HL.out h); clear h)
  generalize hL1 : l1.length = n1 at *
  have HL1 := Lib.hid hL1
  clear hL1
  obtain ⟨pb, u1⟩ : ∃ pb, decide ((n1 : Int) > 4) = pb := ⟨_, rfl⟩
  have u1' : decide ((4 : Int) < (n1 : Int)) = pb := u1
  have HP := Lib.hid u1
  go_upto_if 12 with (fail)
  clear u1 u1'
  go_cut [1] from 10 to 14 (fun s1 wx => ∃ (A : Option Addr) (cap : Nat) (r : List Ts) (n : Nat), s1 = .slice A n cap ∧ r.length = n ∧ n ≤ 4 ∧ Hid (∀ W, Lt w W → Row W A cap r) ∧ v0 = wx)
  case first =>
    cases pb
    · have hp : n1 ≤ 4 := by have := of_decide_eq_false HP.out; omega
      go_wp2
      go_meet
      exact ⟨A1, cap1, l1, n1, rfl, HL1.out, hp, HR1, rfl⟩
    · have hp : (4 : Int) < (n1 : Int) := of_decide_eq_true HP.out
      obtain ⟨b1, o1, x, rfl, hx, hxw, hbl, hT⟩ := (HR1.out _ HL.out).get (k := 0) (by rw [HL1.out]; omega)
      have hlen : (l1.take 4).length = 4 := by rw [List.length_take, HL1.out]; omega
      clear hT hx hxw hbl
      go_wp2
      go_meet
      exact ⟨_, _, l1.take 4, 4, rfl, hlen, Nat.le_refl _, Lib.hid (fun W h => (HR1.out W h).take 4), rfl⟩
  case rest =>
    obtain ⟨Ar, cr, r, nr, rfl, hr, hr4, HRR, rfl⟩ := hcut
    have HNR := Lib.hid hr
    clear HR1 HP
    go_upto_region 5 with (go_at_call 9; (with_reducible refine (KS.out _ HL.out).mono ?_); rintro e v ⟨A, cap, ts, rfl, hR, hn1, hn6, hd, hsf, hp, h⟩; have HR := Lib.hid hR; have HST := Lib.hid (St.mk hn1 (by omega) hd hsf hp); have HL := Lib.hid (lt_step _ _ HL.out h); clear h hR hsf hd hp)
    have hle := HR.out.le
    have hmx := HR.out.mx
    obtain ⟨r0, r1⟩ := restI_bd x0 ((ts.length : Int) + 2) (by omega) (by omega)
    obtain ⟨s0, s1⟩ := restI_bd (x0.tdiv 7) (ts.length : Int) (by omega) (by omega)
    obtain ⟨t0, t1⟩ := restI_bd x0 6 (by omega) (by omega)
    have KR := Lib.hid (fun W => rest_any x0 ((ts.length : Int) + 2) W i0 (by omega) (by omega))
    have KR2 := Lib.hid (fun W => rest_any (x0.tdiv 7) (ts.length : Int) W i7 (by omega) (by omega))
    have KR3 := Lib.hid (fun W => rest_any x0 6 W i0 (by omega) (by omega))
    have HW7 := Lib.hid (show wrap64 (x0.tdiv 7) = x0.tdiv 7 ∧ IntKind.i64.wrap (x0.tdiv 7) = x0.tdiv 7 from ⟨IntWalk.wrap64_in _ (by obtain ⟨a, b⟩ := i7; omega), by obtain ⟨a, b⟩ := i7; rw [IntKind.wrap_i64]; omega⟩)
    obtain ⟨x7, hx7⟩ : ∃ x7, x0.tdiv 7 = x7 := ⟨_, rfl⟩
    have HW7 : Hid (wrap64 (x0.tdiv 7) = x7 ∧ IntKind.i64.wrap (x0.tdiv 7) = x7) := Lib.hid ⟨HW7.out.1.trans hx7, HW7.out.2.trans hx7⟩
    rw [hx7] at KR2 s0 s1 i7
    clear hx7
    generalize restI x0 ((ts.length : Int) + 2) = z at *
    generalize restI x7 (ts.length : Int) = z7 at *
    generalize restI x0 6 = z6 at *
    have HWA := Lib.hid (w64 (z := (ts.length : Int) + 2) (by omega) (by omega))
    have wm := fun (q : Int) (h0 : 0 ≤ q) (h1 : q ≤ 100) => (show wrap64 (q - 1) = q - 1 ∧ IntKind.i64.wrap (q - 1) = q - 1 from ⟨IntWalk.wrap64_in _ (by omega), by rw [IntKind.wrap_i64]; omega⟩)
    have HWZ := Lib.hid (wm z r0 (by omega))
    have HWZ6 := Lib.hid (wm z6 t0 (by omega))
    clear wm
    have hv1 : in64 (z - 1) := ⟨by omega, by omega⟩
    have hv2 : in64 z7 := ⟨by omega, by omega⟩
    have hv3 : in64 (z6 - 1) := ⟨by omega, by omega⟩
    have HV : Hid (Lt v v) := Lib.hid (Below.refl _ _)
    have KT := fun (i : Int) (hi : in64 i) => Lib.hid (fun W (h : Lt v W) => tells_any A cap ts i W (HR.out.later h) hi (HTB.out _ (lt_step _ _ HL.out h)) HST.out.few)
    have KT1 := KT x0 i0
    have KT2 := KT (z - 1) hv1
    have KT3 := KT z7 hv2
    have KT4 := Lib.hid (fun Ag cg W (h : Lt v W) (hg : Row W Ag cg (r.map smT)) => tells_any Ag cg (r.map smT) (z6 - 1) W hg hv3 (HTB.out _ (lt_step _ _ HL.out h)) (sm_few r))
    have KM := Lib.hid (fun W (h : Lt v W) => small_any Ar cr r W (HRR.out W (lt_step _ _ HL.out h)) (by omega))
    generalize hN : ts.length = N at *
    have hml : (r.map smT).length = nr := by rw [List.length_map]; exact hr
    rw [hr] at KM
    rw [hml] at KT4
    clear KT hN hv1 hv2 hv3 r0 r1 s0 s1 t0 t1 i7 hle hmx hr hr4 hn1 hn6 hle1 hmx1
    obtain ⟨e1, e1'⟩ := HWA.out
    obtain ⟨e2, e2'⟩ := HWZ.out
    obtain ⟨e3, e3'⟩ := HWZ6.out
    obtain ⟨e4, e4'⟩ := HW7.out
    go_wp2_with (first
      | (go_at_call 10; (with_reducible refine (KT1.out _ HV.out).mono ?_); rintro e v1 ⟨rfl, h⟩; have HV := Lib.hid (lt_step _ _ HV.out h); clear h)
      | (go_at_call 10; (with_reducible refine (KT2.out _ HV.out).mono ?_); rintro e v1 ⟨rfl, h⟩; have HV := Lib.hid (lt_step _ _ HV.out h); clear h)
      | (go_at_call 10; (with_reducible refine (KT3.out _ HV.out).mono ?_); rintro e v1 ⟨rfl, h⟩; have HV := Lib.hid (lt_step _ _ HV.out h); clear h)
      | (go_at_call 10; (with_reducible refine (KT4.out _ _ _ HV.out HSM.out).mono ?_); rintro e v1 ⟨rfl, h⟩; have HV := Lib.hid (lt_step _ _ HV.out h); clear h)
      | (go_at_call 11; (with_reducible refine (KR.out _).mono ?_); rintro e v3 ⟨rfl, rfl⟩)
      | (go_at_call 11; (with_reducible refine (KR2.out _).mono ?_); rintro e v3 ⟨rfl, rfl⟩)
      | (go_at_call 11; (with_reducible refine (KR3.out _).mono ?_); rintro e v3 ⟨rfl, rfl⟩)
      | (go_at_call 12; (with_reducible refine (KM.out _ HV.out).mono ?_); rintro e v3 ⟨Ag, cg, rfl, hg, h⟩; have HSM := Lib.hid hg; have HV := Lib.hid (lt_step _ _ HV.out h); clear h hg)
      | fail)
    go_ret
    exact ⟨rfl, Below.trans HL.out (Below.mono HV.out (Below.size HL.out))⟩
end Go.Proofs.YtnhddnldebdmbaaDoor
