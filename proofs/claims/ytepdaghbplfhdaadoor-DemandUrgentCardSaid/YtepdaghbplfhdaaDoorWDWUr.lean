/- DemandUrgent: the walk. -/
import Derived.Test.YtepdaghbplfhdaaDoorG5
import Derived.Test.YtepdaghbplfhdaaDoorG7
namespace Go.Proofs.YtepdaghbplfhdaaDoor
open Go.RowKit
set_option linter.unusedVariables false
set_option linter.unusedSimpArgs false
theorem all_snoc {f : Ts → Bool} {l : List Ts} {j : Nat} {x : Ts} (hx : l[j]? = some x) : (l.take (j + 1)).all f = ((l.take j).all f && f x) := by
  obtain ⟨hk, e⟩ := List.getElem?_eq_some_iff.1 hx
  rw [List.take_succ_eq_append_getElem hk, List.all_append, e]
  simp
/-- What DemandUrgent asks. -/
theorem urgent_pure {ts : List Ts} (h : St ts) {ka kb : Nat} {ya yb : Ts} (ha : ts[ka]? = some ya) (hb : ts[kb]? = some yb) (hp : ya.p ≤ yb.p) {x : Int} (hx : U x) :
    higherI ts ka x ≤ higherI ts kb x ∧ blockI ts ka ≥ blockI ts kb ∧ (ts.all (fun z => decide (z.p ≥ ya.p)) = true → higherI ts ka x = 0) ∧ (ts.all (fun z => decide (z.p ≤ yb.p)) = true → blockI ts kb = 0) := by
  rw [higher_at h.chk ha, higher_at h.chk hb, block_at h.chk ha, block_at h.chk hb]
  refine ⟨hi_urgent h.vs hp hx, blk_urgent h.vs hp, fun e => hi_none fun z hz => ?_, fun e => blk_none fun z hz => ?_⟩
  · have := of_decide_eq_true (List.all_eq_true.1 e z hz); omega
  · have := of_decide_eq_true (List.all_eq_true.1 e z hz); omega
set_option maxRecDepth 100000 in
set_option maxHeartbeats 8000000 in
theorem dur_walk (A0 : Option Addr) (cap0 : Nat) (l0 : List Sp) (x0 x1 a2 : Int) (w : World) (hT : Tab w) (h0 : SRow w A0 cap0 l0) (i0 : in64 x0) (i1 : in64 x1) (i2 : U a2) :
    Calls Tryd.prog 6 #[.slice A0 l0.length cap0, .agg #[.int .i64 x0, .int .i64 x1], .int .u64 a2] w fun e w' => e = .returned (.bool true) ∧ Below w.heap.size w w' := by
  have KA := Lib.hid awake_any
  have KS := Lib.hid (fun W (h : Lt w W) => set_any 6 (by omega) (by omega) A0 cap0 l0 x0 W (h0.later h) i0)
  have HTB := Lib.hid (fun W (h : Lt w W) => hT.below h)
  obtain ⟨x, hx, hxe⟩ := low40 a2
  generalize l0.length = m0 at *
  clear h0 hT
  go_enter Tryd.func6, Tryd.ntmps6
  go_upto_region 1 with (fail)
  obtain ⟨V0, hV0, HQ, HL⟩ : ∃ V0, w.alloc (.cells #[.int .i64 x0, .int .i64 x1] 46) = V0 ∧ Hid (Q2 w.heap.size x0 x1 V0) ∧ Hid (Lt w V0) := ⟨_, rfl, Lib.hid (Q2.new w _ x0 x1), Lib.hid (lt_alloc _ _)⟩
  rw [hV0]
  clear hV0
  generalize w.heap.size = bq at *
  go_upto_region 2 with (go_at_call 9; (with_reducible refine (KA.out _ (HTB.out _ HL.out)).mono ?_); rintro e v0 ⟨rfl, h⟩; have HQ := Lib.hid (HQ.out.step h); have HL := Lib.hid (lt_step _ _ HL.out h); clear h)
  obtain ⟨-, q0, q1⟩ := HQ.out
  go_upto_region 3 with (go_at_call 10; (with_reducible refine (KS.out _ HL.out).mono ?_); rintro e v ⟨A, cap, ts, rfl, hR, hn1, hn6, hd, hsf, hp, h⟩; have HR := Lib.hid hR; have HST := Lib.hid (St.mk hn1 (by omega) hd hsf hp); have HQ := Lib.hid (HQ.out.step h); have HL := Lib.hid (lt_step _ _ HL.out h); clear h hR hsf hd hp)
  clear q0 q1
  obtain ⟨-, q0, q1⟩ := HQ.out
  have hle := HR.out.le
  have hmx := HR.out.mx
  obtain ⟨r0, r1⟩ := restI_bd x0 (ts.length : Int) (by omega) (by omega)
  obtain ⟨s0, s1⟩ := restI_bd x1 (ts.length : Int) (by omega) (by omega)
  have KR := Lib.hid (fun W => rest_any x0 (ts.length : Int) W i0 (by omega) (by omega))
  have KR2 := Lib.hid (fun W => rest_any x1 (ts.length : Int) W i1 (by omega) (by omega))
  generalize restI x0 (ts.length : Int) = r at *
  generalize restI x1 (ts.length : Int) = s at *
  obtain ⟨k, rfl⟩ : ∃ k : Nat, r = (k : Int) := ⟨r.toNat, by omega⟩
  obtain ⟨m, rfl⟩ : ∃ m : Nat, s = (m : Int) := ⟨s.toNat, by omega⟩
  obtain ⟨bk, ok, y, rfl, hy, hyw, hbl, hTk⟩ := HR.out.get (k := k) (by omega)
  obtain ⟨bk', ok', z, e0, hz, hzw, hbl', hTm⟩ := HR.out.get (k := m) (by omega)
  obtain ⟨rfl, rfl⟩ : bk = bk' ∧ ok = ok' := by simpa using e0
  have HY := Lib.hid hy
  have HZ := Lib.hid hz
  have HN6 := Lib.hid hn6
  clear hy hz hyw hzw hbl hbl' e0 i0 i1 i2
  generalize hN : ts.length = N at *
  have HN := Lib.hid hN
  clear hN
  go_upto_region 4 with (go_at_call 11; (with_reducible refine (KR.out _).mono ?_); rintro e v1 ⟨rfl, rfl⟩)
  go_upto_region 5 with (go_at_call 11; (with_reducible refine (KR2.out _).mono ?_); rintro e v1 ⟨rfl, rfl⟩)
  have c6 := hTk.c6
  have d6 := hTm.c6
  obtain ⟨pb, u1⟩ : ∃ pb, decide (y.p > z.p) = pb := ⟨_, rfl⟩
  have u1' : decide (z.p < y.p) = pb := u1
  have HP := Lib.hid u1
  go_quiet (fail)
  go_upto_if 40 with (fail)
  have HV0 := Lib.hid (below_drewN (Below.refl v.heap.size v) nq)
  clear u1 u1' c6 d6
  go_cut [9, 10] from 30 to 50 (fun s9 s10 wx => ∃ (ka kb : Nat) (ya yb : Ts), s9 = .int .i64 (ka : Int) ∧ s10 = .int .i64 (kb : Int) ∧ ts[ka]? = some ya ∧ ts[kb]? = some yb ∧ ya.p ≤ yb.p ∧ Hid (Lt v wx))
  case first =>
    cases pb
    · have hp := of_decide_eq_false HP.out
      go_wp2
      go_meet
      exact ⟨k, m, y, z, rfl, rfl, HY.out, HZ.out, by omega, HV0⟩
    · have hp := of_decide_eq_true HP.out
      go_wp2_with (first
        | (go_at_call 11; (with_reducible refine (KR.out _).mono ?_); rintro e v1 ⟨rfl, rfl⟩)
        | (go_at_call 11; (with_reducible refine (KR2.out _).mono ?_); rintro e v1 ⟨rfl, rfl⟩)
        | fail)
      go_meet
      exact ⟨m, k, z, y, rfl, rfl, HZ.out, HY.out, by omega, HV0⟩
  case rest =>
    obtain ⟨ka, kb, ya, yb, rfl, rfl, hya, hyb, hab, HV⟩ := hcut
    clear hTk hTm HY HZ HP HV0 KR KR2 q0 q1 KS KA r0 r1 s0 s1
    have hka : ka < N := by have := (List.getElem?_eq_some_iff.1 hya).1; rw [← HN.out]; exact this
    have hkb : kb < N := by have := (List.getElem?_eq_some_iff.1 hyb).1; rw [← HN.out]; exact this
    have hn6 := HN6.out
    have ux : U (x : Int) := ⟨by omega, by omega⟩
    have ia : in64 (ka : Int) := ⟨by omega, by omega⟩
    have ib : in64 (kb : Int) := ⟨by omega, by omega⟩
    obtain ⟨p1, p2, p3, p4⟩ := urgent_pure HST.out hya hyb hab ux
    have ua := higherI_u ts ka x ux
    have ub := higherI_u ts kb x ux
    have va := blockI_bd ts ka
    have vb := blockI_bd ts kb
    have KHa := Lib.hid (fun W (h : Lt v W) => higher_any (some ⟨bk, ok, none⟩) cap ts ka x W (HR.out.later h) ia ux (HTB.out _ (lt_step _ _ HL.out h)))
    have KHb := Lib.hid (fun W (h : Lt v W) => higher_any (some ⟨bk, ok, none⟩) cap ts kb x W (HR.out.later h) ib ux (HTB.out _ (lt_step _ _ HL.out h)))
    have KBa := Lib.hid (fun W (h : Lt v W) => block_any (some ⟨bk, ok, none⟩) cap ts ka W (HR.out.later h) ia (HTB.out _ (lt_step _ _ HL.out h)))
    have KBb := Lib.hid (fun W (h : Lt v W) => block_any (some ⟨bk, ok, none⟩) cap ts kb W (HR.out.later h) ib (HTB.out _ (lt_step _ _ HL.out h)))
    rw [HN.out] at KHa KHb KBa KBb
    generalize higherI ts ka x = ha at *
    generalize higherI ts kb x = hb at *
    generalize blockI ts ka = ba at *
    generalize blockI ts kb = bb at *
    have D1 := Lib.hid (decide_eq_true p1)
    have D2 := Lib.hid (decide_eq_true p2)
    have D3 := Lib.hid p3
    have D4 := Lib.hid p4
    have HYA := Lib.hid hya
    have HYB := Lib.hid hyb
    obtain ⟨ua0, ua1⟩ := ua
    obtain ⟨ub0, ub1⟩ := ub
    obtain ⟨va0, va1⟩ := va
    obtain ⟨vb0, vb1⟩ := vb
    clear p1 p2 p3 p4 hya hyb hab ia ib hn6 ux
    go_upto_region 9 with (fail)
    clear hxe
    go_wp2
    go_loopw [12, 13, 14] (fun f l i wr => ∃ j : Nat, j ≤ N ∧ i = .int .i64 j ∧ f = .bool ((ts.take j).all fun z => decide (z.p ≥ ya.p)) ∧ l = .bool ((ts.take j).all fun z => decide (z.p ≤ yb.p)) ∧ Hid (Lt v wr)) (fun _ _ i _ => N - (intOf i).toNat)
    case atStart => exact ⟨0, Nat.zero_le _, rfl, rfl, rfl, Lib.hid HV.out⟩
    case round =>
      obtain ⟨j, hj, rfl, rfl, rfl, HB⟩ := hrel
      by_cases hlt : j < N
      · obtain ⟨b', o, z, e0, hz, hzw, hbl, hT⟩ := HR.out.get (k := j) (by rw [HN.out]; exact hlt)
        obtain ⟨rfl, rfl⟩ : bk = b' ∧ ok = o := by simpa using e0
        have c6 := (hT.later HB.out).c6
        have d6 := ((HR.out.at2 HYA.out).later HB.out).c6
        have e6 := ((HR.out.at2 HYB.out).later HB.out).c6
        obtain ⟨pa, wa⟩ : ∃ pa, decide (z.p ≥ ya.p) = pa := ⟨_, rfl⟩
        obtain ⟨pb, wb⟩ : ∃ pb, decide (z.p ≤ yb.p) = pb := ⟨_, rfl⟩
        have wa' : decide (ya.p ≤ z.p) = pa := wa
        have hsf := all_snoc (f := fun z => decide (z.p ≥ ya.p)) hz
        have hsl := all_snoc (f := fun z => decide (z.p ≤ yb.p)) hz
        simp only [wa, wb] at hsf hsl
        have HSF := Lib.hid hsf
        have HSL := Lib.hid hsl
        have hi0 : (0 : Int) ≤ (j : Int) := by omega
        have hi1 : (j : Int) < ((N : Nat) : Int) := by omega
        have hi2 : (0 : Int) ≤ (ka : Int) := by omega
        have hi3 : (ka : Int) < ((N : Nat) : Int) := by omega
        have hi4 : (0 : Int) ≤ (kb : Int) := by omega
        have hi5 : (kb : Int) < ((N : Nat) : Int) := by omega
        generalize (ts.take j).all (fun z => decide (z.p ≥ ya.p)) = f at *
        generalize (ts.take j).all (fun z => decide (z.p ≤ yb.p)) = l at *
        clear hT hz hzw hbl hsf hsl e0 D1 D2 D3 D4
        go_upto_region 14 with (fail)
        cases f
        all_goals cases l
        all_goals
          go_quiet (fail)
          go_upto_region 15 with (fail)
          go_quiet (fail)
          go_wp2
          go_roundw
          case rel => exact ⟨j + 1, by omega, by go_num, by rw [HSF.out]; rfl, by rw [HSL.out]; rfl, Lib.hid (below_drewN HB.out _)⟩
          case measure => simp [intOf]; omega
      · obtain rfl : j = N := by omega
        have hfull : ts.take j = ts := List.take_of_length_le (by rw [HN.out]; exact Nat.le_refl _)
        rw [hfull]
        clear hfull
        have D3 := D3
        have D4 := D4
        generalize ts.all (fun z => decide (z.p ≥ ya.p)) = f at *
        generalize ts.all (fun z => decide (z.p ≤ yb.p)) = l at *
        go_upto_region 16 with (fail)
        cases f
        all_goals cases l
        all_goals
          (try obtain rfl := D3.out rfl)
          (try obtain rfl := D4.out rfl)
          have d1 := D1.out
          have d2 := D2.out
          clear D1 D2 D3 D4
          go_wp2_with (first
            | (go_at_call 18; (with_reducible refine (KHa.out _ HB.out).mono ?_); rintro e wn ⟨rfl, h⟩; have HB := Lib.hid (lt_step _ _ HB.out h); clear h)
            | (go_at_call 18; (with_reducible refine (KHb.out _ HB.out).mono ?_); rintro e wn ⟨rfl, h⟩; have HB := Lib.hid (lt_step _ _ HB.out h); clear h)
            | (go_at_call 17; (with_reducible refine (KBa.out _ HB.out).mono ?_); rintro e wn ⟨rfl, h⟩; have HB := Lib.hid (lt_step _ _ HB.out h); clear h)
            | (go_at_call 17; (with_reducible refine (KBb.out _ HB.out).mono ?_); rintro e wn ⟨rfl, h⟩; have HB := Lib.hid (lt_step _ _ HB.out h); clear h)
            | fail)
          go_ret
          exact ⟨rfl, Below.trans HL.out (Below.mono HB.out (Below.size HL.out))⟩
end Go.Proofs.YtepdaghbplfhdaaDoor
