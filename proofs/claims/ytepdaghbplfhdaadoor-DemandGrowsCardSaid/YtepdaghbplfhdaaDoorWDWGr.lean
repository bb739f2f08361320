/- DemandGrows: the walk. -/
import Derived.Test.YtepdaghbplfhdaaDoorG5
import Derived.Test.YtepdaghbplfhdaaDoorG7
namespace Go.Proofs.YtepdaghbplfhdaaDoor
open Go.RowKit
set_option linter.unusedVariables false
set_option linter.unusedSimpArgs false
set_option maxRecDepth 100000 in
set_option maxHeartbeats 8000000 in
theorem dgr_walk (A0 : Option Addr) (cap0 : Nat) (l0 : List Sp) (a1 a2 : Int) (w : World) (hT : Tab w) (h0 : SRow w A0 cap0 l0) (i1 : in64 a1) (i2 : U a2) :
    Calls Tryd.prog 5 #[.slice A0 l0.length cap0, .int .i64 a1, .int .u64 a2] w fun e w' => e = .returned (.bool true) ∧ Below w.heap.size w w' := by
  have KA := Lib.hid awake_any
  have KS := Lib.hid (fun W (h : Lt w W) => set_any 6 (by omega) (by omega) A0 cap0 l0 a1 W (h0.later h) i1)
  have HL : Hid (Lt w w) := Lib.hid (Below.refl _ _)
  have HTB := Lib.hid (fun W (h : Lt w W) => hT.below h)
  obtain ⟨x, hx, hxe⟩ := low40 a2
  generalize l0.length = m0 at *
  clear h0 hT
  go_enter Tryd.func5, Tryd.ntmps5
  go_upto_region 3 with (first
    | (go_at_call 9; (with_reducible refine (KA.out _ (HTB.out _ HL.out)).mono ?_); rintro e v ⟨rfl, h⟩; have HL := Lib.hid (lt_step _ _ HL.out h); clear h)
    | (go_at_call 10; (with_reducible refine (KS.out _ HL.out).mono ?_); rintro e v ⟨A, cap, ts, rfl, hR, hn1, hn6, hd, hsf, hp, h⟩; have HR := Lib.hid hR; have HST := Lib.hid (St.mk hn1 (by omega) hd hsf hp); have HL := Lib.hid (lt_step _ _ HL.out h); clear h hR hsf hd hp)
    | fail)
  have hle := HR.out.le
  have hmx := HR.out.mx
  obtain ⟨r0, r1⟩ := restI_bd a1 (ts.length : Int) (by omega) (by omega)
  have KR := Lib.hid (fun W => rest_any a1 (ts.length : Int) W i1 (by omega) (by omega))
  generalize restI a1 (ts.length : Int) = r at *
  obtain ⟨k, rfl⟩ : ∃ k : Nat, r = (k : Int) := ⟨r.toNat, by omega⟩
  obtain ⟨bk, ok, y, rfl, hy, hyw, hbl, hTk⟩ := HR.out.get (k := k) (by omega)
  have HY := Lib.hid hy
  obtain ⟨g1, g2, g3, g4, g5, g6, g7, g8⟩ := grows_pure HST.out hy (w := (x : Int)) (by omega) (by omega)
  have gq := HST.out.all_bd y.p ts.length
  rw [List.take_of_length_le (Nat.le_refl _)] at gq
  have gb := blockI_bd ts k
  have hys := HST.out.sf (List.mem_of_getElem? hy)
  have hyc : 1 ≤ y.c ∧ y.c ≤ 4 := by obtain ⟨i, s⟩ := hys; exact ⟨s.c0, s.c1⟩
  obtain ⟨yc0, yc1⟩ := hyc
  have ik : in64 (k : Int) := ⟨by omega, by omega⟩
  have KN0 := Lib.hid (fun W (h : Lt v W) => need_any (some ⟨bk, ok, none⟩) cap ts k 0 W (HR.out.later h) ik ⟨by decide, by decide⟩ (HTB.out _ (lt_step _ _ HL.out h)))
  have KN1 := Lib.hid (fun W (h : Lt v W) => need_any (some ⟨bk, ok, none⟩) cap ts k x W (HR.out.later h) ik ⟨by omega, by omega⟩ (HTB.out _ (lt_step _ _ HL.out h)))
  have KN2 := Lib.hid (fun W (h : Lt v W) => need_any (some ⟨bk, ok, none⟩) cap ts k (x + 1) W (HR.out.later h) ik ⟨by omega, by omega⟩ (HTB.out _ (lt_step _ _ HL.out h)))
  have KB := Lib.hid (fun W (h : Lt v W) => block_any (some ⟨bk, ok, none⟩) cap ts k W (HR.out.later h) ik (HTB.out _ (lt_step _ _ HL.out h)))
  generalize needI ts k 0 = n0 at *
  generalize needI ts k x = n1 at *
  generalize needI ts k (x + 1) = n2 at *
  generalize blockI ts k = bb at *
  have HTk := Lib.hid hTk
  generalize hN : ts.length = N at *
  have HN := Lib.hid hN
  have HQ : Hid (allC y.p ts = allC y.p (ts.take N)) := Lib.hid (by rw [List.take_of_length_le (by omega)])
  generalize hq : allC y.p ts = q at *
  have HV : Hid (Lt v v) := Lib.hid (Below.refl _ _)
  have d1 : decide (n1 ≤ n2) = true := decide_eq_true g1
  have d2 : decide (n2 ≤ n1 + max q (q * 2)) = true := decide_eq_true (by omega)
  have d3 : decide (n1 ≥ n0) = true := decide_eq_true g4
  have d3' : decide (n0 ≤ n1) = true := decide_eq_true g4
  have d4 : decide (y.c + bb ≤ n1) = true := decide_eq_true (by omega)
  clear hN hq hTk hy hyw hbl hys i1 i2 ik hn1 hn6
  go_upto_region 4 with (go_at_call 11; (with_reducible refine (KR.out _).mono ?_); rintro e v1 ⟨rfl, rfl⟩)
  go_upto_region 5 with (fail)
  clear hxe
  go_upto_region 6 with (go_at_call 16; (with_reducible refine (KN1.out _ HV.out).mono ?_); rintro e v1 ⟨rfl, h⟩; have HV := Lib.hid (lt_step _ _ HV.out h); clear h)
  go_upto_region 7 with (go_at_call 16; (with_reducible refine (KN2.out _ HV.out).mono ?_); rintro e v2 ⟨rfl, h⟩; have HV := Lib.hid (lt_step _ _ HV.out h); clear h)
  go_wp2
  go_loopw [13, 14, 15] (fun a b i wr => ∃ j : Nat, j ≤ N ∧ i = .int .i64 j ∧ a = .int .u64 (allC y.p (ts.take j)) ∧ b = .int .u64 (allC y.p (ts.take j) * 2) ∧ Hid (Lt v wr)) (fun _ _ i _ => N - (intOf i).toNat)
  case atStart => exact ⟨0, Nat.zero_le _, rfl, rfl, rfl, Lib.hid HV.out⟩
  case round =>
    obtain ⟨j, hj, rfl, rfl, rfl, HB⟩ := hrel
    have hab := HST.out.all_bd y.p j
    by_cases hlt : j < N
    · obtain ⟨b', o, z, e0, hz, hzw, hbl, hT⟩ := HR.out.get (k := j) (by rw [HN.out]; exact hlt)
      obtain ⟨rfl, rfl⟩ : bk = b' ∧ ok = o := by simpa using e0
      have hTr := hT.later HB.out
      have c1 := hTr.c1
      have c6 := hTr.c6
      have d6 := (HTk.out.later HB.out).c6
      have hs := allC_snoc (p := y.p) hz
      have hzs : 1 ≤ z.c ∧ z.c ≤ 4 := by obtain ⟨i, s⟩ := HST.out.sf (List.mem_of_getElem? hz); exact ⟨s.c0, s.c1⟩
      obtain ⟨z0, z1⟩ := hzs
      have hi0 : (0 : Int) ≤ (j : Int) := by omega
      have hi1 : (j : Int) < ((N : Nat) : Int) := by omega
      have hwz : IntKind.u64.wrap z.c = z.c := by rw [IntKind.wrap_u64]; omega
      have hwz2 : IntKind.u64.wrap (z.c * 2) = z.c * 2 := by rw [IntKind.wrap_u64]; omega
      have HS := Lib.hid hs
      generalize allC y.p (ts.take j) = s at *
      clear hT hTr hz hzw hbl hs e0
      by_cases hp : z.p < y.p
      · have u1 : decide (z.p < y.p) = true := decide_eq_true hp
        have HS := Lib.hid (HS.out.trans (show _ = s + z.c by rw [if_pos hp]))
        clear hp
        go_upto_region 12 with (fail)
        go_quiet (fail)
        go_wp2
        go_roundw
        case rel => exact ⟨j + 1, by omega, by go_num, by rw [HS.out], by rw [HS.out, Int.add_mul], Lib.hid (below_drewN HB.out _)⟩
        case measure => simp [intOf]; omega
      · have u1 : decide (z.p < y.p) = false := decide_eq_false hp
        have HS := Lib.hid (HS.out.trans (show _ = s by rw [if_neg hp, Int.add_zero]))
        clear hp
        go_upto_region 12 with (fail)
        go_quiet (fail)
        go_wp2
        go_roundw
        case rel => exact ⟨j + 1, by omega, by go_num, by rw [HS.out], by rw [HS.out], Lib.hid (below_drewN HB.out _)⟩
        case measure => simp [intOf]; omega
    · obtain rfl : j = N := by omega
      have hq2 : allC y.p (ts.take j) = q := HQ.out.symm
      rw [hq2]
      clear hq2 hab
      have HV := HB
      go_upto_region 15 with (fail)
      go_upto_region 16 with (go_at_call 16; (with_reducible refine (KN0.out _ HV.out).mono ?_); rintro e v3 ⟨rfl, h⟩; have HV := Lib.hid (lt_step _ _ HV.out h); clear h)
      have KP := fun (i : Wv v) => (HTk.out.later i.lt).c1
      have KB2 := Lib.hid (fun (i : Wv v) => calls_in (KB.out i.W i.lt))
      refine wp_region_in HV.out (by kernel_rfl) (by kernel_rfl) ?_
      repeat (go_big_quiet_step ((go_at_call 17; with_reducible exact KB2.out _)))
      refine wpQuiet_nil ?_
      intro _ hw9
      obtain ⟨nq, hw99⟩ := hw9
      subst hw99
      go_wp2
      go_ret
      exact ⟨rfl, Below.trans HL.out (Below.mono nq.lt (Below.size HL.out))⟩
end Go.Proofs.YtepdaghbplfhdaaDoor
