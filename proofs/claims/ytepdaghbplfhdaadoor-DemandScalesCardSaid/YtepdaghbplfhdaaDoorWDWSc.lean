/- DemandScales: the walk. -/
import Derived.Test.YtepdaghbplfhdaaDoorG5
import Derived.Test.YtepdaghbplfhdaaDoorG4
import Derived.Test.YtepdaghbplfhdaaDoorG7
namespace Go.Proofs.YtepdaghbplfhdaaDoor
open Go.RowKit
set_option linter.unusedVariables false
set_option linter.unusedSimpArgs false
theorem scl_at {l : List Ts} {i : Nat} {y : Ts} (h : l[i]? = some y) (k : Int) : (l.map (sclG k))[i]? = some (sclG k y) := by rw [List.getElem?_map, h]; rfl
theorem map_sum {l : List Ts} {p w k : Int} (hk : 0 < k) (h : ∀ x ∈ l, TsOk x) : ((l.map (sclG k)).map (addH p (w * k))).sum = (l.map (addH p w)).sum * k := by
  rw [List.map_map, ← sum_times]
  exact sum_eq fun x hx => add_scl hk (h x hx)
/-- What DemandScales asks. -/
theorem scales_pure {ts : List Ts} (h : St ts) {i : Nat} {y : Ts} (hy : ts[i]? = some y) {w k : Int} (h0 : 0 ≤ w) (h1 : w ≤ 60) (k0 : 1 ≤ k) (k1 : k ≤ 33554432) :
    higherI (ts.map (sclG k)) i (w * k) = higherI ts i w * k ∧ 0 ≤ higherI ts i w ∧ higherI ts i w ≤ 1776 ∧ blockI ts i = max (mostQ y.p ts - 1) 0 ∧ blockI (ts.map (sclG k)) i = max (mostQ y.p ts * k - 1) 0 := by
  have hg := great_ok h.n1 (by have := h.n6; omega) h.d h.s h.p ⟨k0, k1⟩
  have hyg := scl_at hy k
  have h6 := h.n6
  have hwk : 0 ≤ w * k ∧ w * k ≤ 60 * 33554432 := ⟨Int.mul_nonneg h0 (by omega), Int.mul_le_mul h1 k1 (by omega) (by omega)⟩
  have hgl : (ts.map (sclG k)).length = ts.length := List.length_map _
  have hv := vs_of hg
  have hsum : 0 ≤ (ts.map (addH y.p w)).sum ∧ (ts.map (addH y.p w)).sum ≤ 1776 := by
    have hb := sum_bd (l := ts) (f := addH y.p w) (B := 296) fun x hx => ⟨addH_nonneg (h.vs.all x hx) h0, by
      obtain ⟨i, s⟩ := h.sf hx
      have d0 := s.d0; have d1 := s.d1; have c0 := s.c0; have c1 := s.c1; have j0 := s.j0; have t0 := s.t0
      have e := ceilI_le (a := w + x.j) (t := x.t) (by omega) (by omega)
      have e0 := ceilI_nonneg (a := w + x.j) (t := x.t) (by omega) (by omega)
      have m : ceilI (w + x.j) x.t * x.c ≤ 74 * 4 := Int.mul_le_mul (by omega) c1 (by omega) (by omega)
      unfold addH
      split <;> omega⟩
    omega
  have hp : (sclG k y).p = y.p := rfl
  rw [higher_at hg hyg, hp, higher_at h.chk hy, block_at h.chk hy, block_at hg hyg, hp, blk_is y.p h.vs, blk_is y.p hv]
  refine ⟨?_, ?_, ?_, rfl, ?_⟩
  · by_cases e : w = 0
    · subst e
      rw [Int.zero_mul]
      show (0 : Int) = 0 * k
      rw [Int.zero_mul]
    · have hw1 : 1 * 1 ≤ w * k := Int.mul_le_mul (by omega) k0 (by omega) (by omega)
      rw [hiU_fits hv (B := 20000000000) (by omega) ⟨fun x hx => ?_, fun x hx => ?_, by omega, by omega⟩, h.hi h0 (by omega), if_neg e, map_sum (by omega) h.vs.all]
      · obtain ⟨z, hz, rfl⟩ := List.mem_map.1 hx
        obtain ⟨i, s⟩ := h.sf hz
        have d0 := s.d0; have d1 := s.d1; have c0 := s.c0
        have mj : z.j * k ≤ 14 * 33554432 := Int.mul_le_mul (by omega) k1 (by omega) (by omega)
        show w * k + z.j * k ≤ _
        omega
      · obtain ⟨z, hz, rfl⟩ := List.mem_map.1 hx
        obtain ⟨i, s⟩ := h.sf hz
        have d0 := s.d0; have d1 := s.d1; have c0 := s.c0; have c1 := s.c1; have j0 := s.j0; have t0 := s.t0
        show ceilI (w * k + z.j * k) (z.t * k) * (z.c * k) ≤ _
        rw [← Int.add_mul, ceil_scl (by omega) (by omega)]
        have e := ceilI_le (a := w + z.j) (t := z.t) (by omega) (by omega)
        have e0 := ceilI_nonneg (a := w + z.j) (t := z.t) (by omega) (by omega)
        have m1 : z.c * k ≤ 4 * 33554432 := Int.mul_le_mul c1 k1 (by omega) (by omega)
        have m0 : 0 ≤ z.c * k := Int.mul_nonneg (by omega) (by omega)
        have m : ceilI (w + z.j) z.t * (z.c * k) ≤ 74 * (4 * 33554432) := Int.mul_le_mul (by omega) m1 m0 (by omega)
        omega
  · rw [h.hi h0 (by omega)]
    split <;> omega
  · rw [h.hi h0 (by omega)]
    split <;> omega
  · have := most_scl (k := k) (p := y.p) (by omega) ts 0
    rw [Int.zero_mul] at this
    unfold mostQ
    rw [this]
/-- The greatest Q so far. -/
def mostF (p b : Int) (x : Ts) : Int := if x.p > p then max b x.q else b
theorem most_bd {ts : List Ts} (h : St ts) (p : Int) (j : Nat) : 0 ≤ (ts.take j).foldl (mostF p) 0 ∧ (ts.take j).foldl (mostF p) 0 ≤ 4 := by
  have : ∀ (m : List Ts) (b : Int), (∀ x ∈ m, x ∈ ts) → 0 ≤ b → b ≤ 4 → 0 ≤ m.foldl (mostF p) b ∧ m.foldl (mostF p) b ≤ 4 := by
    intro m
    induction m with
    | nil => intro b _ h0 h1; exact ⟨h0, h1⟩
    | cons a r ih =>
      intro b hm h0 h1
      obtain ⟨i, s⟩ := h.sf (hm a (by simp))
      have q0 := s.q0; have q1 := s.q1; have c1 := s.c1
      rw [List.foldl_cons]
      refine ih _ (fun x hx => hm x (by simp [hx])) ?_ ?_
      · unfold mostF; split <;> omega
      · unfold mostF; split <;> omega
  exact this _ 0 (fun x hx => List.mem_of_mem_take hx) (by omega) (by omega)
set_option maxRecDepth 100000 in
set_option maxHeartbeats 8000000 in
theorem dsc_walk (A0 : Option Addr) (cap0 : Nat) (l0 : List Sp) (x0 x1 a2 : Int) (w : World) (hT : Tab w) (h0 : SRow w A0 cap0 l0) (i0 : in64 x0) (i1 : in64 x1) (i2 : in64 a2) :
    Calls Tryd.prog 7 #[.slice A0 l0.length cap0, .agg #[.int .i64 x0, .int .i64 x1], .int .i64 a2] w fun e w' => e = .returned (.bool true) ∧ Below w.heap.size w w' := by
  have KA := Lib.hid awake_any
  have KS := Lib.hid (fun W (h : Lt w W) => set_any 6 (by omega) (by omega) A0 cap0 l0 x0 W (h0.later h) i0)
  have HTB := Lib.hid (fun W (h : Lt w W) => hT.below h)
  obtain ⟨z, hz, hze⟩ := low25 a2
  obtain ⟨kk, hkk⟩ : ∃ kk, kOf a2 = kk := ⟨_, rfl⟩
  have hkb := kOf_bd a2
  have hk : kk = 1 + (z : Int) := by rw [← hkk]; unfold kOf; rw [hze]
  rw [hkk] at hkb
  obtain ⟨k0, k1⟩ := hkb
  have HKK := Lib.hid hkk
  generalize l0.length = m0 at *
  clear h0 hT hkk
  go_enter Tryd.func7, Tryd.ntmps7
  go_upto_region 1 with (fail)
  obtain ⟨V0, hV0, HQ, HL⟩ : ∃ V0, w.alloc (.cells #[.int .i64 x0, .int .i64 x1] 46) = V0 ∧ Hid (Q2 w.heap.size x0 x1 V0) ∧ Hid (Lt w V0) := ⟨_, rfl, Lib.hid (Q2.new w _ x0 x1), Lib.hid (lt_alloc _ _)⟩
  rw [hV0]
  clear hV0
  generalize w.heap.size = bq at *
  go_upto_region 2 with (go_at_call 9; (with_reducible refine (KA.out _ (HTB.out _ HL.out)).mono ?_); rintro e v0 ⟨rfl, h⟩; have HQ := Lib.hid (HQ.out.step h); have HL := Lib.hid (lt_step _ _ HL.out h); clear h)
  obtain ⟨-, q0, q1⟩ := HQ.out
  go_upto_region 3 with (go_at_call 10; (with_reducible refine (KS.out _ HL.out).mono ?_); rintro e v ⟨A, cap, ts, rfl, hR, hn1, hn6, hd, hsf, hp, h⟩; have HR := Lib.hid hR; have HST := Lib.hid (St.mk hn1 (by omega) hd hsf hp); have HQ := Lib.hid (HQ.out.step h); have HL := Lib.hid (lt_step _ _ HL.out h); clear h hR hsf hd hp)
  clear q0 q1
  obtain ⟨-, q0, q1⟩ := HQ.out
  have hle := HR.out.le
  have hmx := HR.out.mx
  obtain ⟨r0, r1⟩ := restI_bd x0 (ts.length : Int) (by omega) (by omega)
  obtain ⟨s0, s1⟩ := restI_bd x1 61 (by omega) (by omega)
  have KR := Lib.hid (fun W => rest_any x0 (ts.length : Int) W i0 (by omega) (by omega))
  have KR2 := Lib.hid (fun W => rest_any x1 61 W i1 (by omega) (by omega))
  generalize restI x0 (ts.length : Int) = r at *
  generalize restI x1 61 = s at *
  obtain ⟨k, rfl⟩ : ∃ k : Nat, r = (k : Int) := ⟨r.toNat, by omega⟩
  obtain ⟨bk, ok, y, rfl, hy, hyw, hbl, hTk⟩ := HR.out.get (k := k) (by omega)
  have HY := Lib.hid hy
  obtain ⟨p1, p2, p3, p4, p5⟩ := scales_pure HST.out hy s0 (show s ≤ 60 by omega) k0 k1
  have hsk0 : 0 ≤ s * kk := Int.mul_nonneg s0 (by omega)
  have hsk1 : s * kk ≤ 60 * 33554432 := Int.mul_le_mul (by omega) k1 (by omega) (by omega)
  have us : U s := ⟨by omega, by omega⟩
  have usk : U (s * kk) := ⟨by omega, by omega⟩
  have ik : in64 (k : Int) := ⟨by omega, by omega⟩
  have hgl : (ts.map (sclG kk)).length = ts.length := List.length_map _
  have KBs := Lib.hid (fun W (h : Lt v W) => block_any (some ⟨bk, ok, none⟩) cap ts k W (HR.out.later h) ik (HTB.out _ (lt_step _ _ HL.out h)))
  have KHs := Lib.hid (fun W (h : Lt v W) => higher_any (some ⟨bk, ok, none⟩) cap ts k s W (HR.out.later h) ik us (HTB.out _ (lt_step _ _ HL.out h)))
  have KBg := Lib.hid (fun A c W (h : Lt v W) (hg : Row W A c (ts.map (sclG kk))) => block_any A c _ k W hg ik (HTB.out _ (lt_step _ _ HL.out h)))
  have KHg := Lib.hid (fun A c W (h : Lt v W) (hg : Row W A c (ts.map (sclG kk))) => higher_any A c _ k (s * kk) W hg ik usk (HTB.out _ (lt_step _ _ HL.out h)))
  rw [p4] at KBs
  rw [p5, hgl] at KBg
  rw [p1, hgl] at KHg
  have hm8 : ts.length ≤ 8 := by omega
  have KG := fun W (h : Row W (some ⟨bk, ok, none⟩) cap ts) => great_any (some ⟨bk, ok, none⟩) cap ts a2 W h i2 hm8 (sm20_of HST.out.s)
  rw [HKK.out] at KG
  have KG := Lib.hid KG
  have HGL := Lib.hid hgl
  have HMQ : Hid (mostQ y.p ts = ts.foldl (mostF y.p) 0) := Lib.hid rfl
  have hm0 : 0 ≤ mostQ y.p ts ∧ mostQ y.p ts ≤ 4 := by
    have := most_bd HST.out y.p ts.length
    rw [List.take_of_length_le (Nat.le_refl _)] at this
    exact this
  obtain ⟨m00, m01⟩ := hm0
  have mk0 : 0 ≤ mostQ y.p ts * kk := Int.mul_nonneg m00 (by omega)
  have mk1 : mostQ y.p ts * kk ≤ 4 * 33554432 := Int.mul_le_mul m01 k1 (by omega) (by omega)
  have hk0 : 0 ≤ higherI ts k s * kk := Int.mul_nonneg p2 (by omega)
  have hk1 : higherI ts k s * kk ≤ 1776 * 33554432 := Int.mul_le_mul p3 k1 (by omega) (by omega)
  have hwk : IntKind.u64.wrap kk = kk := by rw [IntKind.wrap_u64]; omega
  have hws : IntKind.u64.wrap s = s := by rw [IntKind.wrap_u64]; omega
  generalize higherI ts k s = hs at *
  generalize mostQ y.p ts = M at *
  have HTk := Lib.hid hTk
  generalize hN : ts.length = N at *
  have HN := Lib.hid hN
  have HV : Hid (Lt v v) := Lib.hid (Below.refl _ _)
  clear hN hTk hy hyw hbl i0 i1 i2 ik us usk p1 p4 p5 hgl hn1
  go_upto_region 4 with (go_at_call 11; (with_reducible refine (KR.out _).mono ?_); rintro e v1 ⟨rfl, rfl⟩)
  go_upto_region 5 with (go_at_call 11; (with_reducible refine (KR2.out _).mono ?_); rintro e v1 ⟨rfl, rfl⟩)
  go_upto_region 6 with (fail)
  rw [← hk]
  clear hk hz hze
  go_upto_region 7 with (go_at_call 13; (with_reducible refine (KG.out _ HR.out).mono ?_); rintro e v1 ⟨A2, cap2, rfl, hG, h⟩; rw [HGL.out]; have HG := Lib.hid hG; have HV := Lib.hid (lt_step _ _ HV.out h); clear hG h)
  go_upto_region 8 with (go_at_call 17; (with_reducible refine (KBs.out _ HV.out).mono ?_); rintro e v2 ⟨rfl, h⟩; have HG := Lib.hid (HG.out.later h); have HV := Lib.hid (lt_step _ _ HV.out h); clear h)
  go_upto_region 9 with (go_at_call 17; (with_reducible refine (KBg.out _ _ _ HV.out HG.out).mono ?_); rintro e v3 ⟨rfl, h⟩; have HG := Lib.hid (HG.out.later h); have HV := Lib.hid (lt_step _ _ HV.out h); clear h)
  go_wp2
  go_loopw [15, 16] (fun a i wr => ∃ j : Nat, j ≤ N ∧ i = .int .i64 j ∧ a = .int .i64 ((ts.take j).foldl (mostF y.p) 0) ∧ Hid (Lt v wr) ∧ Hid (Row wr A2 cap2 (ts.map (sclG kk)))) (fun _ i _ => N - (intOf i).toNat)
  case atStart => exact ⟨0, Nat.zero_le _, rfl, rfl, Lib.hid HV.out, HG⟩
  case round =>
    obtain ⟨j, hj, rfl, rfl, HB, HGR⟩ := hrel
    obtain ⟨b0, b1⟩ := most_bd HST.out y.p j
    by_cases hlt : j < N
    · obtain ⟨b', o, z, e0, hz, hzw, hbl, hT⟩ := HR.out.get (k := j) (by rw [HN.out]; exact hlt)
      obtain ⟨rfl, rfl⟩ : bk = b' ∧ ok = o := by simpa using e0
      have hTr := hT.later HB.out
      have c5 := hTr.c5
      have c6 := hTr.c6
      have d6 := (HTk.out.later HB.out).c6
      have HS := Lib.hid (foldl_snoc (mostF y.p) 0 ts j z hz)
      have hq : 1 ≤ z.q ∧ z.q ≤ 4 := by obtain ⟨i, s⟩ := HST.out.sf (List.mem_of_getElem? hz); exact ⟨s.q0, by have := s.q1; have := s.c1; omega⟩
      obtain ⟨z0, z1⟩ := hq
      have hi0 : (0 : Int) ≤ (j : Int) := by omega
      have hi1 : (j : Int) < ((N : Nat) : Int) := by omega
      have hi2 : (0 : Int) ≤ (k : Int) := by omega
      generalize (ts.take j).foldl (mostF y.p) 0 = b at *
      clear hT hTr hz hzw hbl e0
      by_cases hp : z.p > y.p
      · have u1 : decide (z.p > y.p) = true := decide_eq_true hp
        have u1' : decide (y.p < z.p) = true := decide_eq_true hp
        have HF : Hid (mostF y.p b z = max b z.q) := Lib.hid (by unfold mostF; rw [if_pos hp])
        clear hp
        go_upto_region 13 with (fail)
        go_quiet (fail)
        go_wp2
        go_roundw
        case rel => exact ⟨j + 1, by omega, by go_num, by rw [HS.out, HF.out], Lib.hid (below_drewN HB.out _), Lib.hid (HGR.out.later (below_drewN (Below.refl _ _) _))⟩
        case measure => simp [intOf]; omega
      · have u1 : decide (z.p > y.p) = false := decide_eq_false hp
        have u1' : decide (y.p < z.p) = false := decide_eq_false hp
        have HF : Hid (mostF y.p b z = b) := Lib.hid (by unfold mostF; rw [if_neg hp])
        clear hp
        go_upto_region 13 with (fail)
        go_quiet (fail)
        go_wp2
        go_roundw
        case rel => exact ⟨j + 1, by omega, by go_num, by rw [HS.out, HF.out], Lib.hid (below_drewN HB.out _), Lib.hid (HGR.out.later (below_drewN (Below.refl _ _) _))⟩
        case measure => simp [intOf]; omega
    · obtain rfl : j = N := by omega
      have hfull : (ts.take j).foldl (mostF y.p) 0 = M := by rw [List.take_of_length_le (by rw [HN.out]; exact Nat.le_refl _)]; exact HMQ.out.symm
      rw [hfull]
      clear hfull b0 b1
      go_upto_region 15 with (fail)
      go_wp2_with (first
        | (go_at_call 18; (with_reducible refine (KHs.out _ HB.out).mono ?_); rintro e wn ⟨rfl, h⟩; have HB := Lib.hid (lt_step _ _ HB.out h); clear h)
        | (go_at_call 18; (with_reducible refine (KHg.out _ _ _ HB.out HGR.out).mono ?_); rintro e wn ⟨rfl, h⟩; have HB := Lib.hid (lt_step _ _ HB.out h); have HGR := Lib.hid (HGR.out.later h); clear h)
        | fail)
      go_ret
      exact ⟨rfl, Below.trans HL.out (Below.mono HB.out (Below.size HL.out))⟩
end Go.Proofs.YtepdaghbplfhdaaDoor
