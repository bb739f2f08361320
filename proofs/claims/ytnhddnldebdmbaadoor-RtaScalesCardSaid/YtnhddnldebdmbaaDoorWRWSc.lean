/- RtaScales: the walk. -/
import Derived.Test.YtnhddnldebdmbaaDoorG10
import Derived.Test.YtnhddnldebdmbaaDoorG5
namespace Go.Proofs.YtnhddnldebdmbaaDoor
open Go.RowKit
set_option linter.unusedVariables false
set_option linter.unusedSimpArgs false
theorem sclQ_w {x : Ts} {k : Int} (hx : TsW x) (hs : Sm20 x) (hk : 1 ≤ k ∧ k ≤ 33554432) : TsW (sclQ k x) := by
  have h1 := mul20 hs.c hk
  have h2 := mul20 hs.t hk
  have h3 := mul20 hs.d hk
  have h4 := mul20 hs.j hk
  exact ⟨hx.n, (show in64 (x.c * k) from ⟨by omega, by omega⟩), (show in64 (x.t * k) from ⟨by omega, by omega⟩), (show in64 (x.d * k) from ⟨by omega, by omega⟩), (show in64 (x.j * k) from ⟨by omega, by omega⟩), ⟨by show _ ≤ (1 : Int); omega, by show (1 : Int) ≤ _; omega⟩, hx.p⟩
/-- What RtaScales asks. -/
theorem rsc_pure {ts : List Ts} (h : St ts) {k : Int} (k0 : 1 ≤ k) (k1 : k ≤ 33554432) :
    (chkAll (ts.map one1)).2 = 0 ∧ (chkAll (ts.map (sclQ k))).2 = 0 ∧ lateL (ts.map (sclQ k)) = lateL (ts.map one1) ∧ allE (ts.map (sclQ k)) = allE (ts.map one1) ∧ ∀ i : Nat, i < ts.length → (boundI (ts.map (sclQ k)) (i : Int)).1 = (boundI (ts.map one1) (i : Int)).1 * k := by
  have h1 := h.one
  have c1 := h1.chk
  have c2 := sclQ_ok h ⟨k0, k1⟩
  have e : ts.map (sclQ k) = (ts.map one1).map (sclQ k) := by rw [List.map_map]; rfl
  obtain ⟨kn, rfl⟩ : ∃ kn : Nat, k = (kn : Int) := ⟨k.toNat, by omega⟩
  have hb : ∀ i : Nat, i < ts.length → (boundI (ts.map (sclQ (kn : Int))) (i : Int)).1 = (boundI (ts.map one1) (i : Int)).1 * (kn : Int) ∧ (boundI (ts.map (sclQ (kn : Int))) (i : Int)).2 = (boundI (ts.map one1) (i : Int)).2 := fun i hi => by
    have hy : (ts.map one1)[i]? = some (one1 ts[i]) := by rw [List.getElem?_map, List.getElem?_eq_getElem hi]; rfl
    have hq : ∀ x ∈ ts.map one1, x.q = 1 := fun x hx => by obtain ⟨z, _, rfl⟩ := List.mem_map.1 hx; rfl
    have := bound_sclQ h1 hy hq (k := kn) (by omega) (by omega)
    rw [← e] at this
    exact this
  have hl : lateL (ts.map (sclQ (kn : Int))) = lateL (ts.map one1) := by
    unfold lateL
    rw [if_pos c1, if_pos c2, List.length_map, List.length_map]
    congr 1
    refine List.filter_congr fun i hi => ?_
    rw [(hb i (List.mem_range.1 hi)).2]
  refine ⟨c1, c2, hl, ?_, fun i hi => (hb i hi).1⟩
  unfold allE
  rw [if_pos c1, if_pos c2, hl]
set_option maxRecDepth 100000 in
set_option maxHeartbeats 8000000 in
theorem rsc_walk (A0 : Option Addr) (cap0 : Nat) (l0 : List Sp) (a1 a2 : Int) (w : World) (hT : Tab w) (h0 : SRow w A0 cap0 l0) (i1 : in64 a1) (i2 : in64 a2) :
    Calls Tryd.prog 6 #[.slice A0 l0.length cap0, .int .i64 a1, .int .i64 a2] w fun e w' => e = .returned (.bool true) ∧ Below w.heap.size w w' := by
  obtain ⟨i0, hi, hz0, hz1, hz2⟩ := info_parts infoTs
  have KA := Lib.hid awake_any
  have KS := Lib.hid (fun W (h : Lt w W) => seto_any 6 (by omega) (by omega) A0 cap0 l0 a1 W (h0.later h) i1)
  have HTB := Lib.hid (fun W (h : Lt w W) => hT.below h)
  have HL : Hid (Lt w w) := Lib.hid (Below.refl _ _)
  obtain ⟨z, hz, hze⟩ := low25 a2
  obtain ⟨k, hkk⟩ : ∃ k, kOf a2 = k := ⟨_, rfl⟩
  have hkb := kOf_bd a2
  have hk : k = 1 + (z : Int) := by rw [← hkk]; unfold kOf; rw [hze]
  rw [hkk] at hkb
  obtain ⟨k0, k1⟩ := hkb
  generalize l0.length = m0 at *
  clear h0 hT hkk
  go_enter Tryd.func6, Tryd.ntmps6
  go_upto_region 2 with (go_at_call 8; (with_reducible refine (KA.out _ (HTB.out _ HL.out)).mono ?_); rintro e v0 ⟨rfl, h⟩; have HL := Lib.hid (lt_step _ _ HL.out h); clear h)
  go_upto_region 3 with (go_at_call 9; (with_reducible refine (KS.out _ HL.out).mono ?_); rintro e v ⟨g, cap, ts, rfl, hO, hn1, hn6, hd, hsf, hp, h⟩; have HO := Lib.hid hO; have HST := Lib.hid (St.mk hn1 (by omega) hd hsf hp); have HGW := Lib.hid (Nat.le_trans HL.out.size hO.hB); have HW0 := Lib.hid HL.out.size; have HL := Lib.hid (lt_step _ _ HL.out h); have HSZ := Lib.hid (Below.size HL.out); clear h hO hsf hd hp)
  have hle := HO.out.le
  have hmx := HO.out.mx
  have HGB := Lib.hid HO.out.lt
  obtain ⟨c1, c2, hll, hae, hbb⟩ := rsc_pure HST.out k0 k1
  have HSM := Lib.hid (sm20_of HST.out.s)
  have HWT := Lib.hid HO.out.wf
  have HC1 := Lib.hid c1
  have HC2 := Lib.hid c2
  have HLL := Lib.hid hll
  have HAE := Lib.hid hae
  have HBB := Lib.hid hbb
  obtain ⟨B2, hB2⟩ : ∃ B2, v.heap.size = B2 := ⟨_, rfl⟩
  rw [hB2] at HGB HSZ
  generalize hN : ts.length = N at *
  have HN := Lib.hid hN
  have hN6 : N ≤ 6 := by omega
  have HB2 := Lib.hid hB2
  clear hN hB2 c1 c2 hll hae hbb i1 i2 hn1 hn6
  go_upto_region 4 with (fail)
  rw [← hk]
  clear hk hz hze
  go_wp2
  go_loopw [10, 11] (fun vv i wr => ∃ j : Nat, j ≤ N ∧ i = .int .i64 j ∧ Hid (OwnT w.heap.size wr g cap (mixQ ts j)) ∧ Hid (SetIn B2 wr vv j ((ts.take j).map (sclQ k))) ∧ Hid (Lt w wr) ∧ Hid (B2 ≤ wr.heap.size)) (fun _ i _ => N - (intOf i).toNat)
  case atStart => exact ⟨0, Nat.zero_le _, rfl, Lib.hid (by rw [mixQ_zero]; exact HO.out.low HW0.out), Lib.hid (SetIn.nil _ _), HL, Lib.hid (by rw [HB2.out]; exact Nat.le_refl _)⟩
  case round =>
    obtain ⟨j, hj, rfl, HO, HI, HL, HS2⟩ := hrel
    obtain ⟨A2, cap2, hv2, hl2, hm2⟩ := own_len HI.out.row
    subst hv2
    by_cases hlt : j < N
    · obtain ⟨x, hx⟩ : ∃ x, ts[j]? = some x := ⟨_, List.getElem?_eq_getElem (show j < ts.length by rw [HN.out]; exact hlt)⟩
      have c5 := (HO.out.at_ j x (mixQ_at hx)).c5
      have fz := HO.out.fz (j * 7 + 5)
      have hi0 : (0 : Int) ≤ (j : Int) := by omega
      have hi1 : (j : Int) < ((N : Nat) : Int) := by omega
      go_upto_region 9 with (fail)
      obtain ⟨V, hV, HO, HI, HL, HS2⟩ : ∃ V, wr.setCell ⟨g, j * 7 + 5, none⟩ (.int .i64 1) = V ∧ Hid (OwnT w.heap.size V g cap (mixQ ts (j + 1))) ∧ Hid (SetIn B2 V (.slice A2 j cap2) j ((ts.take j).map (sclQ k))) ∧ Hid (Lt w V) ∧ Hid (B2 ≤ V.heap.size) :=
        ⟨_, rfl, Lib.hid (HO.out.setQ hx (HWT.out x (List.mem_of_getElem? hx))), Lib.hid (HI.out.aside _ HGB.out), Lib.hid (setCell_own HL.out HGW.out _), Lib.hid (by simpa using HS2.out)⟩
      rw [hV]
      clear hV c5 fz
      have hT : TAt V g (j * 7) (one1 x) := HO.out.at_ j _ (by rw [← mixQ_set hx, List.getElem?_set_self (by rw [mixQ_len, HN.out]; exact hlt)])
      have c0 := hT.c0
      have c1 := hT.c1
      have c2 := hT.c2
      have c3 := hT.c3
      have c4 := hT.c4
      have c5 := hT.c5
      have c6 := hT.c6
      have hsm := HSM.out x (List.mem_of_getElem? hx)
      have hxw := HWT.out x (List.mem_of_getElem? hx)
      obtain ⟨a1, b1⟩ := mul20 hsm.c ⟨k0, k1⟩
      obtain ⟨a2, b2⟩ := mul20 hsm.t ⟨k0, k1⟩
      obtain ⟨a3, b3⟩ := mul20 hsm.d ⟨k0, k1⟩
      obtain ⟨a4, b4⟩ := mul20 hsm.j ⟨k0, k1⟩
      have HST := Lib.hid (sclQ_step (k := k) hx)
      have HXW := Lib.hid (sclQ_w hxw hsm ⟨k0, k1⟩)
      obtain ⟨nm, xc, xt, xd, xj, xq, xp⟩ := x
      simp only [one1] at *
      have H7 := seven_new (V.alloc (.cells #[.string nm, .int .i64 xc, .int .i64 xt, .int .i64 xd, .int .i64 xj, .int .i64 1, .int .i64 xp] 35)) (sclQ k ⟨nm, xc, xt, xd, xj, xq, xp⟩)
      rw [World.size_alloc] at H7
      have H7 := Lib.hid H7
      clear hT hx hxw hsm
      go_upto_region 10 with (fail)
      go_wp2_with (at_builtin; refine wpList_append_own _ rfl _ _ 23 rfl B2 35 i0 _ 7 64 Tryd.underlying23 hi hz0 hz1 hz2 rfl (by decide) _ _ _ rfl ((HI.out.row.alloc _).alloc _) ⟨V.heap.size + 1, 0, none⟩ 1 1 (tsL (sclQ k ⟨nm, xc, xt, xd, xj, xq, xp⟩)) rfl rfl H7.out (tsL_one _) (by unfold maxLen; omega) (by omega) (by have := HS2.out; simp; omega) ?_; intro v' w4 hown' hgrow hnil')
      go_roundw
      case rel =>
        have hb : Below B2 V w4 := ((((Below.refl B2 V)).alloc HS2.out _).alloc (by have := HS2.out; simp; omega) _).grown hgrow (by have := HS2.out; simp; omega) (fun q hq => (HI.out.row.lt q hq).1)
        exact ⟨j + 1, by omega, by go_num, Lib.hid (HO.out.below hb HGB.out), Lib.hid (by rw [HST.out]; exact HI.out.snoc HXW.out hown'), Lib.hid (Below.trans HL.out (hb.mono HSZ.out)), Lib.hid (Nat.le_trans HS2.out hb.size)⟩
      case measure => simp [intOf]; omega
    · obtain rfl : j = N := by omega
      have hfull : ts.take j = ts := List.take_of_length_le (by rw [HN.out]; exact Nat.le_refl _)
      have hmf : mixQ ts j = ts.map one1 := by rw [← HN.out]; exact mixQ_full ts
      rw [hfull] at HI
      rw [hmf] at HO
      obtain ⟨A3, cap3, hv3, hF⟩ := HI.out.rowR
      have hgl : (ts.map (sclQ k)).length = j := by rw [List.length_map]; exact HN.out
      have hsl : (ts.map one1).length = j := by rw [List.length_map]; exact HN.out
      have HV := Lib.hid (show wr = wr from rfl)
      rw [hgl] at hv3
      obtain ⟨rfl, hcc⟩ : A2 = A3 ∧ cap2 = cap3 := by simpa using hv3
      subst hcc
      have KAS := Lib.hid (fun W (h : Lt wr W) => rta_all _ _ _ W (HO.out.row.later h) (HTB.out _ (lt_step _ _ HL.out h)))
      have KAG := Lib.hid (fun W (h : Lt wr W) => rta_all _ _ _ W (hF.later h) (HTB.out _ (lt_step _ _ HL.out h)))
      have HW : Hid (Lt wr wr) := Lib.hid (Below.refl _ _)
      have hb1 := bndsL_len HC1.out
      have hb2 := bndsL_len HC2.out
      have HB1 := Lib.hid (fun i h => bndsL_at (k := i) HC1.out h)
      have HB2 := Lib.hid (fun i h => bndsL_at (k := i) HC2.out h)
      have HBD := Lib.hid (fun i : Nat => boundI_bd (ts.map (sclQ k)) (i : Int))
      have HBS := HBB
      unfold AllP at KAS KAG
      rw [hb1, hsl] at KAS
      rw [hb2, hgl, HLL.out, HAE.out] at KAG
      rw [hsl] at HB1 hb1
      rw [hgl] at HB2 hb2
      generalize (lateL (ts.map one1)).length = nl at *
      generalize allE (ts.map one1) = ae at *
      have t1 : ((j : Int) != (j : Int)) = false := by simp
      have t2 : ((nl : Int) != (nl : Int)) = false := by simp
      have t3 : (ae != ae) = false := by simp
      clear hF hv3 hfull hmf hgl hsl hlt
      go_upto_region 12 with (go_at_call 16; (with_reducible refine (KAS.out _ HW.out).mono ?_); rintro e w1 ⟨E1, d1, E2, d2, rfl, hi1, hi2, h⟩; have HI1 := Lib.hid hi1; have HI2 := Lib.hid hi2; have HW := Lib.hid (lt_step _ _ HW.out h); clear h hi1 hi2)
      go_upto_region 13 with (go_at_call 16; (with_reducible refine (KAG.out _ HW.out).mono ?_); rintro e w2 ⟨F1, f1, F2, f2, rfl, hj1, hj2, h⟩; have HJ1 := Lib.hid hj1; have HJ2 := Lib.hid hj2; have HI1 := Lib.hid (HI1.out.later h); have HI2 := Lib.hid (HI2.out.later h); have HW := Lib.hid (lt_step _ _ HW.out h); clear h hj1 hj2)
      have q1 := HI1.out.le
      have q1m := HI1.out.mx
      have q2 := HI2.out.le
      have q2m := HI2.out.mx
      have q3 := HJ1.out.le
      have q3m := HJ1.out.mx
      have q4 := HJ2.out.le
      have q4m := HJ2.out.mx
      rw [hb1] at q1
      rw [hb2] at q3
      clear q1m q2m q3m q4m
      go_wp2
      go_loopw [19] (fun i wx => ∃ m : Nat, m ≤ j ∧ i = .int .i64 (m : Int) ∧ Hid (Lt w wx) ∧ Hid (Lt w2 wx)) (fun i _ => j - (intOf i).toNat)
      case atStart => exact ⟨0, Nat.zero_le _, rfl, Lib.hid (lt_step _ _ HL.out HW.out), Lib.hid (Below.refl _ _)⟩
      case round =>
        obtain ⟨m, hm, rfl, HL, HX⟩ := hrel
        by_cases hlt : m < j
        · obtain ⟨g1, o1, rfl, hg1, hk1⟩ := HI1.out.at_ m _ (HB1.out m hlt)
          obtain ⟨g2, o2, rfl, hg2, hk2⟩ := HJ1.out.at_ m _ (HB2.out m hlt)
          have hbd := HBD.out m
          have hbs := HBS.out m hlt
          rw [hbs] at hk2 hbd
          generalize (boundI (ts.map one1) (m : Int)).1 = b at *
          have k1 := (HX.out.cell (p := ⟨g1, o1 + m, none⟩) hg1).trans hk1
          have k2 := (HX.out.cell (p := ⟨g2, o2 + m, none⟩) hg2).trans hk2
          have HWM := Lib.hid (show wrap64 (b * k) = b * k ∧ IntKind.i64.wrap (b * k) = b * k from ⟨IntWalk.wrap64_in _ (by omega), by rw [IntKind.wrap_i64]; omega⟩)
          have t4 : (b * k != b * k) = false := by simp
          have hi0 : (0 : Int) ≤ (m : Int) := by omega
          have hi1 : (m : Int) < (j : Int) := by omega
          have HII := Lib.hid hlt
          clear hbd hbs hk1 hk2 hg1 hg2 hlt
          obtain ⟨hw1, hw1'⟩ := HWM.out
          go_upto_region 18 with (fail)
          go_quiet (fail)
          clear hw1 hw1'
          go_wp2
          go_roundw
          case rel => exact ⟨m + 1, by have := HII.out; omega, by go_num, Lib.hid (show Lt w _ from below_drewN HL.out nq), Lib.hid (show Lt w2 _ from below_drewN HX.out nq)⟩
          case measure => have := HII.out; simp [intOf]; omega
        · obtain rfl : m = j := by omega
          go_wp2
          go_ret
          exact ⟨rfl, HL.out⟩
end Go.Proofs.YtnhddnldebdmbaaDoor
