/- Texts about the program, one after the other: RSml, RLal, DArr, Door. -/
import Derived.Test.YtnhddnldebdmbaaDoorG10
import Derived.Test.YtnhddnldebdmbaaDoorG5
import Derived.Test.YtnhddnldebdmbaaDoorG7
import Derived.Test.YtnhddnldebdmbaaDoorG3
import Derived.Test.YtnhddnldebdmbaaDoorG6
import Derived.LaidMore
import Derived.Lib.LaidTab
import Derived.Stop.Joined
/- Tasks whose numbers are below 40. -/
namespace Go.Proofs.YtnhddnldebdmbaaDoor
open Go.RowKit
set_option linter.unusedVariables false
set_option linter.unusedSimpArgs false
def smT (x : Ts) : Ts := ⟨x.n, x.c.tmod 40, x.t.tmod 40, x.d.tmod 40, x.j.tmod 40, x.q.tmod 40, x.p⟩
theorem tmod40 (a : Int) : -39 ≤ a.tmod 40 ∧ a.tmod 40 ≤ 39 := by
  have h1 := Int.tmod_lt_of_pos a (show (0 : Int) < 40 by decide)
  have h2 := Int.tmod_lt_of_pos (-a) (show (0 : Int) < 40 by decide)
  rw [Int.neg_tmod] at h2
  omega
theorem smT_w {x : Ts} (h : TsW x) : TsW (smT x) := by
  have a1 := tmod40 x.c; have a2 := tmod40 x.t; have a3 := tmod40 x.d; have a4 := tmod40 x.j; have a5 := tmod40 x.q
  exact ⟨h.n, (show in64 (x.c.tmod 40) from ⟨by omega, by omega⟩), (show in64 (x.t.tmod 40) from ⟨by omega, by omega⟩), (show in64 (x.d.tmod 40) from ⟨by omega, by omega⟩), (show in64 (x.j.tmod 40) from ⟨by omega, by omega⟩), (show in64 (x.q.tmod 40) from ⟨by omega, by omega⟩), h.p⟩
theorem sm_few (l : List Ts) : Few20 (l.map smT) := fun x hx => by
  obtain ⟨z, _, rfl⟩ := List.mem_map.1 hx
  have a3 := tmod40 z.d; have a4 := tmod40 z.j
  show z.d.tmod 40 ≤ 1000 ∧ -1000 ≤ z.j.tmod 40
  omega
theorem sm_step {l : List Ts} {i : Nat} {x : Ts} (hx : l[i]? = some x) : (l.take (i + 1)).map smT = (l.take i).map smT ++ [smT x] := by
  obtain ⟨hk, e⟩ := List.getElem?_eq_some_iff.1 hx
  rw [List.take_succ_eq_append_getElem hk, List.map_append, e]
  rfl
/-- What small tells. -/
def SmP (l : List Ts) (w : World) (e : Ending) (w' : World) : Prop := ∃ A cap, e = .returned (.slice A (l.map smT).length cap) ∧ Row w' A cap (l.map smT) ∧ Below w.heap.size w w'
set_option maxRecDepth 100000 in
set_option maxHeartbeats 8000000 in
theorem small_any (A : Option Addr) (cap : Nat) (l : List Ts) (w : World) (hR : Row w A cap l) (h8 : l.length ≤ 8) :
    Calls Tryd.prog 12 #[.slice A l.length cap] w (SmP l w) := by
  obtain ⟨i0, hi, hz0, hz1, hz2⟩ := info_parts infoTs
  have hle := hR.le
  have hmx := hR.mx
  have ROW := Lib.hid hR
  clear hR
  generalize hN : l.length = N at *
  have HN := Lib.hid hN
  clear hN
  go_enter Tryd.func12, Tryd.ntmps12
  go_wp2
  go_loopw [3, 4] (fun vv i wr => ∃ j : Nat, j ≤ N ∧ i = .int .i64 j ∧ Hid (SetIn w.heap.size wr vv j ((l.take j).map smT)) ∧ Hid (Lt w wr)) (fun _ i _ => N - (intOf i).toNat)
  case atStart => exact ⟨0, Nat.zero_le _, rfl, Lib.hid (SetIn.nil _ _), Lib.hid (Below.refl _ _)⟩
  case round =>
    obtain ⟨j, hj, rfl, HI, HL⟩ := hrel
    obtain ⟨A2, cap2, hv2, hl2, hm2⟩ := own_len HI.out.row
    subst hv2
    by_cases hlt : j < N
    · obtain ⟨b', o, x, rfl, hx, hxw, hbl, hT⟩ := ROW.out.get (k := j) (by rw [HN.out]; exact hlt)
      have hTr := hT.later HL.out
      have c0 := hTr.c0
      have c1 := hTr.c1
      have c2 := hTr.c2
      have c3 := hTr.c3
      have c4 := hTr.c4
      have c5 := hTr.c5
      have c6 := hTr.c6
      have hi0 : (0 : Int) ≤ (j : Int) := by omega
      have hi1 : (j : Int) < ((N : Nat) : Int) := by omega
      have HST := Lib.hid (sm_step hx)
      have HXW := Lib.hid (smT_w hxw)
      obtain ⟨nm, xc, xt, xd, xj, xq, xp⟩ := x
      simp only at *
      have H7 := seven_new (wr.alloc (.cells #[.string nm, .int .i64 xc, .int .i64 xt, .int .i64 xd, .int .i64 xj, .int .i64 xq, .int .i64 xp] 35)) (smT ⟨nm, xc, xt, xd, xj, xq, xp⟩)
      rw [World.size_alloc] at H7
      have H7 := Lib.hid H7
      clear hT hTr hx hxw hbl
      go_upto_region 6 with (fail)
      go_wp2_with (at_builtin; refine wpList_append_own _ rfl _ _ 23 rfl w.heap.size 35 i0 _ 7 64 Tryd.underlying23 hi hz0 hz1 hz2 rfl (by decide) _ _ _ rfl ((HI.out.row.alloc _).alloc _) ⟨wr.heap.size + 1, 0, none⟩ 1 1 (tsL (smT ⟨nm, xc, xt, xd, xj, xq, xp⟩)) rfl rfl H7.out (tsL_one _) (by unfold maxLen; omega) (by omega) (by have := Below.size HL.out; simp; omega) ?_; intro v' w4 hown' hgrow hnil')
      go_roundw
      case rel =>
        have hb0 := Below.size HL.out
        exact ⟨j + 1, by omega, by go_num, Lib.hid (by rw [HST.out]; exact HI.out.snoc HXW.out hown'), Lib.hid (((((Below.refl w.heap.size w).trans HL.out).alloc hb0 _).alloc (by simp; omega) _).grown hgrow (by simp; omega) (fun q hq => (HI.out.row.lt q hq).1))⟩
      case measure => simp [intOf]; omega
    · obtain rfl : j = N := by omega
      have hfull : l.take j = l := List.take_of_length_le (by rw [HN.out]; exact Nat.le_refl _)
      rw [hfull] at HI
      obtain ⟨A3, cap3, hv3, hF⟩ := HI.out.rowR
      have HF := Lib.hid hF
      have HV := Lib.hid hv3
      clear hF hv3 hfull
      go_wp2
      go_ret
      exact ⟨A3, cap3, by rw [← HV.out]; rfl, HF.out, HL.out⟩
end Go.Proofs.YtnhddnldebdmbaaDoor
/- What RtaAll asks of one set. -/
namespace Go.Proofs.YtnhddnldebdmbaaDoor
open Go.RowKit
set_option linter.unusedVariables false
set_option linter.unusedSimpArgs false
/-- Who has no bound, by places. -/
def lateB (l : List Ts) (k : Nat) : Bool := decide ((boundI l (k : Int)).2 ≠ 0)
def lateC (l : List Ts) (n : Nat) : Nat := ((List.range n).filter (lateB l)).length
theorem lateC_succ (l : List Ts) (n : Nat) : lateC l (n + 1) = lateC l n + if lateB l n then 1 else 0 := by
  unfold lateC
  rw [List.range_succ, List.filter_append, List.length_append]
  cases h : lateB l n <;> simp [h]
theorem lateC_le (l : List Ts) : ∀ n, lateC l n ≤ n
  | 0 => Nat.le_refl _
  | n + 1 => by
    have := lateC_le l n
    rw [lateC_succ]
    split <;> omega
theorem late_at (l : List Ts) (P : Nat → Bool) : ∀ (n i : Nat), i < n → P i = true → ((List.range n).filter P)[((List.range i).filter P).length]? = some i
  | 0, i, h, _ => by omega
  | n + 1, i, h, hp => by
    rw [List.range_succ, List.filter_append]
    rcases Nat.lt_or_ge i n with h1 | h1
    · have := late_at l P n i h1 hp
      have hl := (List.getElem?_eq_some_iff.1 this).1
      rw [List.getElem?_append_left hl]
      exact this
    · obtain rfl : i = n := by omega
      rw [List.getElem?_append_right (Nat.le_refl _), Nat.sub_self, List.filter_cons, if_pos hp]
      rfl
theorem lateL_is {l : List Ts} (h : (chkAll l).2 = 0) : lateL l = ((List.range l.length).filter (lateB l)).map (fun k : Nat => (k : Int)) := by unfold lateL; rw [if_pos h]; rfl
theorem lateL_len {l : List Ts} (h : (chkAll l).2 = 0) : (lateL l).length = lateC l l.length := by rw [lateL_is h, List.length_map]; rfl
theorem lateL_at {l : List Ts} (h : (chkAll l).2 = 0) {i : Nat} (hi : i < l.length) (hp : lateB l i = true) : (lateL l)[lateC l i]? = some (i : Int) := by
  rw [lateL_is h, List.getElem?_map, show ((List.range l.length).filter (lateB l))[lateC l i]? = some i from late_at l _ _ _ hi hp]
  rfl
theorem allE_is {l : List Ts} (h : (chkAll l).2 = 0) : allE l = if lateC l l.length = 0 then 0 else 16 := by
  unfold allE
  rw [if_pos h, ← lateL_len h]
  cases lateL l <;> simp
theorem lateC_lt {l : List Ts} : ∀ (n i : Nat), i < n → lateB l i = true → lateC l i < lateC l n
  | 0, i, h, _ => by omega
  | n + 1, i, h, hp => by
    rw [lateC_succ]
    rcases Nat.lt_or_ge i n with h1 | h1
    · have := lateC_lt n i h1 hp
      omega
    · obtain rfl : i = n := by omega
      rw [hp]
      simp
set_option maxRecDepth 100000 in
set_option maxHeartbeats 8000000 in
theorem lall_any (A : Option Addr) (cap : Nat) (l : List Ts) (w : World) (hR : Row w A cap l) (hT : Tab w) (h64 : l.length ≤ 1000) :
    Calls Tryd.prog 13 #[.slice A l.length cap] w fun e w' => e = .returned (.bool true) ∧ Below w.heap.size w w' := by
  have KA := Lib.hid (rta_all A cap l w hR hT)
  have KC := Lib.hid (fun W (h : Lt w W) => rcheckAll_any A cap l W (hR.later h))
  have KT := Lib.hid (fun W (h : Lt w W) => rta_tests A cap l W (hR.later h) (hT.below h))
  have hmx := Nat.le_trans hR.le hR.mx
  have hgf := got_field
  by_cases hc : (chkAll l).2 = 0
  · have hlb := bndsL_len hc
    have hll := lateL_len hc
    have hE := allE_is hc
    unfold AllP at KA
    rw [hE] at KA KT
    have g0 : ((chkAll l).2 != 0) = false := by simpa using hc
    have HBA := Lib.hid (fun k hk => bndsL_at (k := k) hc hk)
    have HLA := Lib.hid (fun i h1 h2 => lateL_at (i := i) hc h1 h2)
    have HLT := Lib.hid (fun i h1 h2 => lateC_lt (l := l) l.length i h1 h2)
    have KRB := Lib.hid (fun W (h : Lt w W) (i : Int) (hi : in64 i) => rbound_any A cap l i W (hR.later h) hi)
    rw [hlb, hll] at KA
    generalize (chkAll l).1 = ca at *
    generalize (chkAll l).2 = ce at *
    obtain ⟨nl, hnl⟩ : ∃ nl, lateC l l.length = nl := ⟨_, rfl⟩
    rw [hnl] at KA KT HLT hE
    obtain ⟨ev, hev⟩ : ∃ ev, (if nl = 0 then (0 : Int) else 16) = ev := ⟨_, rfl⟩
    have HEV := Lib.hid hev
    rw [hev] at KA KT
    clear hev
    have hnle := lateC_le l l.length
    rw [hnl] at hnle
    generalize hN : l.length = N at *
    have HNL := Lib.hid hnl
    have HBL := Lib.hid hlb
    have HLL := Lib.hid (hll.trans hnl)
    have t1 : ((N : Int) != (N : Int)) = false := by simp
    have HNN := Lib.hid hN
    have hN1 : N ≤ 1000 := by omega
    clear hc hlb hll hE hR hT hnl hN
    go_enter Tryd.func13, Tryd.ntmps13
    go_wp2_with (first
      | (go_at_call 16; (with_reducible refine KA.out.mono ?_); rintro e w1 ⟨A1, c1, A2, c2, rfl, hi1, hi2, h⟩; have HI1 := Lib.hid hi1; have HI2 := Lib.hid hi2; have HW := Lib.hid (show Lt w1 w1 from Below.refl _ _); have HL := Lib.hid (show Lt w w1 from h); clear h hi1 hi2)
      | (go_at_call 24; (with_reducible refine (KC.out _ HL.out).mono ?_); rintro e w2 ⟨rfl, h⟩; have HL := Lib.hid (lt_step _ _ HL.out h); have HW := Lib.hid (lt_step _ _ HW.out h); clear h)
      | fail)
    have hc1 := HI1.out.le
    have hc1m := HI1.out.mx
    have hc2 := HI2.out.le
    have hc2m := HI2.out.mx
    rw [HBL.out] at hc1
    rw [HLL.out] at hc2
    go_loopw [6, 7] (fun s6 s7 wr => ∃ i : Nat, i ≤ N ∧ s7 = .int .i64 (i : Int) ∧ s6 = .int .i64 ((lateC l i : Nat) : Int) ∧ Hid (Lt w wr) ∧ Hid (Lt w1 wr)) (fun _ s7 _ => N - (intOf s7).toNat)
    case atStart => exact ⟨0, Nat.zero_le _, rfl, rfl, HL, HW⟩
    case round =>
      obtain ⟨i, hi, rfl, rfl, HL, HW⟩ := hrel
      have hli := lateC_le l i
      by_cases hlt : i < N
      · have d1 : decide ((i : Int) < (N : Int)) = true := decide_eq_true (by omega)
        obtain ⟨g, o, hA1, hg, hk1⟩ := HI1.out.at_ i _ (HBA.out i hlt)
        subst hA1
        have hsu := lateC_succ l i
        have HLAi := HLA.out i hlt
        have HLTi := HLT.out i hlt
        have hbb := boundI_bd l (i : Int)
        have KRI := Lib.hid (fun W (h : Lt w W) => KRB.out W h (i : Int) ⟨by omega, by omega⟩)
        have hlbd : lateB l i = decide ((boundI l (i : Int)).2 ≠ 0) := rfl
        obtain ⟨⟨br, be⟩, hbr⟩ : ∃ p, boundI l (i : Int) = p := ⟨_, rfl⟩
        rw [hbr] at KRI hk1 hbb hlbd
        simp only at KRI hk1 hbb hlbd
        obtain ⟨q, hq⟩ : ∃ q, lateC l i = q := ⟨_, rfl⟩
        rw [hq] at hsu HLAi HLTi hli ⊢
        have HSU := Lib.hid hsu
        have i0 : (0 : Int) ≤ (i : Int) := by omega
        have i1 : (i : Int) < (N : Int) := by omega
        have HWI := Lib.hid (w64 (z := (i : Int) + 1) (by omega) (by omega))
        have HWQ := Lib.hid (w64 (z := (q : Int) + 1) (by omega) (by omega))
        have n0 : (br != br) = false := by simp
        have HG := Lib.hid (Nat.lt_of_lt_of_le hg (Below.size HW.out))
        have HK1 := Lib.hid (fun W (h : Below w1.heap.size w1 W) => (h.cell (p := ⟨g, o + i, none⟩) hg).trans hk1)
        go_upto_region 11 with (go_at_call 21; (with_reducible refine (KRI.out _ HL.out).mono ?_); rintro e w5 ⟨rfl, h⟩; have HL5 := Lib.hid (lt_step _ _ HL.out h); have HW5 := Lib.hid (lt_step _ _ HW.out h); clear h)
        obtain ⟨V, hV, HG4, HLV, HWV⟩ : ∃ V, w5.alloc (.cells #[.int .i64 br, .int .i64 be] 50) = V ∧ Hid (G4 V w5.heap.size br be) ∧ Hid (Lt w V) ∧ Hid (Lt w1 V) :=
          ⟨_, rfl, Lib.hid (G4.new _ _ _), Lib.hid (HL5.out.alloc (Below.size HL5.out) _), Lib.hid (HW5.out.alloc (Below.size HW5.out) _)⟩
        rw [hV]
        clear hV
        obtain ⟨bg, hbg⟩ : ∃ bg, w5.heap.size = bg := ⟨_, rfl⟩
        rw [hbg] at HG4 ⊢
        clear hbg
        have k0 := HG4.out.c0
        have k1 := HG4.out.c1
        have k2 := HK1.out V HWV.out
        cases hlB : lateB l i
        · rw [hlB] at hlbd hsu
          have hbe : be = 0 := by have := hlbd; simp at this; exact this
          have t2 : (be != 0) = false := by rw [hbe]; rfl
          have HS2 : Hid (lateC l (i + 1) = q) := Lib.hid (by simpa using hsu)
          have HII := Lib.hid (And.intro hi hlt)
          clear hli hbb hlbd hsu HLAi HLTi hk1 hg hlt hi hbe hlB
          go_quiet (fail)
          obtain ⟨hw1, hw1'⟩ := HWI.out
          go_wp2
          clear hw1 hw1'
          go_roundw
          case rel => exact ⟨i + 1, by have := HII.out; omega, by go_num, by rw [HS2.out], Lib.hid (show Lt w _ from below_drewN HLV.out nq), Lib.hid (show Lt w1 _ from below_drewN HWV.out nq)⟩
          case measure => have := HII.out; simp [intOf]; omega
        · rw [hlB] at hlbd hsu
          have hbe : be ≠ 0 := by have := hlbd; simp at this; exact this
          have t2 : (be != 0) = true := by simpa using hbe
          have HS2 : Hid (lateC l (i + 1) = q + 1) := Lib.hid (by simpa using hsu)
          have HII := Lib.hid (And.intro hi hlt)
          have hql := HLTi hlB
          obtain ⟨g2, o2, hA2, hg2, hk2⟩ := HI2.out.at_ q _ (HLAi hlB)
          subst hA2
          have HK2 := Lib.hid (fun W (h : Below w1.heap.size w1 W) => (h.cell (p := ⟨g2, o2 + q, none⟩) hg2).trans hk2)
          have q0 : (0 : Int) ≤ (q : Int) := by omega
          have q1 : (q : Int) < (nl : Int) := by omega
          have t3 : decide ((q : Int) ≥ (nl : Int)) = false := decide_eq_false (by omega)
          have t3' : decide ((nl : Int) ≤ (q : Int)) = false := decide_eq_false (by omega)
          have t4 : ((i : Int) != (i : Int)) = false := by simp
          clear hli hbb hlbd hsu HLAi HLTi hk1 hg hlt hi hbe hlB hql hk2 hg2
          go_quiet (fail)
          have k5 := HK2.out (V.drewN nq) (below_drewN HWV.out nq)
          obtain ⟨hw1, hw1'⟩ := HWI.out
          obtain ⟨hw2, hw2'⟩ := HWQ.out
          go_wp2
          clear hw1 hw1' hw2 hw2'
          go_roundw
          case rel => exact ⟨i + 1, by have := HII.out; omega, by go_num, by rw [HS2.out]; go_num, Lib.hid (show Lt w _ from below_drewN HLV.out nq), Lib.hid (show Lt w1 _ from below_drewN HWV.out nq)⟩
          case measure => have := HII.out; simp [intOf]; omega
      · obtain rfl : i = N := by omega
        have d1 : decide ((i : Int) < (i : Int)) = false := decide_eq_false (by omega)
        rw [HNL.out] at hli ⊢
        have t5 : ((nl : Int) == (nl : Int)) = true := by simp
        by_cases hz : nl = 0
        · have e0 : ev = 0 := by rw [← HEV.out, if_pos hz]
          have z0 : ((nl : Int) == 0) = true := by rw [hz]; rfl
          subst e0
          clear hz hli hlt
          go_wp2_with (first
            | (go_at_call 25; (with_reducible refine (KT.out _ HL.out).mono ?_); rintro e w3 ⟨rfl, h⟩; have HL := Lib.hid (lt_step _ _ HL.out h); clear h)
            | fail)
          go_ret
          exact ⟨rfl, HL.out⟩
        · have e0 : ev = 16 := by rw [← HEV.out, if_neg hz]
          have z0 : ((nl : Int) == 0) = false := by simpa using hz
          subst e0
          clear hz hli hlt
          go_wp2_with (first
            | (go_at_call 25; (with_reducible refine (KT.out _ HL.out).mono ?_); rintro e w3 ⟨rfl, h⟩; have HL := Lib.hid (lt_step _ _ HL.out h); clear h)
            | fail)
          go_ret
          exact ⟨rfl, HL.out⟩
  · have e1 : bndsL l = [] := by unfold bndsL; rw [if_neg hc]
    have e2 : lateL l = [] := by unfold lateL; rw [if_neg hc]
    have e3 : allE l = 1 := by unfold allE; rw [if_neg hc]
    unfold AllP at KA
    rw [e1, e2, e3] at KA
    rw [e3] at KT
    simp only [List.length_nil] at KA
    have t0 : decide ((1 : Int) = 0) = false := by decide
    rw [t0] at KT
    have g0 : ((chkAll l).2 != 0) = true := by simpa using hc
    generalize (chkAll l).1 = ca at *
    generalize (chkAll l).2 = ce at *
    generalize l.length = N at *
    clear hc e1 e2 e3 hR hT
    go_enter Tryd.func13, Tryd.ntmps13
    go_wp2_with (first
      | (go_at_call 16; (with_reducible refine KA.out.mono ?_); rintro e w1 ⟨A1, c1, A2, c2, rfl, _, _, h⟩; have HL := Lib.hid (show Lt w w1 from h); clear h)
      | (go_at_call 24; (with_reducible refine (KC.out _ HL.out).mono ?_); rintro e w2 ⟨rfl, h⟩; have HL := Lib.hid (lt_step _ _ HL.out h); clear h)
      | (go_at_call 25; (with_reducible refine (KT.out _ HL.out).mono ?_); rintro e w3 ⟨rfl, h⟩; have HL := Lib.hid (lt_step _ _ HL.out h); clear h)
      | fail)
    go_ret
    exact ⟨rfl, HL.out⟩
end Go.Proofs.YtnhddnldebdmbaaDoor
/- An array of two numbers in a box. -/
namespace Go.Proofs.YtnhddnldebdmbaaDoor
open Go.RowKit
theorem cells_below {W W' : World} (h : Below W.heap.size W W') (a : Addr) (v : Value) (hc : W.cell? a = some v) (hb : a.block < W.heap.size) : W'.cell? a = some v := by
  rw [h.cell hb]
  exact hc
abbrev Q2 (N : Nat) (a b : Int) (W : World) : Prop := N < W.heap.size ∧ W.cell? ⟨N, 0, none⟩ = some (.int .i64 a) ∧ W.cell? ⟨N, 1, none⟩ = some (.int .i64 b)
theorem Q2.step {N : Nat} {a b : Int} {W W' : World} (h : Q2 N a b W) (hb : Below W.heap.size W W') : Q2 N a b W' := ⟨Nat.lt_of_lt_of_le h.1 (Below.size hb), cells_below hb _ _ h.2.1 h.1, cells_below hb _ _ h.2.2 h.1⟩
theorem Q2.new (w : World) (t : TypeId) (v0 v1 : Int) : Q2 w.heap.size v0 v1 (w.alloc (.cells #[.int .i64 v0, .int .i64 v1] t)) := by
  have hc := fun i => cell_of_row (w.alloc (.cells #[.int .i64 v0, .int .i64 v1] t)) w.heap.size i _ _ _ (heap_alloc_new w _)
  exact ⟨by simp, hc 0, hc 1⟩
abbrev Q3 (N : Nat) (a b c : Int) (W : World) : Prop := N < W.heap.size ∧ W.cell? ⟨N, 0, none⟩ = some (.int .i64 a) ∧ W.cell? ⟨N, 1, none⟩ = some (.int .i64 b) ∧ W.cell? ⟨N, 2, none⟩ = some (.int .i64 c)
theorem Q3.step {N : Nat} {a b c : Int} {W W' : World} (h : Q3 N a b c W) (hb : Below W.heap.size W W') : Q3 N a b c W' := ⟨Nat.lt_of_lt_of_le h.1 (Below.size hb), cells_below hb _ _ h.2.1 h.1, cells_below hb _ _ h.2.2.1 h.1, cells_below hb _ _ h.2.2.2 h.1⟩
theorem Q3.new (w : World) (t : TypeId) (v0 v1 v2 : Int) : Q3 w.heap.size v0 v1 v2 (w.alloc (.cells #[.int .i64 v0, .int .i64 v1, .int .i64 v2] t)) := by
  have hc := fun i => cell_of_row (w.alloc (.cells #[.int .i64 v0, .int .i64 v1, .int .i64 v2] t)) w.heap.size i _ _ _ (heap_alloc_new w _)
  exact ⟨by simp, hc 0, hc 1, hc 2⟩
theorem lt_alloc (w : World) (o : Obj) : Lt w (w.alloc o) := (Below.refl _ _).alloc (Nat.le_refl _) _
end Go.Proofs.YtnhddnldebdmbaaDoor
/- What the rows' condition on math/bits' table gives the walks, and the heap that meets it. -/
namespace Go.Proofs.YtnhddnldebdmbaaDoor
open Go.ChangeShapes Go.WideShapes Go.ChangeAt Go.RowKit
set_option linter.unusedVariables false

theorem own : ownKnob Tryd.prog.godebug = none := by kernel_rfl
theorem laidOut : laidOutB Tryd.prog = true := by kernel_rfl
/-- The condition's list, as the rows bear it. -/
abbrev LL : List (String × DataW Unit) := Rows.rtaTellsRow.laid
theorem door_met (os : Os) (args : Array Value) : laidMetH Tryd.prog LL ((World.doorLaid Tryd.prog 4000 os).forCall (fun _ _ => 0) ⟨#[], args, []⟩).memory :=
  laidMetH_of_parts3 (fuel := 8) (laidMet_of_run' 8 (by kernel_rfl) (by kernel_rfl)) (by kernel_rfl) (by kernel_rfl)
theorem tab_of_laid {W : World} (h : laidMetH Tryd.prog LL W) : Tab W := by
  rw [MakeChecks.laidMetH_plain _ _ _ (by kernel_rfl)] at h
  have ht := Lib.tabIs_of_head (P := Tryd.prog) (W := W) (k := .u8) (zs := deB.map fun n : Nat => (n : Int)) (rest := []) (g := 0) (t := 108) (e := 5) (n := 64) (by kernel_rfl) (by kernel_rfl) Tryd.underlying108 Tryd.underlying5 (by kernel_rfl) (by kernel_rfl) h
  intro i v hv
  have := World.var?_cell (g := 0) (by kernel_rfl) ht i
  rw [this]
  simp [hv]
end Go.Proofs.YtnhddnldebdmbaaDoor
