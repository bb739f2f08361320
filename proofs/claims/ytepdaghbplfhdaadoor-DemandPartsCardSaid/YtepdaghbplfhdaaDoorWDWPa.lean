/- DemandParts: the walk. -/
import Derived.Test.YtepdaghbplfhdaaDoorG5
import Derived.Test.YtepdaghbplfhdaaDoorG7
import Derived.StillTailTactics
namespace Go.Proofs.YtepdaghbplfhdaaDoor
open Go.RowKit
set_option linter.unusedVariables false
set_option linter.unusedSimpArgs false
/-- One of them, and this: a set that may be. -/
theorem two_ok {ts : List Ts} (h : St ts) {j k : Nat} {z y : Ts} (hz : ts[j]? = some z) (hy : ts[k]? = some y) (hne : j ≠ k) : (chkAll [z, y]).2 = 0 := by
  have hj := (List.getElem?_eq_some_iff.1 hz).1
  have hk := (List.getElem?_eq_some_iff.1 hy).1
  have h6 := h.n6
  have hp : z.p ≠ y.p := fun e => hne (h.d j k z y hz hy e)
  have hn : z.n ≠ y.n := fun e => by
    rw [(h.s j z hz).n, (h.s k y hy).n] at e
    exact hne (name_t_inj j (by omega) k (by omega) e)
  rw [chkAll, if_neg (by simp)]
  refine chkFrom_good _ [] (fun x hx => ?_) (fun i i' x x' hx hx' he => ?_)
  · simp only [List.mem_cons, List.not_mem_nil, or_false] at hx
    rcases hx with rfl | rfl
    · exact sf_check (h.s j _ hz) (by omega) (h.p j _ hz).1 (h.p j _ hz).2
    · exact sf_check (h.s k _ hy) (by omega) (h.p k _ hy).1 (h.p k _ hy).2
  · simp only [List.nil_append] at hx hx'
    match i, i', hx, hx' with
    | 0, 0, _, _ => rfl
    | 1, 1, _, _ => rfl
    | 0, 1, hx, hx' =>
      obtain rfl : z = x := by simpa using hx
      obtain rfl : y = x' := by simpa using hx'
      exact absurd he (by simp [hp, hn])
    | 1, 0, hx, hx' =>
      obtain rfl : y = x := by simpa using hx
      obtain rfl : z = x' := by simpa using hx'
      exact absurd he (by simp [Ne.symm hp, Ne.symm hn])
    | n + 2, _, hx, _ => simp at hx
    | _, n + 2, _, hx' => simp at hx'
theorem addH_self (x : Int) (y : Ts) : addH y.p x y = 0 := if_neg (by omega)
/-- What that one alone is ahead. -/
theorem two_hi {ts : List Ts} (h : St ts) {j k : Nat} {z y : Ts} (hz : ts[j]? = some z) (hy : ts[k]? = some y) (hne : j ≠ k) {x : Int} (h0 : 0 ≤ x) (h1 : x ≤ 1099511627776) :
    higherI [z, y] 1 x = if x = 0 then 0 else addH y.p x z := by
  have hc := two_ok h hz hy hne
  have e := higher_at (l := [z, y]) (k := 1) (y := y) hc rfl x
  rw [show ((1 : Nat) : Int) = 1 from rfl] at e
  rw [e]
  split
  · rename_i e; subst e; rfl
  · have hf := h.fits h0 h1
    have hm : ∀ q ∈ [z, y], q ∈ ts := fun q hq => by
      simp only [List.mem_cons, List.not_mem_nil, or_false] at hq
      rcases hq with rfl | rfl
      · exact List.mem_of_getElem? hz
      · exact List.mem_of_getElem? hy
    rw [hiU_fits (vs_of hc) (by omega) ⟨fun q hq => hf.j q (hm q hq), fun q hq => hf.b q (hm q hq), by simp, hf.B0⟩]
    simp [addH_self]
/-- The sum so far. -/
def sumS (p x : Int) (ts : List Ts) (j : Nat) : Int := if x = 0 then 0 else ((ts.take j).map (addH p x)).sum
theorem sumS_snoc {p x : Int} {ts : List Ts} {j : Nat} {z : Ts} (hz : ts[j]? = some z) : sumS p x ts (j + 1) = sumS p x ts j + if x = 0 then 0 else addH p x z := by
  obtain ⟨hk, e⟩ := List.getElem?_eq_some_iff.1 hz
  unfold sumS
  rw [List.take_succ_eq_append_getElem hk, List.map_append, List.sum_append, e]
  split <;> simp
theorem sumS_bd {ts : List Ts} (h : St ts) {x : Int} (h0 : 0 ≤ x) (h1 : x ≤ 1099511627776) (p : Int) (j : Nat) : 0 ≤ sumS p x ts j ∧ sumS p x ts j ≤ 30000000000000 := by
  have hb := sum_bd (l := ts.take j) (f := addH p x) (B := 5000000000000) fun q hq => ⟨addH_nonneg (h.vs.all q (List.mem_of_mem_take hq)) h0, by
    have := (h.fits h0 h1).b q (List.mem_of_mem_take hq)
    unfold addH
    split <;> omega⟩
  have h6 := h.n6
  have hl : (ts.take j).length ≤ 6 := by rw [List.length_take]; omega
  unfold sumS
  split <;> omega
theorem add_bd {ts : List Ts} (h : St ts) {x : Int} (h0 : 0 ≤ x) (h1 : x ≤ 1099511627776) (p : Int) {z : Ts} (hz : z ∈ ts) : 0 ≤ (if x = 0 then 0 else addH p x z) ∧ (if x = 0 then 0 else addH p x z) ≤ 5000000000000 := by
  have a := addH_nonneg (p := p) (h.vs.all z hz) h0
  have b := (h.fits h0 h1).b z hz
  have c : addH p x z ≤ 5000000000000 := by unfold addH; split <;> omega
  split <;> omega
theorem two_row (W : World) (z y : Ts) (hz : TsW z) (hy : TsW y) : Row (W.alloc (.cells #[.string z.n, .int .i64 z.c, .int .i64 z.t, .int .i64 z.d, .int .i64 z.j, .int .i64 z.q, .int .i64 z.p, .string y.n, .int .i64 y.c, .int .i64 y.t, .int .i64 y.d, .int .i64 y.j, .int .i64 y.q, .int .i64 y.p] 43)) (some ⟨W.heap.size, 0, none⟩) 2 [z, y] := by
  have hc := fun i => cell_of_row (W.alloc (.cells #[.string z.n, .int .i64 z.c, .int .i64 z.t, .int .i64 z.d, .int .i64 z.j, .int .i64 z.q, .int .i64 z.p, .string y.n, .int .i64 y.c, .int .i64 y.t, .int .i64 y.d, .int .i64 y.j, .int .i64 y.q, .int .i64 y.p] 43)) W.heap.size i _ _ _ (heap_alloc_new W _)
  refine ⟨by simp, by omega, ?_, fun i x hx => ?_⟩
  · intro x hx
    simp only [List.mem_cons, List.not_mem_nil, or_false] at hx
    rcases hx with rfl | rfl
    · exact hz
    · exact hy
  · refine ⟨W.heap.size, 0, rfl, ⟨fun j u hu => ?_⟩⟩
    match i, hx with
    | 0, hx =>
      obtain rfl : z = x := by simpa using hx
      rw [hc]
      match j, hu with
      | 0, hu | 1, hu | 2, hu | 3, hu | 4, hu | 5, hu | 6, hu => simpa [tsL] using hu
      | n + 7, hu => simp [tsL] at hu
    | 1, hx =>
      obtain rfl : y = x := by simpa using hx
      rw [hc]
      match j, hu with
      | 0, hu | 1, hu | 2, hu | 3, hu | 4, hu | 5, hu | 6, hu => simpa [tsL] using hu
      | n + 7, hu => simp [tsL] at hu
    | n + 2, hx => simp at hx
/-- The call in that region. -/
theorem two_call {ts : List Ts} {v : World} (h : St ts) {j k : Nat} {z y : Ts} (hz : ts[j]? = some z) (hy : ts[k]? = some y) (hne : j ≠ k) (wz : TsW z) (wy : TsW y) {x : Int} (h0 : 0 ≤ x) (h1 : x ≤ 1099511627776) (hT : ∀ W, Lt v W → Tab W) (W : World) (hW : Lt v W) :
    Calls Tryd.prog 18 #[.slice (some ⟨W.heap.size, 0, none⟩) 2 2, .int .i64 1, .int .u64 x] (W.alloc (.cells #[.string z.n, .int .i64 z.c, .int .i64 z.t, .int .i64 z.d, .int .i64 z.j, .int .i64 z.q, .int .i64 z.p, .string y.n, .int .i64 y.c, .int .i64 y.t, .int .i64 y.d, .int .i64 y.j, .int .i64 y.q, .int .i64 y.p] 43)).drew fun e w' => e = .returned (.int .u64 (if x = 0 then 0 else addH y.p x z)) ∧ Below (W.alloc (.cells #[.string z.n, .int .i64 z.c, .int .i64 z.t, .int .i64 z.d, .int .i64 z.j, .int .i64 z.q, .int .i64 z.p, .string y.n, .int .i64 y.c, .int .i64 y.t, .int .i64 y.d, .int .i64 y.j, .int .i64 y.q, .int .i64 y.p] 43)).drew.heap.size (W.alloc (.cells #[.string z.n, .int .i64 z.c, .int .i64 z.t, .int .i64 z.d, .int .i64 z.j, .int .i64 z.q, .int .i64 z.p, .string y.n, .int .i64 y.c, .int .i64 y.t, .int .i64 y.d, .int .i64 y.j, .int .i64 y.q, .int .i64 y.p] 43)).drew w' := by
  have g := higher_any (some ⟨W.heap.size, 0, none⟩) 2 [z, y] 1 x _ ((two_row W z y wz wy).later (below_drew _)) ⟨by decide, by decide⟩ ⟨h0, by omega⟩ (hT _ (lt_step _ _ (lt_step _ _ hW ((Below.refl _ _).alloc (Nat.le_refl _) _)) (below_drew _)))
  rw [two_hi h hz hy hne h0 h1] at g
  exact g
theorem two_step {v W w' : World} {o : Obj} (h : Lt v W) (hb : Below (W.alloc o).drew.heap.size (W.alloc o).drew w') : Lt v w' := lt_step _ _ (lt_step _ _ (lt_step _ _ h ((Below.refl _ _).alloc (Nat.le_refl _) _)) (below_drew _)) hb
set_option maxRecDepth 100000 in
set_option maxHeartbeats 8000000 in
theorem dpa_walk (A0 : Option Addr) (cap0 : Nat) (l0 : List Sp) (a1 a2 : Int) (w : World) (hT : Tab w) (h0 : SRow w A0 cap0 l0) (i1 : in64 a1) (i2 : U a2) :
    Calls Tryd.prog 8 #[.slice A0 l0.length cap0, .int .i64 a1, .int .u64 a2] w fun e w' => e = .returned (.bool true) ∧ Below w.heap.size w w' := by
  have KA := Lib.hid awake_any
  have KS := Lib.hid (fun W (h : Lt w W) => set_any 6 (by omega) (by omega) A0 cap0 l0 a1 W (h0.later h) i1)
  have HL : Hid (Lt w w) := Lib.hid (Below.refl _ _)
  have HTB := Lib.hid (fun W (h : Lt w W) => hT.below h)
  obtain ⟨x, hx, hxe⟩ := low40 a2
  generalize l0.length = m0 at *
  clear h0 hT
  go_enter Tryd.func8, Tryd.ntmps8
  go_upto_region 3 with (first
    | (go_at_call 9; (with_reducible refine (KA.out _ (HTB.out _ HL.out)).mono ?_); rintro e v ⟨rfl, h⟩; have HL := Lib.hid (lt_step _ _ HL.out h); clear h)
    | (go_at_call 10; (with_reducible refine (KS.out _ HL.out).mono ?_); rintro e v ⟨A, cap, ts, rfl, hR, hn1, hn6, hd, hsf, hp, h⟩; have HR := Lib.hid hR; have HST := Lib.hid (St.mk hn1 (by omega) hd hsf hp); have HL := Lib.hid (lt_step _ _ HL.out h); clear h hR hsf hd hp)
    | fail)
  have hle := HR.out.le
  have hmx := HR.out.mx
  obtain ⟨r0, r1⟩ := restI_bd a1 (ts.length : Int) (by omega) (by omega)
  have KR := Lib.hid (fun W => rest_any a1 (ts.length : Int) W i1 (by omega) (by omega))
  generalize restI a1 (ts.length : Int) = r at *
  obtain ⟨k, rfl⟩ : ∃ k : Nat, r = (k : Int) := ⟨r.toNat, by omega⟩
  obtain ⟨bk, ok, y, rfl, hy, hyw, hbl, hTk⟩ := HR.out.get (k := k) (by omega)
  have HY := Lib.hid hy
  have HYW := Lib.hid hyw
  have ux : U (x : Int) := ⟨by omega, by omega⟩
  have ik : in64 (k : Int) := ⟨by omega, by omega⟩
  have he : higherI ts k x = sumS y.p x ts ts.length := by rw [higher_at HST.out.chk hy, HST.out.hi (by omega) (by omega)]; unfold sumS; rw [List.take_of_length_le (Nat.le_refl _)]
  have KH := Lib.hid (fun W (h : Lt v W) => higher_any (some ⟨bk, ok, none⟩) cap ts k x W (HR.out.later h) ik ux (HTB.out _ (lt_step _ _ HL.out h)))
  rw [he] at KH
  have HTk := Lib.hid hTk
  generalize hN : ts.length = N at *
  have HN := Lib.hid hN
  have HV : Hid (Lt v v) := Lib.hid (Below.refl _ _)
  have HUX := Lib.hid ux
  clear hN hTk hy hyw hbl i1 i2 ik hn1 hn6 he ux
  go_upto_region 4 with (go_at_call 11; (with_reducible refine (KR.out _).mono ?_); rintro e v1 ⟨rfl, rfl⟩)
  go_upto_region 5 with (fail)
  clear hxe
  go_wp2
  go_loopw [11, 12] (fun a i wr => ∃ j : Nat, j ≤ N ∧ i = .int .i64 j ∧ a = .int .u64 (sumS y.p x ts j) ∧ Hid (Lt v wr)) (fun _ i _ => N - (intOf i).toNat)
  case atStart => exact ⟨0, Nat.zero_le _, rfl, by unfold sumS; split <;> rfl, Lib.hid HV.out⟩
  case round =>
    obtain ⟨j, hj, rfl, rfl, HB⟩ := hrel
    obtain ⟨s0, s1⟩ := sumS_bd HST.out (x := (x : Int)) (by omega) (by omega) y.p j
    by_cases hlt : j < N
    · obtain ⟨b', o, z, e0, hz, hzw, hbl, hT⟩ := HR.out.get (k := j) (by rw [HN.out]; exact hlt)
      obtain ⟨rfl, rfl⟩ : bk = b' ∧ ok = o := by simpa using e0
      have HS := Lib.hid (sumS_snoc (p := y.p) (x := (x : Int)) hz)
      have hi0 : (0 : Int) ≤ (j : Int) := by omega
      have hi1 : (j : Int) < ((N : Nat) : Int) := by omega
      have hi2 : (0 : Int) ≤ (k : Int) := by omega
      by_cases hjk : j = k
      · subst hjk
        obtain rfl : y = z := by have := HY.out.symm.trans hz; simpa using this
        have HS := Lib.hid (HS.out.trans (show _ = sumS y.p x ts j by rw [addH_self]; simp))
        clear hT hz hzw hbl e0
        go_wp2
        go_roundw
        case rel => exact ⟨j + 1, by omega, by go_num, by rw [HS.out], Lib.hid HB.out⟩
        case measure => simp [intOf]; omega
      · have u1 : decide ((j : Int) = (k : Int)) = false := decide_eq_false (by omega)
        have u2 : ((j : Int) == (k : Int)) = false := by simp; omega
        have u3 : ((j : Int) != (k : Int)) = true := by simp; omega
        obtain ⟨t0, t1⟩ := add_bd HST.out (x := (x : Int)) (by omega) (by omega) y.p (List.mem_of_getElem? hz)
        have K3 := two_call HST.out hz HY.out hjk hzw HYW.out (x := (x : Int)) (by omega) (by omega) (fun W (h : Lt v W) => HTB.out _ (lt_step _ _ HL.out h))
        have hTr := hT.later HB.out
        have hTy := HTk.out.later HB.out
        have c0 := hTr.c0
        have c1 := hTr.c1
        have c2 := hTr.c2
        have c3 := hTr.c3
        have c4 := hTr.c4
        have c5 := hTr.c5
        have c6 := hTr.c6
        have d0 := hTy.c0
        have d1 := hTy.c1
        have d2 := hTy.c2
        have d3 := hTy.c3
        have d4 := hTy.c4
        have d5 := hTy.c5
        have d6 := hTy.c6
        generalize sumS y.p x ts j = s at *
        generalize (if (x : Int) = 0 then 0 else addH y.p x z) = q at *
        have K3 := Lib.hid K3
        have HBD := Lib.hid (lt_step _ _ HB.out (below_drew wr))
        clear hT hTr hTy hz hzw hbl e0 hjk
        go_upto_region 10 with (fail)
        go_region_law (first
          | (go_simp; go_at_call 18; (with_reducible refine (K3.out _ HB.out).mono ?_); rintro e wn ⟨rfl, h⟩; have HB := Lib.hid (two_step HB.out h); clear h)
          | fail)
        all_goals
          go_wp2
          go_roundw
          case rel => exact ⟨j + 1, by omega, by go_num, by rw [HS.out], Lib.hid HB.out⟩
          case measure => simp [intOf]; omega
    · obtain rfl : j = N := by omega
      generalize sumS y.p x ts j = s at *
      go_upto_region 11 with (fail)
      go_wp2_with (go_at_call 18; (with_reducible refine (KH.out _ HB.out).mono ?_); rintro e wn ⟨rfl, h⟩; have HB := Lib.hid (lt_step _ _ HB.out h); clear h)
      go_ret
      exact ⟨rfl, Below.trans HL.out (Below.mono HB.out (Below.size HL.out))⟩
end Go.Proofs.YtepdaghbplfhdaaDoor
