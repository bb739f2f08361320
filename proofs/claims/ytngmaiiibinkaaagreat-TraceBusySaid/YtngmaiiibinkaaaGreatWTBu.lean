/- TraceBusy: its walk. -/
import Derived.Test.YtngmaiiibinkaaaGreatG15
import Derived.Deep.CutRange
import Derived.Deep.CutBlock
namespace Go.Proofs.YtngmaiiibinkaaaGreat
open Go.RowKit Go.Shelf
set_option linter.unusedVariables false
set_option linter.unusedSimpArgs false
abbrev TBo : TypeId := 4
abbrev TJs : TypeId := 27
/-- Is a release at that tick among the first? -/
def bgS (js : List Fv) (a : Int) (i : Nat) : Bool := (List.range i).any fun j => decide ((jb js j).r = a)
theorem bgS_succ (js : List Fv) (a : Int) (i : Nat) : bgS js a (i + 1) = (bgS js a i || decide ((jb js i).r = a)) := by
  simp [bgS, List.range_succ]
theorem bgS_all {js : List Fv} {a : Int} (h : ∃ i, i < js.length ∧ (jb js i).r = a) : bgS js a js.length = true := by
  obtain ⟨i, h1, h2⟩ := h
  exact List.any_eq_true.2 ⟨i, List.mem_range.2 h1, by simpa using h2⟩
def lastP (pre : List (Int × Int)) : Int := (pre.getLast?.map (·.2)).getD (-1)
def sumP (pre : List (Int × Int)) : Int := (pre.map fun p => p.2 - p.1).sum
theorem rows_at {js : List Fv} : ∀ (pre : List (Int × Int)) (a : Int) (x : Int × Int) (r : List (Int × Int)), rowsOk js a (pre ++ x :: r) → (pre.getLast?.map (·.2)).getD a < x.1 ∧ x.1 < x.2 ∧ ∃ i, i < js.length ∧ (jb js i).r = x.1
  | [], a, x, r, h => ⟨h.1, h.2.1, h.2.2.1⟩
  | p :: pre, a, x, r, h => by
    have := rows_at pre p.2 x r h.2.2.2
    have e : ((p :: pre).getLast?.map (·.2)).getD a = (pre.getLast?.map (·.2)).getD p.2 := by
      rcases List.eq_nil_or_concat pre with h | ⟨m, z, h⟩
      · subst h; rfl
      · rw [List.concat_eq_append] at h; subst h
        rw [← List.cons_append, List.getLast?_concat, List.getLast?_concat]
        rfl
    rw [e]
    exact this
theorem sum_take_k (js : List Fv) {q : Nat} (h : q < js.length) : ((js.take (q + 1)).map (·.k)).sum = ((js.take q).map (·.k)).sum + (jb js q).k := by
  have : js[q]? = some js[q] := List.getElem?_eq_getElem h
  rw [List.take_add_one, this, jb_get this, List.map_append, List.sum_append]
  simp
theorem rows_pos {js : List Fv} : ∀ (pre : List (Int × Int)) (a : Int) (l : List (Int × Int)), rowsOk js a (pre ++ l) → ∀ p ∈ pre, p.1 < p.2
  | [], _, _, _, p, hp => by cases hp
  | y :: pre, a, l, h, p, hp => by
    rcases List.mem_cons.1 hp with rfl | hp
    · exact h.2.1
    · exact rows_pos pre y.2 l h.2.2.2 p hp
theorem sumP_bd : ∀ (pre : List (Int × Int)), pre.length ≤ 40 → (∀ p ∈ pre, -1000 ≤ p.1 ∧ p.2 ≤ 1000) → (∀ p ∈ pre, p.1 < p.2) → -100000 ≤ sumP pre ∧ sumP pre ≤ 100000 := by
  have key : ∀ (pre : List (Int × Int)), (∀ p ∈ pre, -1000 ≤ p.1 ∧ p.2 ≤ 1000) → (∀ p ∈ pre, p.1 < p.2) → 0 ≤ sumP pre ∧ sumP pre ≤ 2000 * pre.length := by
    intro pre
    induction pre with
    | nil => intro _ _; simp [sumP]
    | cons x l ih =>
      intro h1 h2
      have := ih (fun p hp => h1 p (List.mem_cons_of_mem _ hp)) (fun p hp => h2 p (List.mem_cons_of_mem _ hp))
      have a := h1 x (by simp)
      have b := h2 x (by simp)
      have e : sumP (x :: l) = (x.2 - x.1) + sumP l := by simp [sumP]
      rw [e, List.length_cons]
      omega
  intro pre hl h1 h2
  have := key pre h1 h2
  omega
/-- What is known of the rows. -/
structure BuF (js : List Fv) (L : List (Int × Int)) : Prop where
  ok : rowsOk js (-1) L
  sm : sumP L = (js.map (·.k)).sum
  few : L.length ≤ 40
  bd : ∀ x ∈ L, -1000 ≤ x.1 ∧ x.2 ≤ 1000
theorem runQ_mem : ∀ (l : List Sq) (e : Int), ((runQ e l).1 = e ∨ ∃ x ∈ l, (runQ e l).1 = x.t) ∧ ∀ x ∈ (runQ e l).2, x ∈ l
  | [], e => ⟨.inl rfl, by simp [runQ]⟩
  | y :: l, e => by
    rw [runQ]
    split
    · obtain ⟨h1, h2⟩ := runQ_mem l y.t
      refine ⟨.inr ?_, fun x hx => List.mem_cons_of_mem _ (h2 x hx)⟩
      rcases h1 with h | ⟨x, hx, h⟩
      · exact ⟨y, by simp, h⟩
      · exact ⟨x, by simp [hx], h⟩
    · exact ⟨.inl rfl, fun x hx => hx⟩
theorem busy_mem : ∀ (n : Nat) (l : List Sq), l.length ≤ n → ∀ p ∈ busyQ l, (∃ x ∈ l, p.1 = x.f) ∧ ∃ x ∈ l, p.2 = x.t
  | n, [], _, p, hp => by rw [busyQ] at hp; cases hp
  | 0, x :: l, h, _, _ => by simp at h
  | n + 1, x :: l, h, p, hp => by
    rw [busyQ] at hp
    have hl := runQ_len x.t l
    obtain ⟨h1, h2⟩ := runQ_mem l x.t
    simp only [List.length_cons] at h
    rcases List.mem_cons.1 hp with rfl | hp
    · refine ⟨⟨x, by simp, rfl⟩, ?_⟩
      rcases h1 with h1 | ⟨y, hy, h1⟩
      · exact ⟨x, by simp, h1⟩
      · exact ⟨y, by simp [hy], h1⟩
    · obtain ⟨⟨y, hy, e1⟩, z, hz, e2⟩ := busy_mem n (runQ x.t l).2 (by omega) p hp
      exact ⟨⟨y, by simp [h2 y hy], e1⟩, z, by simp [h2 z hz], e2⟩
theorem buf_gen {js : List Fv} {sp : List Spn} {es : List Int} (hT : TrF js sp es) (h : rowsOk js (-1) (busyQ (sp.map toQ)) ∧ ((busyQ (sp.map toQ)).map fun p => p.2 - p.1).sum = (js.map (·.k)).sum ∧ (busyQ (sp.map toQ)).length ≤ sp.length) : BuF js (busyQ (sp.map toQ)) :=
  ⟨h.1, h.2.1, by have := hT.few; have := h.2.2; omega, fun p hp => by
    obtain ⟨⟨x, hx, e1⟩, y, hy, e2⟩ := busy_mem _ _ (Nat.le_refl _) p hp
    obtain ⟨x', hx', rfl⟩ := List.mem_map.1 hx
    obtain ⟨y', hy', rfl⟩ := List.mem_map.1 hy
    have := hT.sj x' hx'
    have := hT.sj y' hy'
    rw [e1, e2]
    simp only [toQ]
    omega⟩
attribute [local go_sem] Oper.semAt_some
attribute [local go_sem ↓] Go.wp_at_zero Go.wp_at_succ
set_option maxRecDepth 100000 in
set_option maxHeartbeats 16000000 in
theorem tbu_walk (A0 : Option Addr) (cap0 : Nat) (l0 : List Sp) (A1 : Option Addr) (cap1 : Nat) (l1 : List Fv) (a2 : Int) (w : World) (h0 : SRow w A0 cap0 l0) (h1 : FRow w A1 cap1 l1) (i2 : in64 a2) :
    Calls Tryz.prog 4 #[.slice A0 l0.length cap0, .slice A1 l1.length cap1, .int .i64 a2] w fun e w' => e = .returned (.bool true) ∧ Below w.heap.size w w' := by
  have AW := Lib.hid (fun W => awake_any W)
  have hle1 := h1.le
  have hmx1 := h1.mx
  have KF0 := fun (W : World) (hb : Below w.heap.size w W) => fewT_row A1 cap1 l1 W (h1.later hb)
  have KS := Lib.hid (fun (W : World) (hb : Below w.heap.size w W) => set_any 5 (by omega) (by omega) A0 cap0 l0 a2 W (h0.later hb) i2)
  have FB0 := fewT_bd l1
  obtain ⟨fs, hfs⟩ : ∃ fs, fewTS l1 = fs := ⟨_, rfl⟩
  rw [hfs] at KF0 FB0
  have KF := Lib.hid KF0
  have FB := Lib.hid FB0
  have I2 := Lib.hid i2
  clear h0 h1 i2 hfs KF0 FB0
  refine (callsIn_wide (n := 9)).1 ?_
  refine callsIn_of_wp_marks Tryz.func4 rfl trivial ?_ rfl
  simp only [Tryz.ntmps4, List.size_toArray, List.length_cons, List.length_nil, Nat.reduceAdd, Nat.reduceSub, Array.replicate_succ, Array.replicate_zero, List.push_toArray, List.append_toArray, List.nil_append, List.cons_append]
  refine wpIn_wide.2 ?_
  go_upto_region 1 with (fail)
  have X0 := Lib.hid ((Bx.nil w).new TBo (.bool false))
  obtain ⟨b6, hb6⟩ : ∃ b6, w.heap.size = b6 := ⟨_, rfl⟩
  obtain ⟨W0, hW0⟩ : ∃ W0, w.alloc (.cells #[.bool false] TBo) = W0 := ⟨_, rfl⟩
  rw [hW0, hb6] at X0
  have HB6 := Lib.hid hb6
  rw [hW0, hb6]
  clear hW0 hb6
  go_upto_region 2 with (go_at_call 7; (with_reducible refine (AW.out _).mono ?_); rintro e w1 ⟨rfl, hb1⟩; have X1 := Lib.hid (X0.out.later hb1); have B1 := Lib.hid X1.out.b; clear hb1)
  go_upto_region 3 with (go_at_call 8; (with_reducible refine (KS.out _ B1.out).mono ?_); rintro e w2 ⟨As, cs, ss, rfl, hRs, hs1, hs5, hsd, hsf, hsp, h2⟩; have RS2 := Lib.hid hRs; have HS1 := Lib.hid hs1; have HS5 := Lib.hid hs5; have HSD := Lib.hid hsd; have HSF := Lib.hid hsf; have HSP := Lib.hid hsp; have B12 := Lib.hid h2; have B2 := Lib.hid (B1.out.trans (h2.mono B1.out.size)); clear hRs hs1 hs5 hsd hsf hsp h2)
  have OK := Lib.hid (set_ok HS1.out (by have := HS5.out; omega) HSD.out HSF.out HSP.out)
  have SM0 := sm_of (M := 5) (n := 10) HS1.out (by have := HS5.out; omega) (by omega) HSD.out HSF.out HSP.out FB.out.1 (by omega) FB.out.2
  obtain ⟨js, hjs⟩ : ∃ js, decS ss fs = js := ⟨_, rfl⟩
  rw [hjs] at SM0
  have SM := Lib.hid SM0
  have HJS := Lib.hid hjs
  clear SM0 hjs
  go_upto_region 4 with (first
    | (go_at_call 10; (with_reducible refine (KF.out _ B2.out).mono ?_); rintro e w3 ⟨Ar, cr, rfl, hFR, h3⟩; have KD0 := dec_row _ _ _ _ ss fs _ (RS2.out.later h3) hFR OK.out; rw [HJS.out] at KD0; have KD := Lib.hid KD0; have H3 := Lib.hid h3; have RS3 := Lib.hid (RS2.out.later h3); have B3 := Lib.hid (B2.out.trans (h3.mono B2.out.size)); clear hFR h3 KD0)
    | (go_at_call 9; (with_reducible refine KD.out.mono ?_); rintro e w4 ⟨Aj, cj, gj, rfl, hFJ, hOJ, hXJ, h4⟩; have H24 := Lib.hid (H3.out.trans (h4.mono H3.out.size)); have H34 := Lib.hid h4; have FJ := Lib.hid hFJ; have OJ := Lib.hid hOJ; have XJ := Lib.hid hXJ; have B4 := Lib.hid (B2.out.trans (H24.out.mono B2.out.size)); have RS := Lib.hid (RS2.out.later H24.out); clear hFJ hOJ hXJ h4 KD))
  clear RS2 KF KS AW FB HJS H3
  have X4 := Lib.hid (X1.out.later (B12.out.trans (H24.out.mono B12.out.size)))
  have X5 := Lib.hid (X4.out.new TJs (.slice Aj js.length cj))
  have BA := Lib.hid (show Below w4.heap.size w4 (w4.alloc (.cells #[.slice Aj js.length cj] TJs)) from (Below.refl _ _).alloc (Nat.le_refl _) _)
  obtain ⟨b9, hb9⟩ : ∃ b9, w4.heap.size = b9 := ⟨_, rfl⟩
  obtain ⟨W5, hW5⟩ : ∃ W5, w4.alloc (.cells #[.slice Aj js.length cj] TJs) = W5 := ⟨_, rfl⟩
  rw [hW5] at BA
  rw [hW5, hb9] at X5
  rw [hW5, hb9]
  have HB9 := Lib.hid hb9
  clear hW5 hb9 X1 X0 B1 B12 B2 RS3 B3 H34
  have KR0 := run_sm SM.out (by omega) W5 (RS.out.later BA.out) (FJ.out.later BA.out)
  have TF0 := trf_sm SM.out (by omega)
  have BF0 := buf_gen TF0 (busy_sm SM.out (by omega))
  obtain ⟨sp, hsp⟩ : ∃ sp, (tst ss js 9223372036854775807).sp = sp := ⟨_, rfl⟩
  obtain ⟨es, hes⟩ : ∃ es, (tst ss js 9223372036854775807).en = es := ⟨_, rfl⟩
  rw [hsp, hes] at KR0 TF0
  rw [hsp] at BF0
  obtain ⟨L, hL⟩ : ∃ L, busyQ (sp.map toQ) = L := ⟨_, rfl⟩
  rw [hL] at BF0
  have KR := Lib.hid KR0
  have TF := Lib.hid TF0
  have BF := Lib.hid BF0
  have HL := Lib.hid hL
  clear KR0 TF0 BF0 hsp hes hL
  have c9 := X5.out.cell (List.mem_cons_self)
  go_upto_region 5 with (go_at_call 11; (with_reducible refine KR.out.mono ?_); rintro e w5 ⟨A1, c1, B1', d1, rfl, hS, hE, hb1⟩; have HS := Lib.hid hS; have HB5 := Lib.hid hb1; clear hS hE hb1)
  have KB0 := busy_any w5 (TF.out.row SM.out (by omega) HS.out) (by rw [List.length_map]; have := TF.out.few; omega)
  rw [List.length_map] at KB0
  have KB := Lib.hid KB0
  clear KB0 KR c9
  go_upto_region 6 with (go_at_call 17; (with_reducible refine KB.out.mono ?_); rintro e w6 ⟨B, v, rfl, hbx, hge, ho, hb⟩; have HBX := Lib.hid hbx; have HGE := Lib.hid hge; have HO := Lib.hid ho; have HB6' := Lib.hid hb; clear hbx hge ho hb)
  have X6 := Lib.hid ((X5.out.later HB5.out).later HB6'.out)
  have HJ6 := Lib.hid (((FJ.out.later BA.out).later HB5.out).later HB6'.out)
  have hfn := run_eql_seq2
  obtain ⟨n, hn⟩ : ∃ n, js.length = n := ⟨_, rfl⟩
  have hj10 := SM.out.le
  rw [hn] at hj10
  have HN := Lib.hid hn
  have jle := HJ6.out.le
  have jmx := HJ6.out.mx
  rw [hn] at jle
  rw [hn] at X6 ⊢
  have Y0 := Lib.hid ((Bx.nil w6).new T64 (.int .i64 0))
  have hb9lt : b9 < w6.heap.size := (X6.out.bx _ (List.mem_cons_self)).lt
  have hb6lt : b6 < w6.heap.size := (X6.out.bx _ (by simp : (b6, TBo, .bool false) ∈ _)).lt
  have HLT := Lib.hid (show b9 < w6.heap.size ∧ b6 < w6.heap.size from ⟨hb9lt, hb6lt⟩)
  clear hb9lt hb6lt hn KB
  go_upto_region 9 with (fail)
  obtain ⟨b13, hb13⟩ : ∃ b13, w6.heap.size = b13 := ⟨_, rfl⟩
  obtain ⟨W7, hW7⟩ : ∃ W7, w6.alloc (.cells #[.int .i64 0] T64) = W7 := ⟨_, rfl⟩
  rw [hW7, hb13] at Y0
  rw [hW7, hb13]
  have HB13 := Lib.hid hb13
  clear hW7 hb13 hfn
  have hL3 := Lib.hid (show ∀ q, q < n → 1 ≤ (jb js q).k ∧ (jb js q).k ≤ 4 from fun q hq => by have := SM.out.arb (by omega) (i := q) (by rw [HN.out]; exact hq); omega)
  go_wp2
  go_loopw [14] (fun i wr => ∃ (q : Nat) (S : Int), q ≤ n ∧ i = .int .i64 (q : Int) ∧ 0 ≤ S ∧ S ≤ 4 * q ∧ Hid (((js.take q).map (·.k)).sum = S) ∧ Hid (Bx w6 [(b13, T64, .int .i64 S)] wr)) (fun i _ => n - (intOf i).toNat)
  case atStart => exact ⟨0, 0, Nat.zero_le _, rfl, Int.le_refl _, by omega, Lib.hid rfl, Y0⟩
  case round =>
    obtain ⟨q, S, hq, rfl, hS0, hS1, hSS, hY⟩ := hrel
    have c9 := cells_below hY.out.b _ _ _ (X6.out.cell (List.mem_cons_self))
    have c13 := hY.out.cell (List.mem_cons_self)
    have f13 := hY.out.fz (List.mem_cons_self)
    by_cases hlt : q < n
    · obtain ⟨bj, oj, y, C, cc, rfl, hy, hbj, hF⟩ := (HJ6.out.later hY.out.b).get (k := q) (by rw [HN.out]; exact hlt)
      have v3 := hF.c3
      have hyk : (jb js q).k = y.k := by rw [jb_get hy]
      have hk4 := hL3.out q hlt
      have hsum := sum_take_k js (q := q) (by rw [HN.out]; exact hlt)
      rw [hSS.out] at hsum
      rw [hyk] at hk4 hsum
      obtain ⟨K, hK⟩ : ∃ K, y.k = K := ⟨_, rfl⟩
      rw [hK] at v3 hk4 hsum
      obtain ⟨S', hS'⟩ : ∃ S', S + K = S' := ⟨_, rfl⟩
      rw [hS'] at hsum
      have hw : wrap64 (S + K) = S' := by rw [IntWalk.wrap64_in _ (by omega), hS']
      have HSUM := Lib.hid hsum
      have q0 : (0 : Int) ≤ (q : Int) := by omega
      have q1 : (q : Int) < (n : Int) := by omega
      have SE := Lib.hid ((hY.out.later (below_drew wr)).set (bs' := [(b13, T64, .int .i64 S')]) (.int .i64 S') (List.mem_cons_self) (by intro p hp; exact .inl (List.mem_singleton.1 hp)))
      have hS0' : 0 ≤ S' := by omega
      have hS1' : S' ≤ 4 * (q + 1 : Nat) := by omega
      clear hF hy hbj hyk hk4 hK hS' hsum
      go_upto_region 12 with (fail)
      go_region
      simp only [hw]
      clear hw
      go_wp2
      go_roundw
      case rel => exact ⟨q + 1, S', by omega, by go_num, hS0', hS1', HSUM, SE⟩
      case measure => simp [intOf]; omega
    · obtain rfl : n = q := by omega
      have hsm : S = sumP L := by rw [BF.out.sm, ← hSS.out, List.take_of_length_le (by rw [HN.out]; exact Nat.le_refl _)]
      have HSM := Lib.hid hsm
      have Y1 := Lib.hid ((hY.out.new T64 (.int .i64 (-1))).new TIn (.int .i64 0))
      have hb13 := (hY.out.bx _ (List.mem_cons_self)).lt
      dsimp only at hb13
      have HS40 := Lib.hid (show 0 ≤ S ∧ S ≤ 40 by omega)
      clear f13 hS0 hS1 hSS hY c13 hsm hlt
      go_wp2
      rw [World.size_alloc] at Y1
      obtain ⟨W8, hW8⟩ : ∃ W8, (wr.alloc (.cells #[.int .i64 (-1)] T64)).alloc (.cells #[.int .i64 0] TIn) = W8 := ⟨_, rfl⟩
      obtain ⟨bq, hbq⟩ : ∃ bq, wr.heap.size = bq := ⟨_, rfl⟩
      rw [hW8, hbq] at Y1
      rw [hbq] at hb13
      simp only [hW8, hbq]
      have hge := HB13.out
      have SQ0 := BusP.seq HBX.out HGE.out HO.out (9 - 1) (by omega) [b13, bq, bq + 1] (by simp; omega) Y1.out.b (by rw [List.length_map]; have := TF.out.few; omega)
      rw [HL.out] at SQ0
      have SQ := Lib.hid SQ0
      have HBQ := Lib.hid hb13
      clear hW8 hbq SQ0 hge hb13
      refine (wpIn_wide (n := 9)).1 ?_
      refine wpIn_named fun fr hfr => ?_
      refine rangeA (vals := pqV) (gf := 31) (lb := #[.pointer (some ⟨B, 0, none⟩)]) (by rw [hfr]; rfl) (enters_of Tryz.func31 (by kernel_rfl) rfl)
        SQ.out (Below.refl _ _) (fun x => rfl)
        (fun pre V => Bx w6 [(bq + 1, TIn, .int .i64 (pre.length : Int)), (bq, T64, .int .i64 (lastP pre)), (b13, T64, .int .i64 (S - sumP pre))] V) (fun _ _ _ => False)
        (fun pre X Y row h hg hr => h.own hg hr Y1.out.b.size) (fun c s X Y row h _ _ => h) (by simpa [sumP, lastP] using Y1.out)
        (fun x => { tmps := (((fr.tmps.setIfInBounds 55 (.int .i64 x.1)).setIfInBounds 56 (.int .i64 x.2)).setIfInBounds 17 (.int .i64 x.1)).setIfInBounds 18 (.int .i64 x.2), defers := [] })
        ?assign ?body ?done ?stop
      case assign =>
        intro l2 x V K hK
        subst hfr
        gi_wp2
        exact hK
      case body =>
        rintro l2 pre ⟨xa, xb⟩ r V hY hL
        subst hfr
        obtain ⟨g1, g2, g3⟩ := rows_at pre (-1) (xa, xb) r (hL ▸ BF.out.ok)
        have g4 := BF.out.bd (xa, xb) (by rw [hL]; simp)
        have hlen : pre.length + 1 ≤ 40 := by have := BF.out.few; rw [hL] at this; simp at this; omega
        have hall := bgS_all g3
        rw [HN.out] at hall
        simp only at g1 g2 g4
        have hqb := HBQ.out
        have hsb : -100000 ≤ sumP pre ∧ sumP pre ≤ 100000 := sumP_bd pre (by omega) (fun p hp => by have := BF.out.bd p (by rw [hL]; simp [hp]); exact this) (fun p hp => rows_pos pre (-1) _ (hL ▸ BF.out.ok) p hp)
        have hsp : sumP (pre ++ [(xa, xb)]) = sumP pre + (xb - xa) := by simp [sumP]
        have hlp : lastP (pre ++ [(xa, xb)]) = xb := by simp [lastP]
        have hln : (pre ++ [(xa, xb)]).length = pre.length + 1 := by simp
        have g1 : lastP pre < xa := g1
        obtain ⟨lp, hlp2⟩ : ∃ lp, lastP pre = lp := ⟨_, rfl⟩
        obtain ⟨sm, hsm⟩ : ∃ sm, sumP pre = sm := ⟨_, rfl⟩
        obtain ⟨pl, hpl⟩ : ∃ pl, pre.length = pl := ⟨_, rfl⟩
        rw [hlp2] at g1
        rw [hsm] at hsb hsp
        rw [hpl] at hln hlen
        rw [hsm, hlp2, hpl] at hY
        obtain ⟨s1, hs1⟩ : ∃ s1, S - sm = s1 := ⟨_, rfl⟩
        rw [hs1] at hY
        have hw1 : wrap64 (xb - xa) = xb - xa := IntWalk.wrap64_in _ (by omega)
        obtain ⟨dd, hdd⟩ : ∃ dd, xb - xa = dd := ⟨_, rfl⟩
        have hw1' := hw1.trans hdd
        obtain ⟨s2, hs2⟩ : ∃ s2, S - (sm + (xb - xa)) = s2 := ⟨_, rfl⟩
        have hw2 : wrap64 (s1 - dd) = s2 := by have := HS40.out; rw [IntWalk.wrap64_in _ (by omega)]; omega
        have hw3 : wrap64 ((pl : Int) + 1) = (pl : Int) + 1 := IntWalk.wrap64_in _ (by omega)
        have c16 := hY.cell (by simp : (bq + 1, TIn, .int .i64 (pl : Int)) ∈ _)
        have f16 := hY.fz (by simp : (bq + 1, TIn, .int .i64 (pl : Int)) ∈ _)
        have c15 := hY.cell (by simp : (bq, T64, .int .i64 lp) ∈ _)
        have f15 := hY.fz (by simp : (bq, T64, .int .i64 lp) ∈ _)
        have c13 := hY.cell (by simp : (b13, T64, .int .i64 s1) ∈ _)
        have f13 := hY.fz (by simp : (b13, T64, .int .i64 s1) ∈ _)
        have c9 := cells_below hY.b _ _ _ (X6.out.cell (List.mem_cons_self))
        have E1 := hY.set (bs' := [(b13, T64, .int .i64 s2), (bq + 1, TIn, .int .i64 (pl : Int)), (bq, T64, .int .i64 lp)]) (.int .i64 s2) (by simp : (b13, T64, .int .i64 s1) ∈ _) (by
          intro p hp; simp at hp; rcases hp with rfl | rfl | rfl
          · exact .inl rfl
          all_goals exact .inr ⟨by simp, by simp <;> omega⟩)
        have f15a := E1.fz (by simp : (bq, T64, .int .i64 lp) ∈ _)
        have c15a := E1.cell (by simp : (bq, T64, .int .i64 lp) ∈ _)
        have E2 := E1.set (bs' := [(bq, T64, .int .i64 xb), (b13, T64, .int .i64 s2), (bq + 1, TIn, .int .i64 (pl : Int))]) (.int .i64 xb) (by simp : (bq, T64, .int .i64 lp) ∈ _) (by
          intro p hp; simp at hp; rcases hp with rfl | rfl | rfl
          · exact .inl rfl
          all_goals exact .inr ⟨by simp, by simp <;> omega⟩)
        have f16b := E2.fz (by simp : (bq + 1, TIn, .int .i64 (pl : Int)) ∈ _)
        have c16b := E2.cell (by simp : (bq + 1, TIn, .int .i64 (pl : Int)) ∈ _)
        have SE := Lib.hid (E2.set (bs' := [(bq + 1, TIn, .int .i64 ((pre ++ [(xa, xb)]).length : Int)), (bq, T64, .int .i64 (lastP (pre ++ [(xa, xb)]))), (b13, T64, .int .i64 (S - sumP (pre ++ [(xa, xb)])))]) (.int .i64 ((pl : Int) + 1)) (by simp : (bq + 1, TIn, .int .i64 (pl : Int)) ∈ _) (by
          rw [hsp, hlp, hln, hs2]
          intro p hp; simp at hp; rcases hp with rfl | rfl | rfl
          · exact .inl rfl
          all_goals exact .inr ⟨by simp, by simp <;> omega⟩))
        have t1 : decide (xa ≤ lp) = false := decide_eq_false (by omega)
        have t2 : decide (xb ≤ xa) = false := decide_eq_false (by omega)
        have HYB := Lib.hid hY.b
        have HALL := Lib.hid hall
        clear hY hL g1 g2 g3 g4 hsp hlp hln hlp2 hsm hs1 hw1 hdd hs2 hpl hall hsb hlen E1 E2 hqb
        simp only [List.setIfInBounds_toArray, List.set_cons_succ, List.set_cons_zero]
        gi_wp2
        gi_loopw [19, 20] (fun s19 s20 wr => ∃ q : Nat, q ≤ n ∧ s20 = .int .i64 (q : Int) ∧ s19 = .bool (bgS js xa q) ∧ wr = V) (fun _ i _ => n - (intOf i).toNat)
        case atStart => exact ⟨0, Nat.zero_le _, rfl, rfl, rfl⟩
        case round =>
          obtain ⟨q, hq, rfl, rfl, rfl⟩ := hrel
          by_cases hlt : q < n
          · obtain ⟨bj, oj, y, C, cc, rfl, hy, hbj, hF⟩ := (HJ6.out.later HYB.out).get (k := q) (by rw [HN.out]; exact hlt)
            have v2 := hF.c2
            have hS := bgS_succ js xa q
            rw [show (jb js q).r = y.r by rw [jb_get hy]] at hS
            have q0 : (0 : Int) ≤ (q : Int) := by omega
            have q1 : (q : Int) < (n : Int) := by omega
            obtain ⟨yr, hyr⟩ : ∃ a, y.r = a := ⟨_, rfl⟩
            rw [hyr] at hS v2
            have HS := Lib.hid hS
            clear hF hy hbj hyr hS
            cases hb : bgS js xa q with
            | true =>
              rw [hb] at HS
              gi_wp2
              go_roundw
              case rel => exact ⟨q + 1, by omega, by go_num, by rw [HS.out]; rfl, trivial⟩
              case measure => simp [intOf]; omega
            | false =>
              rw [hb] at HS
              by_cases he : yr = xa
              · have t3 : (yr == xa) = true := by simpa using he
                have HS' : Hid (bgS js xa (q + 1) = true) := Lib.hid (by rw [HS.out, decide_eq_true he]; rfl)
                clear he
                gi_wp2
                go_roundw
                case rel => exact ⟨q + 1, by omega, by go_num, by rw [HS'.out], trivial⟩
                case measure => simp [intOf]; omega
              · have t3 : (yr == xa) = false := by simpa using he
                have HS' : Hid (bgS js xa (q + 1) = false) := Lib.hid (by rw [HS.out, decide_eq_false he]; rfl)
                clear he
                gi_wp2
                go_roundw
                case rel => exact ⟨q + 1, by omega, by go_num, by rw [HS'.out], trivial⟩
                case measure => simp [intOf]; omega
          · obtain rfl : n = q := by omega
            rw [HALL.out]
            gi_wp2
            refine ⟨(((KeepsOthers.setCell _ _ _).trans (KeepsOthers.setCell _ _ _)).trans (KeepsOthers.setCell _ _ _)).from _, KeepC.kept ((((Kept.refl _ _).set _ _ _ (by simp)).set _ _ _ (by simp)).set _ _ _ (by simp)), SE.out⟩
      case done =>
        rintro D V hD hY hK
        subst hfr
        dsimp only
        have hz : S - sumP L = 0 := by rw [HSM.out]; omega
        rw [hz] at hY
        obtain ⟨gl, hgl⟩ : ∃ gl, L.length = gl := ⟨_, rfl⟩
        have hgl40 : gl ≤ 40 := by rw [← hgl]; exact BF.out.few
        rw [hgl] at hY
        have HGL := Lib.hid hgl
        have KX0 := fun W => rest_any a2 9 W I2.out (by omega) (by omega)
        have hbd := restI_bd a2 9 (by omega) (by omega)
        obtain ⟨kk, hkk⟩ : ∃ kk, restI a2 9 = kk := ⟨_, rfl⟩
        rw [hkk] at KX0 hbd
        have KX := Lib.hid KX0
        have HBD := Lib.hid hbd
        have HY := Lib.hid hY
        have HK := Lib.hid hK
        clear KX0 hkk hbd hz hgl hY hK
        gi_wp2
        go_wp2_with (go_at_call 18; (with_reducible refine (KX.out _).mono ?_); rintro e wx ⟨rfl, rfl⟩)
        have Z1 := Lib.hid ((HY.out.new TIn (.int .i64 kk)).new TIn (.int .i64 0))
        have hlt1 := (HY.out.bx _ (List.mem_cons_self)).lt
        dsimp only at hlt1
        have hDV := (Array.getElem?_eq_some_iff.1 HK.out).1
        have hv6 := HY.out.b.size
        rw [World.size_alloc] at Z1
        obtain ⟨W9, hW9, HK9⟩ : ∃ W9, (V.alloc (.cells #[.int .i64 kk] TIn)).alloc (.cells #[.int .i64 0] TIn) = W9 ∧ Hid (W9.heap[D]? = some (.deferred (some []))) := ⟨_, rfl, Lib.hid (((Below.heap_alloc _ _ _ (by simp; omega)).trans (Below.heap_alloc _ _ _ hDV)).trans HK.out)⟩
        obtain ⟨ba, hba⟩ : ∃ ba, V.heap.size = ba := ⟨_, rfl⟩
        rw [hW9, hba] at Z1
        rw [hba] at hlt1 hDV hv6
        simp only [hW9, hba]
        have hge := HB13.out
        have SQ0 := BusP.seq HBX.out HGE.out HO.out (9 - 1) (by omega) [ba + 1] (by simp; omega) Z1.out.b (by rw [List.length_map]; have := TF.out.few; omega)
        rw [HL.out] at SQ0
        have SQ2 := Lib.hid SQ0
        have HBA := Lib.hid (show bq + 1 < ba ∧ D < ba ∧ w6.heap.size ≤ ba from ⟨hlt1, hDV, hv6⟩)
        have hbq2 := HBQ.out
        have hlt9 := (Z1.out.bx _ (List.mem_cons_self)).lt
        dsimp only at hlt9
        clear hW9 hba SQ0 hge hlt1 hDV hv6 KX HY HK
        refine (wpIn_wide (n := 9)).1 ?_
        refine wpIn_named fun fr2 hfr2 => ?_
        refine rangeA (vals := pqV) (gf := 31) (lb := #[.pointer (some ⟨B, 0, none⟩)]) (by rw [hfr2]; rfl) (enters_of Tryz.func31 (by kernel_rfl) rfl)
          SQ2.out (Below.refl _ _) (fun x => rfl)
          (fun pre V => (Bx w6 [(ba + 1, TIn, .int .i64 (pre.length : Int)), (ba, TIn, .int .i64 kk), (bq + 1, TIn, .int .i64 (gl : Int)), (b13, T64, .int .i64 0)] V ∧ V.heap[D]? = some (.deferred (some []))) ∧ (pre.length : Int) ≤ kk)
          (fun c pre V => c = .exit 6 ∧ (pre.length : Int) = kk + 1 ∧ (Bx w6 [(ba + 1, TIn, .int .i64 kk), (ba, TIn, .int .i64 kk), (bq + 1, TIn, .int .i64 (gl : Int)), (b13, T64, .int .i64 0)] V ∧ V.heap[D]? = some (.deferred (some []))))
          (fun pre X Y row h hg hr => ⟨⟨h.1.1.own hg hr Z1.out.b.size, (hg.block D (Array.getElem?_eq_some_iff.1 h.1.2).1 (fun e => by have := (hr D e.symm).1; have := HBA.out.2.1; omega)).trans h.1.2⟩, h.2⟩)
          (fun c s X Y row h hg hr => ⟨h.1, h.2.1, h.2.2.1.own hg hr Z1.out.b.size, (hg.block D (Array.getElem?_eq_some_iff.1 h.2.2.2).1 (fun e => by have := (hr D e.symm).1; have := HBA.out.2.1; omega)).trans h.2.2.2⟩)
          ⟨⟨Z1.out.sub (by intro p hp; simp at hp ⊢; rcases hp with rfl | rfl | rfl | rfl <;> simp), HK9.out⟩, by have := HBD.out; simp; omega⟩
          (fun x => { tmps := (fr2.tmps.setIfInBounds 96 (.int .i64 x.1)).setIfInBounds 97 (.int .i64 x.2), defers := [] })
          ?assign2 ?body2 ?done2 ?stop2
        case assign2 =>
          intro l2 x V K hK
          subst hfr2
          gi_wp2
          exact hK
        case body2 =>
          rintro l2 pre x r V2 ⟨⟨hY, hKD⟩, hle⟩ hL
          subst hfr2
          have hlen : (pre ++ [x]).length = pre.length + 1 := by simp
          obtain ⟨pl, hpl⟩ : ∃ pl, pre.length = pl := ⟨_, rfl⟩
          rw [hpl] at hY hle hlen
          have c22 := hY.cell (List.mem_cons_self)
          have f22 := hY.fz (List.mem_cons_self)
          have c21 := hY.cell (by simp : (ba, TIn, .int .i64 kk) ∈ _)
          have hba := HBA.out
          have hb13q := HBQ.out
          have SE := Lib.hid (hY.set (bs' := [(ba + 1, TIn, .int .i64 ((pl : Int) + 1)), (ba, TIn, .int .i64 kk), (bq + 1, TIn, .int .i64 (gl : Int)), (b13, T64, .int .i64 0)]) (.int .i64 ((pl : Int) + 1)) (List.mem_cons_self) (by
            intro p hp; simp at hp; rcases hp with rfl | rfl | rfl | rfl
            · exact .inl rfl
            all_goals exact .inr ⟨by simp, by simp <;> omega⟩))
          have HY := Lib.hid hY
          have HLEN := Lib.hid hlen
          have HKD := Lib.hid hKD
          have HLE := Lib.hid hle
          have hDne : Hid (D ≠ ba + 1) := Lib.hid (by omega)
          clear hY hKD hL hpl hlen hba hb13q
          simp only [List.setIfInBounds_toArray, List.set_cons_succ, List.set_cons_zero]
          by_cases hq : (pl : Int) = kk
          · subst hq
            clear SE hle
            gi_wp2
            exact ⟨KeepsFrom.refl _ _, rfl, by rw [HLEN.out]; omega, HY.out, HKD.out⟩
          · have t1 : ((pl : Int) == kk) = false := by simpa using hq
            have HQ := Lib.hid hq
            have hw3 : wrap64 ((pl : Int) + 1) = (pl : Int) + 1 := IntWalk.wrap64_in _ (by have := HBD.out; omega)
            clear hq hle
            gi_wp2
            refine ⟨(KeepsOthers.setCell _ _ _).from _, KeepC.kept ((Kept.refl _ _).set _ _ _ (by simp)), ⟨?_, ?_⟩, by rw [HLEN.out]; have := HLE.out; have := HQ.out; omega⟩
            · rw [HLEN.out]
              exact SE.out
            · rw [Below.heap_setCell _ _ _ _ hDne.out]
              exact HKD.out
        case done2 =>
          rintro D2 V3 hD2 ⟨⟨hY, hKD⟩, hle⟩ hK2
          subst hfr2
          dsimp only
          rw [HGL.out] at hY hle
          obtain ⟨G, hG⟩ : ∃ G : Int, (gl : Int) = G := ⟨_, rfl⟩
          have hmin : min kk (gl : Int) = G := by omega
          have hY : Bx w6 [(ba + 1, TIn, .int .i64 G), (ba, TIn, .int .i64 kk), (bq + 1, TIn, .int .i64 (gl : Int)), (b13, T64, .int .i64 0)] V3 := by rw [← hG]; exact hY
          clear hG hle
          have X9 := X6.out.later hY.b
          have m6 : (b6, TBo, Value.bool false) ∈ [(b9, TJs, Value.slice Aj n cj), (b6, TBo, Value.bool false)] := by simp
          have c6 := X9.cell m6
          have f6 := X9.fz m6
          have c22 := hY.cell (List.mem_cons_self)
          have c21 := hY.cell (by simp : (ba, TIn, .int .i64 kk) ∈ _)
          have c16 := hY.cell (by simp : (bq + 1, TIn, .int .i64 (gl : Int)) ∈ _)
          have c13 := hY.cell (by simp : (b13, T64, .int .i64 0) ∈ _)
          have hb9 : Boxed (V3.setCell ⟨b6, 0, none⟩ (.bool true)) b6 TBo (.bool true) := Boxed.set (.bool true) (X9.bx _ m6)
          have hB9 : Below w.heap.size w (V3.setCell ⟨b6, 0, none⟩ (.bool true)) := X9.b.setCell (by have := HB6.out; simp; omega) _
          have hD9 : b6 ≠ D ∧ b6 ≠ D2 ∧ D ≠ D2 ∧ w.heap.size ≤ D ∧ w.heap.size ≤ D2 := by
            have h1 := HLT.out
            have h2 := HBA.out
            have h3 := X6.out.b.size
            have h4 := Y1.out.b.size
            have h5 := Z1.out.b.size
            have h6 := HB13.out
            omega
          have hk1 : (V3.setCell ⟨b6, 0, none⟩ (.bool true)).heap[D]? = some (.deferred (some [])) := by
            rw [Below.heap_setCell _ _ _ _ (fun e => hD9.1 e.symm)]; exact hKD
          have hk2 : (V3.setCell ⟨b6, 0, none⟩ (.bool true)).heap[D2]? = some (.deferred (some [])) := by
            rw [Below.heap_setCell _ _ _ _ (fun e => hD9.2.1 e.symm)]; exact hK2
          have hg := (beq_self_eq_true G)
          have HX9 := Lib.hid hb9
          have HB9' := Lib.hid hB9
          have HK1 := Lib.hid hk1
          have HK2 := Lib.hid hk2
          have HD9 := Lib.hid hD9
          clear hY hKD hK2 X9 m6 hb9 hB9 hD9 hk1 hk2
          gi_wp2
          go_wp2
          have hk3 : ((V3.setCell ⟨b6, 0, none⟩ (.bool true)).putObj D2 (.deferred none)).heap[D]? = some (.deferred (some [])) := (World.putObj_heap_other HD9.out.2.2.1).trans HK1.out
          refine ⟨by simp, .inl ⟨_, _, rfl, run_takeDeferred HK2.out, ⟨by simp, .inl ⟨_, _, rfl, run_takeDeferred hk3, ?_⟩⟩⟩⟩
          have hc : (((V3.setCell ⟨b6, 0, none⟩ (.bool true)).putObj D2 (.deferred none)).putObj D (.deferred none)).cell? ⟨b6, 0, none⟩ = some (.bool true) := by
            rw [← HX9.out.cell]; simp [World.cell?, World.putObj_heap_other HD9.out.1, World.putObj_heap_other HD9.out.2.1]
          exact ⟨.bool true, by simp [results, Tryz.f4, go_sem, hc], rfl, (HB9'.out.trans (belowK_b (w := w) (Nat.le_refl _) _ D2 _ _ HD9.out.2.2.2.2 HK2.out rfl rfl)).trans (belowK_b (w := w) (Nat.le_refl _) _ D _ _ HD9.out.2.2.2.1 hk3 rfl rfl)⟩
        case stop2 =>
          rintro D2 c pre x r V3 hD2 hL ⟨rfl, hlen, hY, hKD⟩ hK2
          subst hfr2
          dsimp only
          have hlL := congrArg List.length hL
          rw [HGL.out] at hlL
          simp at hlL hlen
          obtain ⟨G, hG⟩ : ∃ G : Int, kk = G := ⟨_, rfl⟩
          have hmin : min kk (gl : Int) = G := by omega
          have hY : Bx w6 [(ba + 1, TIn, .int .i64 G), (ba, TIn, .int .i64 kk), (bq + 1, TIn, .int .i64 (gl : Int)), (b13, T64, .int .i64 0)] V3 := by rw [← hG]; exact hY
          clear hG hlL hlen hL
          have X9 := X6.out.later hY.b
          have m6 : (b6, TBo, Value.bool false) ∈ [(b9, TJs, Value.slice Aj n cj), (b6, TBo, Value.bool false)] := by simp
          have c6 := X9.cell m6
          have f6 := X9.fz m6
          have c22 := hY.cell (List.mem_cons_self)
          have c21 := hY.cell (by simp : (ba, TIn, .int .i64 kk) ∈ _)
          have c16 := hY.cell (by simp : (bq + 1, TIn, .int .i64 (gl : Int)) ∈ _)
          have c13 := hY.cell (by simp : (b13, T64, .int .i64 0) ∈ _)
          have hb9 : Boxed (V3.setCell ⟨b6, 0, none⟩ (.bool true)) b6 TBo (.bool true) := Boxed.set (.bool true) (X9.bx _ m6)
          have hB9 : Below w.heap.size w (V3.setCell ⟨b6, 0, none⟩ (.bool true)) := X9.b.setCell (by have := HB6.out; simp; omega) _
          have hD9 : b6 ≠ D ∧ b6 ≠ D2 ∧ D ≠ D2 ∧ w.heap.size ≤ D ∧ w.heap.size ≤ D2 := by
            have h1 := HLT.out
            have h2 := HBA.out
            have h3 := X6.out.b.size
            have h4 := Y1.out.b.size
            have h5 := Z1.out.b.size
            have h6 := HB13.out
            omega
          have hk1 : (V3.setCell ⟨b6, 0, none⟩ (.bool true)).heap[D]? = some (.deferred (some [])) := by
            rw [Below.heap_setCell _ _ _ _ (fun e => hD9.1 e.symm)]; exact hKD
          have hk2 : (V3.setCell ⟨b6, 0, none⟩ (.bool true)).heap[D2]? = some (.deferred (some [])) := by
            rw [Below.heap_setCell _ _ _ _ (fun e => hD9.2.1 e.symm)]; exact hK2
          have hg := (beq_self_eq_true G)
          have HX9 := Lib.hid hb9
          have HB9' := Lib.hid hB9
          have HK1 := Lib.hid hk1
          have HK2 := Lib.hid hk2
          have HD9 := Lib.hid hD9
          clear hY hKD hK2 X9 m6 hb9 hB9 hD9 hk1 hk2
          gi_wp2
          go_wp2
          have hk3 : ((V3.setCell ⟨b6, 0, none⟩ (.bool true)).putObj D2 (.deferred none)).heap[D]? = some (.deferred (some [])) := (World.putObj_heap_other HD9.out.2.2.1).trans HK1.out
          refine ⟨by simp, .inl ⟨_, _, rfl, run_takeDeferred HK2.out, ⟨by simp, .inl ⟨_, _, rfl, run_takeDeferred hk3, ?_⟩⟩⟩⟩
          have hc : (((V3.setCell ⟨b6, 0, none⟩ (.bool true)).putObj D2 (.deferred none)).putObj D (.deferred none)).cell? ⟨b6, 0, none⟩ = some (.bool true) := by
            rw [← HX9.out.cell]; simp [World.cell?, World.putObj_heap_other HD9.out.1, World.putObj_heap_other HD9.out.2.1]
          exact ⟨.bool true, by simp [results, Tryz.f4, go_sem, hc], rfl, (HB9'.out.trans (belowK_b (w := w) (Nat.le_refl _) _ D2 _ _ HD9.out.2.2.2.2 HK2.out rfl rfl)).trans (belowK_b (w := w) (Nat.le_refl _) _ D _ _ HD9.out.2.2.2.1 hk3 rfl rfl)⟩
      case stop =>
        rintro D c pre x r V hD hL h hK
        exact h.elim
end Go.Proofs.YtngmaiiibinkaaaGreat
