/- The law ESc: its walk. -/
import Derived.Test.YtkpackbbahodcaaGreatG15
import Derived.Test.YtkpackbbahodcaaGreatG13
import Derived.Deep.CutRange
namespace Go.Proofs.YtkpackbbahodcaaGreat
open Go.RowKit
set_option linter.unusedVariables false
set_option linter.unusedSimpArgs false
attribute [local go_sem ↓] Go.wp_at_zero Go.wp_at_succ
theorem mul_bd {a b k : Int} (h0 : 0 ≤ a) (h1 : a ≤ b) (k0 : 1 ≤ k) (k1 : k ≤ 1048576) : 0 ≤ a * k ∧ a * k ≤ b * 1048576 :=
  ⟨Int.mul_nonneg h0 (by omega), Int.le_trans (Int.mul_le_mul_of_nonneg_right h1 (by omega)) (Int.mul_le_mul_of_nonneg_left k1 (by omega))⟩
theorem scl_check {i : Nat} {x : Ts} {k : Int} (h : SF i x) (hi : i < 8) (h1 : 1 ≤ x.p) (h2 : x.p ≤ 8) (k0 : 1 ≤ k) (k1 : k ≤ 1048576) : checkE (sclT k x) = 0 := by
  have hn : namedB (sclT k x) = true := by
    show (decide (x.n.size ≤ 32) && wordB x.n) = true
    rw [h.n, word_t i hi, bs_size]
    rfl
  have := h.c0; have := h.c1; have := h.d0; have := h.d1; have := h.j0; have := h.t0; have := h.t1; have := h.q0; have := h.q1
  have bc := mul_bd (a := x.c) (b := 4) (k := k) (by omega) (by omega) k0 k1
  have bt := mul_bd (a := x.t) (b := 20) (k := k) (by omega) (by omega) k0 k1
  have bd := mul_bd (a := x.d) (b := 14) (k := k) (by omega) (by omega) k0 k1
  have bq := mul_bd (a := x.q) (b := 4) (k := k) (by omega) (by omega) k0 k1
  have bj := mul_bd (a := x.j) (b := 14) (k := k) (by omega) (by omega) k0 k1
  have c1 := (mul_le_iff (a := 1) (b := x.c) k0).2 (by omega)
  have t1 := (mul_le_iff (a := 1) (b := x.t) k0).2 (by omega)
  have d1 := (mul_le_iff (a := 1) (b := x.d) k0).2 (by omega)
  have q1 := (mul_le_iff (a := 1) (b := x.q) k0).2 (by omega)
  have o1 := (mul_le_iff (a := x.q) (b := x.c) k0).2 (by omega)
  have o2 := (mul_le_iff (a := x.c + x.j) (b := x.d) k0).2 (by omega)
  have o3 := (mul_le_iff (a := x.d) (b := x.t) k0).2 (by omega)
  rw [Int.add_mul] at o2
  have hr : rangedB (sclT k x) = true := by
    show (inB (x.c * k) 1 2147483647 && (inB (x.t * k) 1 2147483647 && (inB (x.d * k) 1 2147483647 && (inB (x.q * k) 1 2147483647 && (inB (x.j * k) 0 2147483647 && inB x.p 1 1048576))))) = true
    rw [inB_yes (by omega), inB_yes (by omega), inB_yes (by omega), inB_yes (by omega), inB_yes (by omega), inB_yes (by omega)]
    rfl
  have ho : overB (sclT k x) = false := by
    show decide (x.q * k > x.c * k ∨ x.c * k + x.j * k > x.d * k ∨ x.d * k > x.t * k) = false
    rw [decide_eq_false_iff_not]
    omega
  rw [checkE, hn, hr, ho]
  rfl
section
variable {ss : List Ts} {js : List Fv} {M n : Nat} {k : Int}
theorem scl_get {i : Nat} {y : Ts} (h : (ss.map (sclT k))[i]? = some y) : ∃ x, ss[i]? = some x ∧ y = sclT k x := by
  rw [List.getElem?_map] at h
  cases hx : ss[i]? with
  | none => rw [hx] at h; cases h
  | some x => rw [hx] at h; exact ⟨x, rfl, by simpa using h.symm⟩
theorem scl_dist (h : Dist ss) : Dist (ss.map (sclT k)) := fun i j x y hx hy he => by
  obtain ⟨x', h1, rfl⟩ := scl_get hx
  obtain ⟨y', h2, rfl⟩ := scl_get hy
  exact h i j x' y' h1 h2 he
theorem scl_ok (h : Sm ss js M n) (k0 : 1 ≤ k) (k1 : k ≤ 1048576) : (chkAll (ss.map (sclT k))).2 = 0 := by
  have h1 := h.s1
  have h2 := h.sM
  have h3 := h.M8
  rw [chkAll, if_neg (by rw [List.length_map]; omega)]
  refine chkFrom_good _ [] (fun x hx => ?_) (fun i j x y hx hy he => ?_)
  · obtain ⟨x', hx', rfl⟩ := List.mem_map.1 hx
    obtain ⟨i, hi, rfl⟩ := List.getElem_of_mem hx'
    have hg := List.getElem?_eq_getElem hi
    exact scl_check (h.sf i _ hg) (by omega) (h.pr i _ hg).1 (h.pr i _ hg).2 k0 k1
  · simp only [List.nil_append] at hx hy
    obtain ⟨x', g1, rfl⟩ := scl_get hx
    obtain ⟨y', g2, rfl⟩ := scl_get hy
    rcases he with he | he
    · have e1 := (h.sf i x' g1).n
      have e2 := (h.sf j y' g2).n
      have hi := (List.getElem?_eq_some_iff.1 g1).1
      have hj := (List.getElem?_eq_some_iff.1 g2).1
      have he' : x'.n = y'.n := he
      rw [e1, e2] at he'
      exact name_t_inj i (by omega) j (by omega) he'
    · exact h.di i j x' y' g1 g2 he
theorem scl_tot (h : Sm ss js M n) (hn : n ≤ 10) (k0 : 1 ≤ k) (k1 : k ≤ 1048576) : ((js.map (sclJ k)).map (·.k)).sum ≤ 1000000000 := by
  have := sum_bd (·.k) 4194304 (js.map (sclJ k)) (fun j hj => by
    obtain ⟨x, hx, rfl⟩ := List.mem_map.1 hj
    have h1 := h.ar hn x hx
    have := mul_bd (a := x.k) (b := 4) (k := k) (by omega) (by omega) k0 k1
    show x.k * k ≤ _
    omega)
  rw [List.length_map] at this
  have := h.le
  omega
theorem scl_legs (h : Sm ss js M n) (hn : n ≤ 10) (k0 : 1 ≤ k) (k1 : k ≤ 1048576) : legS (ss.map (sclT k)) (js.map (sclJ k)) = true :=
  scl_leg k0 h.lg (scl_ok h k0 k1) (fun j hj => by
    have h1 := h.ar hn j hj
    have := mul_bd (a := j.a) (b := 320) (k := k) (by omega) (by omega) k0 k1
    omega)
end
/-- The slower set, while it is made. -/
structure SlT (w0 wr : World) (v : Value) (k : Nat) (ts : List Ts) : Prop where
  own : SetIn w0.heap.size wr v k ts
  bel : Below w0.heap.size w0 wr
/-- Sections, while they are made. -/
structure CuR (w0 wr : World) (v : Value) (l : List Int) : Prop where
  own : wr.ownsRow w0.heap.size T64 1 v l.length (numL l)
  bel : Below w0.heap.size w0 wr
theorem CuR.nil (w0 : World) : CuR w0 w0 (.slice none 0 0) [] := ⟨World.ownsRow_nil _ _ _ _, Below.refl _ _⟩
theorem CuR.push {w0 wr W2 w8 : World} {v v' : Value} {l : List Int} {c : Int} (h : CuR w0 wr v l) (ba : Below wr.heap.size wr W2) (hown : w8.ownsRow w0.heap.size T64 1 v' (l.length + 1) (numL l ++ [.int .i64 c])) (hgr : W2.grownBy w8 v.ownBlock) : CuR w0 w8 v' (l ++ [c]) :=
  ⟨by rw [List.length_append, List.length_singleton]; simpa [numL] using hown, (h.bel.trans (ba.mono h.bel.size)).grown hgr (by have := h.bel.size; have := ba.size; omega) (fun q hq => (h.own.lt q hq).1)⟩
theorem pos_len : ∀ c : List Int, Pos1 c → (c.length : Int) ≤ c.sum
  | [], _ => by simp
  | a :: c, h => by
    have := pos_len c h.tail
    have := h.head
    rw [List.sum_cons, List.length_cons]
    omega
theorem rep_snoc (r : Nat) (k : Int) : List.replicate (r + 1) k = List.replicate r k ++ [k] := by rw [List.replicate_succ']
set_option maxRecDepth 100000 in
set_option maxHeartbeats 16000000 in
theorem lsc_walk (A0 : Option Addr) (cap0 : Nat) (l0 : List Sp) (A1 : Option Addr) (cap1 : Nat) (l1 : List Fv) (a2 : Int) (w : World) (h0 : SRow w A0 cap0 l0) (h1 : FRow w A1 cap1 l1) (i2 : in64 a2) :
    Calls Tryz.prog 8 #[.slice A0 l0.length cap0, .slice A1 l1.length cap1, .int .i64 a2] w fun e w' => e = .returned (.bool true) ∧ Below w.heap.size w w' := by
  have AW := Lib.hid (fun W => awake_any W)
  have hle1 := h1.le
  have hmx1 := h1.mx
  have KF0 := fun (W : World) (hb : Below w.heap.size w W) => fewE_row A1 cap1 l1 W (h1.later hb)
  have KS := Lib.hid (fun (W : World) (hb : Below w.heap.size w W) => set_any 4 (by omega) (by omega) A0 cap0 l0 a2 W (h0.later hb) i2)
  have FB0 := fewE_bd l1
  obtain ⟨fs, hfs⟩ : ∃ fs, fewES l1 = fs := ⟨_, rfl⟩
  rw [hfs] at KF0 FB0
  have KF := Lib.hid KF0
  have FB := Lib.hid FB0
  have I2 := Lib.hid i2
  clear h0 h1 i2 hfs KF0 FB0
  go_enter Tryz.func8, Tryz.ntmps8
  go_upto_region 2 with (go_at_call 12; (with_reducible refine (AW.out _).mono ?_); rintro e w1 ⟨rfl, hb1⟩; have B1 := Lib.hid hb1; clear hb1)
  go_upto_region 3 with (go_at_call 13; (with_reducible refine (KS.out _ B1.out).mono ?_); rintro e w2 ⟨As, cs, ss, rfl, hRs, hs1, hs5, hsd, hsf, hsp, h2⟩; have RS2 := Lib.hid hRs; have HS1 := Lib.hid hs1; have HS5 := Lib.hid hs5; have HSD := Lib.hid hsd; have HSF := Lib.hid hsf; have HSP := Lib.hid hsp; have B12 := Lib.hid h2; have B2 := Lib.hid (B1.out.trans (h2.mono B1.out.size)); clear hRs hs1 hs5 hsd hsf hsp h2)
  have OK := Lib.hid (set_ok HS1.out (by have := HS5.out; omega) HSD.out HSF.out HSP.out)
  have SM0 := sm_of (M := 4) (n := 8) HS1.out (by have := HS5.out; omega) (by omega) HSD.out HSF.out HSP.out FB.out.1 (by omega) FB.out.2
  obtain ⟨js, hjs⟩ : ∃ js, decS ss fs = js := ⟨_, rfl⟩
  rw [hjs] at SM0
  have SM := Lib.hid SM0
  have HJS := Lib.hid hjs
  clear SM0 hjs
  go_upto_region 4 with (first
    | (go_at_call 15; (with_reducible refine (KF.out _ B2.out).mono ?_); rintro e w3 ⟨Ar, cr, rfl, hFR, h3⟩; have KD0 := dec_row _ _ _ _ ss fs _ (RS2.out.later h3) hFR OK.out; rw [HJS.out] at KD0; have KD := Lib.hid KD0; have H3 := Lib.hid h3; have RS3 := Lib.hid (RS2.out.later h3); have B3 := Lib.hid (B2.out.trans (h3.mono B2.out.size)); clear hFR h3 KD0)
    | (go_at_call 14; (with_reducible refine KD.out.mono ?_); rintro e w4 ⟨Aj, cj, gj, rfl, hFJ, hOJ, hXJ, h4⟩; have H24 := Lib.hid (H3.out.trans (h4.mono H3.out.size)); have H34 := Lib.hid h4; have FJ := Lib.hid hFJ; have OJ := Lib.hid hOJ; have XJ := Lib.hid hXJ; have B4 := Lib.hid (B2.out.trans (H24.out.mono B2.out.size)); have RS := Lib.hid (RS2.out.later H24.out); clear hFJ hOJ hXJ h4 KD))
  clear RS2 KF KS AW FB HJS H3
  obtain ⟨K0, hK0, hKe⟩ := low20 a2
  obtain ⟨K, hK⟩ : ∃ K : Nat, K = 1 + K0 := ⟨_, rfl⟩
  obtain ⟨kz, hkz⟩ : ∃ kz : Int, (K : Int) = kz := ⟨_, rfl⟩
  have hkw : IntKind.i64.wrap (1 + (K0 : Int)) = kz := by rw [IntWalk.i64_in _ (by omega)]; omega
  have k0 : 1 ≤ kz := by omega
  have k1 : kz ≤ 1048576 := by omega
  obtain ⟨sp, hsp⟩ : ∃ sp, (tst ss js 9223372036854775807).sp = sp := ⟨_, rfl⟩
  obtain ⟨es, hes⟩ : ∃ es, (tst ss js 9223372036854775807).en = es := ⟨_, rfl⟩
  have hrf := rnf_sm SM.out (by omega)
  have hse := scl_end (ts := ss) (K := K) (by omega) SM.out.lgs SM.out.t (T := 9223372036854775807) (SM.out.done (by omega)) (by omega)
  rw [hkz] at hse
  rw [hsp, hes] at hse hrf
  have HRF := Lib.hid hrf
  obtain ⟨n, hn⟩ : ∃ n, js.length = n := ⟨_, rfl⟩
  obtain ⟨m, hm⟩ : ∃ m, sp.length = m := ⟨_, rfl⟩
  have hel : es.length = n := by rw [hrf.le, hn]
  have hn10 := SM.out.le
  have hs4 := SM.out.sM
  have hs1 := SM.out.s1
  rw [hn] at hn10
  have KR0 := fun W (hb : Below w4.heap.size w4 W) => runk_sm SM.out (by omega) W (RS.out.later hb) (FJ.out.later hb) hn hsp hes hm hel
  have KQ0 := fun (A R : Option Addr) (c d : Nat) W (hT : Row W A c (ss.map (sclT kz))) (hF : FRow W R d (js.map (sclJ kz))) => runk_leg (k := n) (m := m) (n := n) W hT hF (by rw [List.length_map]; exact hn) (scl_dist SM.out.di) (by rw [List.length_map]; omega) (by rw [List.length_map]; omega) (scl_tot SM.out (by omega) k0 k1) (scl_legs SM.out (by omega) k0 k1) hse.1 hse.2 (by rw [List.length_map]; exact hm) (by rw [List.length_map]; exact hel)
  obtain ⟨t, ht⟩ : ∃ t, ss.length = t := ⟨_, rfl⟩
  have htl : (ss.map (sclT kz)).length = t := by rw [List.length_map]; exact ht
  rw [htl] at KQ0
  rw [ht] at KR0
  have KQ := Lib.hid KQ0
  have KR := Lib.hid KR0
  have HN := Lib.hid hn
  have HM := Lib.hid hm
  have HEL := Lib.hid hel
  have HT := Lib.hid ht
  have HK0 := Lib.hid k0
  have HK1 := Lib.hid k1
  rw [ht] at hs4 hs1
  clear hK0 hK hkz hse hrf hsp hes hm hel KQ0 KR0 htl
  go_upto_region 5 with (fail)
  rw [hn, ht]
  clear hn ht hKe hkw
  obtain ⟨i0, hi, hz0, hz1, hz2⟩ := info_parts infoTs
  go_wp2
  go_loopw [11, 12] (fun v i wr => ∃ k : Nat, k ≤ t ∧ i = .int .i64 (k : Int) ∧ Hid (SlT w4 wr v k ((ss.take k).map (sclT kz)))) (fun _ i _ => t - (intOf i).toNat)
  case atStart => exact ⟨0, Nat.zero_le _, rfl, Lib.hid ⟨SetIn.nil _ _, Below.refl _ _⟩⟩
  case round =>
    obtain ⟨k, hk, rfl, hI⟩ := hrel
    by_cases hlt : k < t
    · obtain ⟨tb, tq, x, hAs, hx, hxw, htb, hX0⟩ := RS.out.get (k := k) (by rw [HT.out]; exact hlt)
      subst hAs
      have hX := hX0.later hI.out.bel
      have c0 := hX.c0
      have c1 := hX.c1
      have c2 := hX.c2
      have c3 := hX.c3
      have c4 := hX.c4
      have c5 := hX.c5
      have c6 := hX.c6
      have hj0 : (0 : Int) ≤ (k : Int) := by omega
      have hj1 : (k : Int) < (t : Int) := by omega
      have sfx := SM.out.sf k x hx
      have bc := mul_bd (a := x.c) (b := 4) (k := kz) (by have := sfx.c0; omega) (by have := sfx.c1; omega) k0 k1
      have bt := mul_bd (a := x.t) (b := 20) (k := kz) (by have := sfx.c0; have := sfx.d0; have := sfx.j0; have := sfx.t0; omega) (by have := sfx.t1; omega) k0 k1
      have bd := mul_bd (a := x.d) (b := 14) (k := kz) (by have := sfx.c0; have := sfx.d0; have := sfx.j0; omega) (by have := sfx.d1; omega) k0 k1
      have bj := mul_bd (a := x.j) (b := 14) (k := kz) (by have := sfx.j0; omega) (by have := sfx.c0; have := sfx.d0; have := sfx.d1; omega) k0 k1
      have bq := mul_bd (a := x.q) (b := 4) (k := kz) (by have := sfx.q0; omega) (by have := sfx.q1; have := sfx.c1; omega) k0 k1
      have w1 : IntKind.i64.wrap (x.c * kz) = x.c * kz := IntWalk.i64_in _ (by omega)
      have w2' : IntKind.i64.wrap (x.t * kz) = x.t * kz := IntWalk.i64_in _ (by omega)
      have w3' : IntKind.i64.wrap (x.d * kz) = x.d * kz := IntWalk.i64_in _ (by omega)
      have w4' : IntKind.i64.wrap (x.j * kz) = x.j * kz := IntWalk.i64_in _ (by omega)
      have w5' : IntKind.i64.wrap (x.q * kz) = x.q * kz := IntWalk.i64_in _ (by omega)
      have HXW := Lib.hid (show TsW (sclT kz x) from ⟨hxw.n, ⟨by show _ ≤ x.c * kz; omega, by show x.c * kz ≤ _; omega⟩, ⟨by show _ ≤ x.t * kz; omega, by show x.t * kz ≤ _; omega⟩, ⟨by show _ ≤ x.d * kz; omega, by show x.d * kz ≤ _; omega⟩, ⟨by show _ ≤ x.j * kz; omega, by show x.j * kz ≤ _; omega⟩, ⟨by show _ ≤ x.q * kz; omega, by show x.q * kz ≤ _; omega⟩, hxw.p⟩)
      have H7 := Lib.hid (seven_new (wr.alloc (.cells #[.string x.n, .int .i64 x.c, .int .i64 x.t, .int .i64 x.d, .int .i64 x.j, .int .i64 x.q, .int .i64 x.p] 48)) (sclT kz x))
      have HX := Lib.hid hx
      have HI := Lib.hid hI.out.own
      have HB := Lib.hid hI.out.bel
      clear hX hX0 hx hxw hI bc bt bd bj bq sfx
      go_upto_region 10 with (fail)
      go_wp2_with (at_builtin; refine wpList_append_own _ rfl _ _ 25 rfl w4.heap.size 48 i0 _ 7 64 Tryz.underlying25 hi hz0 hz1 hz2 rfl (by decide) _ _ _ rfl ((HI.out.row.alloc _).alloc _) ⟨(wr.alloc (.cells #[.string x.n, .int .i64 x.c, .int .i64 x.t, .int .i64 x.d, .int .i64 x.j, .int .i64 x.q, .int .i64 x.p] 48)).heap.size, 0, none⟩ 1 1 (tsL (sclT kz x)) (by simp [Act.eval, Act.put]) rfl H7.out (tsL_one _) (by unfold maxLen; omega) (by omega) (by have := HB.out.size; simp; omega) ?_; intro v' w8 hown' hgrow hnil')
      go_roundw
      case rel => exact ⟨k + 1, by omega, by go_num, Lib.hid ⟨⟨by rw [List.length_map, List.length_take, HT.out]; omega, fun y hy => by
          rw [take_one HX.out, List.map_append] at hy
          rcases List.mem_append.1 hy with hy | hy
          · exact HI.out.wf y hy
          · rw [List.map_singleton, List.mem_singleton] at hy
            rw [hy]; exact HXW.out, by rw [take_one HX.out, List.map_append, List.map_singleton, tsCells_snoc]; exact hown'⟩, ((HB.out.alloc HB.out.size _).alloc (by have := HB.out.size; simp; omega) _).grown hgrow (by have := HB.out.size; simp; omega) (fun q hq => (HI.out.row.lt q hq).1)⟩⟩
      case measure => simp [intOf]; omega
    · obtain rfl : k = t := by omega
      obtain ⟨tg, tc, rfl, hO⟩ := hI.out.own.own (by omega)
      have hRT := hO.row
      rw [List.take_of_length_le (by rw [HT.out]; exact Nat.le_refl _)] at hRT
      have RT := Lib.hid hRT
      have HBA := Lib.hid hI.out.bel
      clear hI hO hRT hz0 hz1 hz2 hi
      obtain ⟨j0, hj, hy0, hy1, hy2⟩ := info_parts info64
      obtain ⟨i1, hi, hz0, hz1, hz2⟩ := info_parts infoJs
      obtain ⟨wA, hwA⟩ : ∃ wA, wr = wA := ⟨_, rfl⟩
      have FA := Lib.hid (FJ.out.later HBA.out)
      rw [hwA] at HBA RT FA ⊢
      clear hwA
      go_wp2
      go_loopw [14, 15] (fun v i wr => ∃ k : Nat, k ≤ n ∧ i = .int .i64 (k : Int) ∧ Hid (JIn wA wr v ((js.take k).map (sclJ kz)))) (fun _ i _ => n - (intOf i).toNat)
      case atStart => exact ⟨0, Nat.zero_le _, rfl, Lib.hid (JIn.nil wA)⟩
      case round =>
        obtain ⟨k2, hk2, rfl, hI⟩ := hrel
        by_cases hlt : k2 < n
        · obtain ⟨rb, ro, x, C, cc, rfl, hx, hrb, hF0⟩ := FA.out.get (k := k2) (by rw [HN.out]; exact hlt)
          have hF := hF0.later hI.out.bel
          have c0 := hF.c0
          have c1 := hF.c1
          have c2 := hF.c2
          have c3 := hF.c3
          have c4 := hF.c4
          have hj0 : (0 : Int) ≤ (k2 : Int) := by omega
          have hj1 : (k2 : Int) < (n : Int) := by omega
          obtain ⟨gs, hG, hgs⟩ := hI.out.own
          have hgl : gs.length = k2 := by
            have := congrArg List.length hgs
            rw [List.length_map, List.length_map, List.length_take, HN.out] at this
            omega
          have har := SM.out.ar (by omega) x (List.mem_of_getElem? hx)
          have hlj := SM.out.ljs.all x (List.mem_of_getElem? hx)
          have HAR := Lib.hid har
          have HLJ := Lib.hid hlj
          have HG := Lib.hid hG
          have HGS := Lib.hid hgs
          have HGL := Lib.hid hgl
          have HF := Lib.hid hF
          have HX := Lib.hid hx
          have HBW := Lib.hid hI.out.bel
          clear hF hF0 hx hG hgs hgl hI har hlj
          go_upto_region 18 with (fail)
          have F1 := Lib.hid (FB.new wr 46 (.int .i64 x.t) (.int .i64 x.a) (.int .i64 x.r) (.int .i64 x.k) (.slice C x.c.length cc))
          have B1 : Hid (Below wr.heap.size wr (wr.alloc (.cells #[.int .i64 x.t, .int .i64 x.a, .int .i64 x.r, .int .i64 x.k, .slice C x.c.length cc] 46))) := Lib.hid ((Below.refl _ _).alloc (Nat.le_refl _) _)
          generalize (wr.alloc (.cells #[.int .i64 x.t, .int .i64 x.a, .int .i64 x.r, .int .i64 x.k, .slice C x.c.length cc] 46)) = W1 at *
          obtain ⟨bx, hbx⟩ : ∃ bx, bx = wr.heap.size := ⟨_, rfl⟩
          rw [← hbx] at F1 ⊢
          have HC1 := Lib.hid (HF.out.s.later B1.out)
          have hu10 : x.c.length ≤ 4 := by
            have := pos_len x.c HLJ.out.pos
            have := HLJ.out.fit
            have := HAR.out
            omega
          obtain ⟨u, hu⟩ : ∃ u, x.c.length = u := ⟨_, rfl⟩
          have HU := Lib.hid hu
          rw [hu] at F1 hu10
          have hcle := HC1.out.le
          have hcmx := HC1.out.mx
          rw [hu] at hcle
          clear c0 c1 c2 c3 c4 hbx hu
          go_wp2
          go_loopw [17, 18, 19] (fun lf cu i wr2 => ∃ q : Nat, q ≤ u ∧ i = .int .i64 (q : Int) ∧ lf = .int .i64 (x.k - (x.c.take q).sum) ∧ Hid (CuR W1 wr2 cu ((x.c.take q).map (· * kz)))) (fun _ _ i _ => u - (intOf i).toNat)
          case atStart => exact ⟨0, Nat.zero_le _, rfl, by simp, Lib.hid (CuR.nil W1)⟩
          case round =>
            obtain ⟨q, hq, rfl, rfl, hC⟩ := hrel
            obtain ⟨z0, z1, z2, z3, z4⟩ := (F1.out.later hC.out.bel).z
            by_cases hlq : q < u
            · obtain ⟨cb, co, c, rfl, hc, hcw, hcb, hcell1⟩ := HC1.out.get (k := q) (by rw [HU.out]; exact hlq)
              have hcell := cells_below hC.out.bel _ _ _ hcell1
              have hq0 : (0 : Int) ≤ (q : Int) := by omega
              have hq1 : (q : Int) < (u : Int) := by omega
              have hst := sum_take x.c HLJ.out.pos q
              have hst2 := sum_take x.c HLJ.out.pos (q + 1)
              have hts : (x.c.take (q + 1)).sum = (x.c.take q).sum + c := by rw [take_one hc, List.sum_append]; simp
              have hc1 := HLJ.out.pos c (List.mem_of_getElem? hc)
              have hfit := HLJ.out.fit
              have har := HAR.out
              have bc := mul_bd (a := c) (b := 4) (k := kz) (by omega) (by omega) k0 k1
              obtain ⟨L, hL⟩ : ∃ L, x.k - (x.c.take q).sum = L := ⟨_, rfl⟩
              have w1 : IntKind.i64.wrap (c * kz) = c * kz := IntWalk.i64_in _ (by omega)
              have w2' : IntKind.i64.wrap (L - c) = L - c := IntWalk.i64_in _ (by omega)
              rw [hL]
              have HNX := Lib.hid (show x.k - (x.c.take (q + 1)).sum = L - c by omega)
              have HXC := Lib.hid hc
              have HCC := Lib.hid hC.out
              have HCN := Lib.hid (fun (V : World) => cell_one_new V (.int .i64 (c * kz)) T64)
              have hll : ((x.c.take q).map (· * kz)).length = q := by
                have := HU.out
                rw [List.length_map, List.length_take]; omega
              have HLL := Lib.hid hll
              clear hC hc hst hst2 hts hc1 hfit har bc hL hcw hll
              go_upto_region 22 with (at_builtin; refine wpList_append_own _ rfl _ _ 31 rfl W1.heap.size T64 j0 _ 1 8 Tryz.underlying31 hj hy0 hy1 hy2 rfl (by decide) _ _ _ rfl (HCC.out.own.alloc _) ⟨wr.heap.size, 0, none⟩ 1 1 [.int .i64 (c * kz)] rfl rfl (by simpa using HCN.out wr) (by simp [Value.oneCell']) (by have := HLL.out; unfold maxLen; omega) (by have := HLL.out; omega) (by have := HCC.out.bel.size; simp; omega) ?_; intro v' w8 hown' hgrow hnil')
              have HNC := Lib.hid (HCC.out.push (W2 := wr.alloc (.cells #[.int .i64 (c * kz)] T64)) ((Below.refl _ _).alloc (Nat.le_refl _) _) hown' hgrow)
              obtain ⟨z0', z1', z2', z3', z4'⟩ := (F1.out.later HNC.out.bel).z
              have hcell' := cells_below HNC.out.bel _ _ _ hcell1
              clear z0 z1 z2 z3 z4 hcell hown' hgrow hnil'
              go_wp2
              go_roundw
              case rel => exact ⟨q + 1, by omega, by go_num, by rw [HNX.out], Lib.hid (by have h := HNC.out; rw [take_one HXC.out, List.map_append]; exact h)⟩
              case measure => simp [intOf]; omega
            · obtain rfl : q = u := by omega
              have hst0 : x.c.take q = x.c := List.take_of_length_le (by rw [HU.out]; exact Nat.le_refl _)
              rw [hst0] at hC ⊢
              have hsm := HLJ.out.pos.sum
              have hfit := HLJ.out.fit
              have har := HAR.out
              have HC0 : Hid (CuR W1 wr _ (x.c.map (· * kz) ++ List.replicate 0 kz)) := Lib.hid (by have h := hC.out; simpa using h)
              clear hC
              go_wp2
              go_loopw [17, 18] (fun lf cu wr2 => ∃ (r : Nat) (L : Int), lf = .int .i64 L ∧ 0 ≤ L ∧ L ≤ 4 ∧ r ≤ 4 ∧ Hid (L = x.k - x.c.sum - r) ∧ Hid (CuR W1 wr2 cu (x.c.map (· * kz) ++ List.replicate r kz))) (fun lf _ _ => (intOf lf).toNat)
              case atStart => exact ⟨0, x.k - x.c.sum, rfl, by omega, by omega, by omega, Lib.hid (by omega), HC0⟩
              case round =>
                obtain ⟨r, L, rfl, hL0, hL4, hr4, hLr, hC⟩ := hrel
                obtain ⟨z0', z1', z2', z3', z4'⟩ := (F1.out.later hC.out.bel).z
                by_cases hLp : L > 0
                · have g1 : decide (L > 0) = true := decide_eq_true hLp
                  have g1' : decide (0 < L) = true := decide_eq_true hLp
                  have w2' : IntKind.i64.wrap (L - 1) = L - 1 := IntWalk.i64_in _ (by omega)
                  have HCC := Lib.hid hC.out
                  have HCN := Lib.hid (fun (V : World) => cell_one_new V (.int .i64 kz) T64)
                  have hll : (x.c.map (· * kz) ++ List.replicate r kz).length ≤ 8 := by
                    have := HU.out
                    rw [List.length_append, List.length_map, List.length_replicate]; omega
                  have HLL := Lib.hid hll
                  have HR1 : Hid (r + 1 ≤ 4 ∧ L - 1 = x.k - x.c.sum - ((r + 1 : Nat) : Int)) := Lib.hid (by have := hLr.out; omega)
                  clear hC hll hsm hfit har z0 z1 z2 z3 z4
                  go_upto_region 25 with (at_builtin; refine wpList_append_own _ rfl _ _ 31 rfl W1.heap.size T64 j0 _ 1 8 Tryz.underlying31 hj hy0 hy1 hy2 rfl (by decide) _ _ _ rfl (HCC.out.own.alloc _) ⟨wr.heap.size, 0, none⟩ 1 1 [.int .i64 kz] rfl rfl (by simpa using HCN.out wr) (by simp [Value.oneCell']) (by have := HLL.out; unfold maxLen; omega) (by have := HLL.out; omega) (by have := HCC.out.bel.size; simp; omega) ?_; intro v' w8 hown' hgrow hnil')
                  have HNC := Lib.hid (HCC.out.push (W2 := wr.alloc (.cells #[.int .i64 kz] T64)) ((Below.refl _ _).alloc (Nat.le_refl _) _) hown' hgrow)
                  clear hown' hgrow hnil'
                  go_wp2
                  go_roundw
                  case rel => exact ⟨r + 1, L - 1, rfl, by omega, by omega, HR1.out.1, Lib.hid HR1.out.2, Lib.hid (by have h := HNC.out; rw [rep_snoc, ← List.append_assoc]; exact h)⟩
                  case measure => simp [intOf]; omega
                · have hLz : L = 0 := by omega
                  subst hLz
                  have hlist : x.c.map (· * kz) ++ List.replicate r kz = sclC kz x.c x.k := by
                    have := hLr.out
                    unfold sclC
                    congr 2
                    omega
                  have hC' := hC.out
                  rw [hlist] at hC'
                  have hp1 := scl_pos (k := kz) (w := x.k) k0 HLJ.out.pos
                  have hin : ∀ y ∈ sclC kz x.c x.k, in64 y := fun y hy => by
                    have h1 := hp1 y hy
                    have h2 : y ≤ 4194304 := by
                      rcases List.mem_append.1 hy with hy | hy
                      · obtain ⟨z, hz, rfl⟩ := List.mem_map.1 hy
                        have h3 := HLJ.out.pos z hz
                        have h4 : z ≤ 4 := by
                          obtain ⟨i, hi2, rfl⟩ := List.getElem_of_mem hz
                          have h5 := sum_take x.c HLJ.out.pos i
                          have h6 := sum_take x.c HLJ.out.pos (i + 1)
                          have h7 : (x.c.take (i + 1)).sum = (x.c.take i).sum + x.c[i] := by rw [take_one (List.getElem?_eq_getElem hi2), List.sum_append]; simp
                          omega
                        have := mul_bd (a := z) (b := 4) (k := kz) (by omega) h4 k0 k1
                        omega
                      · rw [(List.mem_replicate.1 hy).2]; omega
                    exact ⟨by omega, by omega⟩
                  obtain ⟨Cn, cn, hvn, hln, hCn, hty⟩ := crow_own hC'.own hin
                  obtain ⟨p, hp⟩ : ∃ p, (sclC kz x.c x.k).length = p := ⟨_, rfl⟩
                  rw [hp] at hvn
                  subst hvn
                  have ba := mul_bd (a := x.a) (b := 320) (k := kz) (by omega) (by omega) k0 k1
                  have br := mul_bd (a := x.r) (b := 340) (k := kz) (by omega) (by omega) k0 k1
                  have bk := mul_bd (a := x.k) (b := 4) (k := kz) (by omega) (by omega) k0 k1
                  have w1' : IntKind.i64.wrap (x.a * kz) = x.a * kz := IntWalk.i64_in _ (by omega)
                  have w2' : IntKind.i64.wrap (x.r * kz) = x.r * kz := IntWalk.i64_in _ (by omega)
                  have w3' : IntKind.i64.wrap (x.k * kz) = x.k * kz := IntWalk.i64_in _ (by omega)
                  have G3 : Hid (GOk 46 wA.heap.size wr ⟨sclJ kz x, Cn, cn⟩) := Lib.hid ⟨⟨HF.out.wf.t, ⟨by show _ ≤ x.a * kz; omega, by show x.a * kz ≤ _; omega⟩, ⟨by show _ ≤ x.r * kz; omega, by show x.r * kz ≤ _; omega⟩, ⟨by show _ ≤ x.k * kz; omega, by show x.k * kz ≤ _; omega⟩⟩, hCn, fun hne a ha => by
                    obtain ⟨-, cs', fr', hh⟩ := hty hne a ha
                    exact .inr ⟨cs', T64, fr', hh, by decide⟩⟩
                  have HG2 := Lib.hid ((HG.out.later B1.out).later hC'.bel)
                  have HBW2 := Lib.hid (bel_step (bel_step HBW.out B1.out) hC'.bel)
                  have HFA := Lib.hid (fun j u hu => by
                    have := (FAt.new wr (sclJ kz x) Cn cn 46 G3.out.wf G3.out.s).r j u hu
                    rw [Nat.zero_add] at this
                    rw [add_none, Nat.zero_add]
                    simp only [sclJ, hp] at this
                    exact this : ∀ j u, (fvL (sclJ kz x) Cn cn)[j]? = some u → (wr.alloc (.cells #[.int .i64 x.t, .int .i64 (x.a * kz), .int .i64 (x.r * kz), .int .i64 (x.k * kz), .slice Cn p cn] 46)).cell? ((⟨wr.heap.size, 0, none⟩ : Addr).add j) = some u)
                  clear hC hC' hlist hp1 hin hCn hty ba br bk hp hln hsm hfit har z0 z1 z2 z3 z4
                  go_wp2_with (at_builtin; refine wpList_append_own _ rfl _ _ 27 rfl wA.heap.size 46 i1 _ 5 56 Tryz.underlying27 hi hz0 hz1 hz2 rfl (by decide) _ gs.length (gvC gs) rfl (HG2.out.row.alloc _) ⟨wr.heap.size, 0, none⟩ 1 1 (fvL (sclJ kz x) Cn cn) rfl rfl HFA.out (fvL_one _ _ _) (by have := HGL.out; unfold maxLen; omega) (by have := HGL.out; omega) (by have := HBW2.out.size; simp; omega) ?_; intro v' w8 hown' hgrow hnil')
                  go_roundw
                  case rel =>
                    have hp := push_step HG2.out G3.out HBW2.out ((Below.refl _ _).alloc (Nat.le_refl _) _) hown' hgrow
                    exact ⟨k2 + 1, by omega, by go_num, Lib.hid ⟨⟨_, hp.1, by rw [take_one HX.out, List.map_append, List.map_append, HGS.out]; rfl⟩, hp.2⟩⟩
                  case measure => simp [intOf]; omega
        · obtain rfl : k2 = n := by omega
          obtain ⟨gs, hG, hgs⟩ := hI.out.own
          rw [List.take_of_length_le (by rw [HN.out]; exact Nat.le_refl _)] at hgs
          have hgl : gs.length = k2 := by
            have := congrArg List.length hgs
            rw [List.length_map, List.length_map, HN.out] at this
            exact this
          obtain ⟨A6, c6, hv6, hF6⟩ := hG.frow
          rw [hgl] at hv6
          rw [hgs] at hF6
          subst hv6
          have HBW := Lib.hid hI.out.bel
          have KR2 := Lib.hid (KR.out _ (HBA.out.trans (HBW.out.mono HBA.out.size)))
          have F6 := Lib.hid hF6
          clear hG hgs hgl hI KR hF6
          go_upto_region 28 with (go_at_call 16; (with_reducible refine KR2.out.mono ?_); rintro e w5 ⟨A1, c1, B1', d1, rfl, hS, hE, hb1⟩; have HS := Lib.hid hS; have HE := Lib.hid hE; have HB5 := Lib.hid hb1; clear hS hE hb1)
          have KQ2 := Lib.hid (KQ.out _ A6 _ c6 _ (RT.out.later (bel_step HBW.out HB5.out)) (F6.out.later HB5.out))
          clear KQ
          go_upto_region 29 with (go_at_call 16; (with_reducible refine KQ2.out.mono ?_); rintro e w6 ⟨A2, c2, B2', d2, rfl, hS, hE, hb1⟩; have HS2 := Lib.hid hS; have HE2 := Lib.hid hE; have HB6 := Lib.hid hb1; clear hS hE hb1)
          have BB := Lib.hid (B4.out.trans ((HBA.out.trans ((bel_step (bel_step HBW.out HB5.out) HB6.out).mono HBA.out.size)).mono B4.out.size))
          have HS := Lib.hid (HS.out.later HB6.out)
          have HE := Lib.hid (HE.out.later HB6.out)
          have s1 := HS.out.le
          have s2 := HS.out.mx
          have s3 := HS2.out.le
          have s4 := HS2.out.mx
          have e1 := HE.out.le
          have e2 := HE.out.mx
          have e3 := HE2.out.le
          have e4 := HE2.out.mx
          rw [HM.out] at s1
          rw [List.length_map, HM.out] at s3
          rw [HEL.out] at e1
          rw [List.length_map, HEL.out] at e3
          have hnn : ((k2 : Int) != (k2 : Int)) = false := by simp
          have hmm : ((m : Int) != (m : Int)) = false := by simp
          clear KR2 KQ2
          go_upto_region 30 with (fail)
          go_wp2
          go_loopw [24] (fun i wr2 => ∃ q : Nat, q ≤ m ∧ i = .int .i64 (q : Int) ∧ Hid (Below w6.heap.size w6 wr2)) (fun i _ => m - (intOf i).toNat)
          case atStart => exact ⟨0, Nat.zero_le _, rfl, Lib.hid (Below.refl _ _)⟩
          case round =>
            obtain ⟨q, hq, rfl, hB⟩ := hrel
            by_cases hlq : q < m
            · have hql : q < sp.length := by rw [HM.out]; exact hlq
              obtain ⟨sb, sq, rfl, hsb, SP⟩ := HS.out.pin (by omega)
              obtain ⟨tb, tq, rfl, htb, TP⟩ := HS2.out.pin (by rw [List.length_map]; omega)
              obtain ⟨z0, z1, z2⟩ := (SP.later hB.out) q hql
              obtain ⟨y0, y1, y2⟩ := (TP.later hB.out) q (by rw [List.length_map]; exact hql)
              rw [spG_map _ hql] at y0 y1 y2
              have hx := HRF.out.sj _ (spG_mem hql)
              generalize spG sp q = x at *
              obtain ⟨xj, xf, xt⟩ := x
              simp only [sclP] at z0 z1 z2 y0 y1 y2 hx
              have bf := mul_bd (a := xf) (b := 381) (k := kz) (by omega) (by omega) k0 k1
              have bt := mul_bd (a := xt) (b := 381) (k := kz) (by omega) (by omega) k0 k1
              have hw1 : IntKind.i64.wrap (xf * kz) = xf * kz := IntWalk.i64_in _ (by omega)
              have hw2 : IntKind.i64.wrap (xt * kz) = xt * kz := IntWalk.i64_in _ (by omega)
              have hj0 : (0 : Int) ≤ (q : Int) := by omega
              have hj1 : (q : Int) < (m : Int) := by omega
              clear SP TP hx bf
              go_upto_region 34 with (fail)
              go_quiet (fail)
              go_wp2
              go_roundw
              case rel => exact ⟨q + 1, by omega, by go_num, Lib.hid (hB.out.trans ((below_drewN2 _ _).mono hB.out.size))⟩
              case measure => simp [intOf]; omega
            · obtain rfl : q = m := by omega
              have HB7 := Lib.hid hB.out
              clear hB
              go_wp2
              go_loopw [25] (fun i wr2 => ∃ q : Nat, q ≤ k2 ∧ i = .int .i64 (q : Int) ∧ Hid (Below w6.heap.size w6 wr2)) (fun i _ => k2 - (intOf i).toNat)
              case atStart => exact ⟨0, Nat.zero_le _, rfl, HB7⟩
              case round =>
                obtain ⟨q2, hq2, rfl, hB⟩ := hrel
                by_cases hlq2 : q2 < k2
                · have hql : q2 < es.length := by rw [HEL.out]; exact hlq2
                  obtain ⟨sb, sq, rfl, hsb, SP⟩ := HE.out.pin (by omega)
                  obtain ⟨tb, tq, rfl, htb, TP⟩ := HE2.out.pin (by rw [List.length_map]; omega)
                  have z0 := (SP.later hB.out) q2 hql
                  have y0 := (TP.later hB.out) q2 (by rw [List.length_map]; exact hql)
                  rw [kO_map hql] at y0
                  have hx := HRF.out.en q2 (by rw [HN.out]; exact hlq2)
                  generalize kO es q2 = x at *
                  try simp only at y0
                  have bf := mul_bd (a := x) (b := 381) (k := kz) (by omega) (by omega) k0 k1
                  have hw1 : IntKind.i64.wrap (x * kz) = x * kz := IntWalk.i64_in _ (by omega)
                  have hj0 : (0 : Int) ≤ (q2 : Int) := by omega
                  have hj1 : (q2 : Int) < (k2 : Int) := by omega
                  have hxx : ((x * kz) != (x * kz)) = false := by simp
                  clear SP TP hx bf
                  go_upto_region 39 with (fail)
                  go_quiet (fail)
                  go_wp2
                  go_roundw
                  case rel => exact ⟨q2 + 1, by omega, by go_num, Lib.hid (hB.out.trans ((below_drewN2 _ _).mono hB.out.size))⟩
                  case measure => simp [intOf]; omega
                · obtain rfl : q2 = k2 := by omega
                  go_wp2
                  go_ret
                  exact ⟨rfl, BB.out.trans (hB.out.mono BB.out.size)⟩
end Go.Proofs.YtkpackbbahodcaaGreat
