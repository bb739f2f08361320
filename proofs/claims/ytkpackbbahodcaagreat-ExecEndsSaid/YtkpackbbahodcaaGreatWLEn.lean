/- The law EEn: its walk. -/
import Derived.Test.YtkpackbbahodcaaGreatG15
import Derived.Deep.CutRange
namespace Go.Proofs.YtkpackbbahodcaaGreat
open Go.RowKit
set_option linter.unusedVariables false
set_option linter.unusedSimpArgs false
attribute [local go_sem ↓] Go.wp_at_zero Go.wp_at_succ
/-- The greatest, from 0 on. -/
def mxS (l : List Int) : Int := l.foldl max 0
theorem mxS_snoc (l : List Int) (x : Int) : mxS (l ++ [x]) = max (mxS l) x := by simp [mxS]
theorem mxS_all : ∀ l : List Int, 0 ≤ mxS l ∧ (∀ x ∈ l, x ≤ mxS l) ∧ ∀ t, 0 ≤ t → (∀ x ∈ l, x ≤ t) → mxS l ≤ t := by
  refine snoc_ind ?_ ?_
  · exact ⟨Int.le_refl _, by simp, fun t h _ => h⟩
  · intro l x ⟨h1, h2, h3⟩
    rw [mxS_snoc]
    refine ⟨by omega, fun y hy => ?_, fun t ht hy => ?_⟩
    · rcases List.mem_append.1 hy with h | h
      · have := h2 y h; omega
      · rw [List.mem_singleton.1 h]; omega
    · have := h3 t ht (fun y h => hy y (by simp [h]))
      have := hy x (by simp)
      omega
theorem mxS_of {l : List Int} {t : Int} (h0 : 0 ≤ t) (h1 : ∀ x ∈ l, x ≤ t) (h2 : t ∈ l) : mxS l = t := by
  obtain ⟨a1, a2, a3⟩ := mxS_all l
  have := a2 t h2
  have := a3 t h0 h1
  omega
theorem mxS_take {l : List Int} {k : Nat} (hk : k < l.length) : mxS (l.take (k + 1)) = max (mxS (l.take k)) (kO l k) := by
  have e : l[k]? = some (kO l k) := by simp [kO, hk]
  rw [take_one e, mxS_snoc]
structure EnF (js : List Fv) (sp : List Spn) (es : List Int) (sp2 : List Spn) (es2 : List Int) : Prop where
  l1 : es.length = js.length
  l2 : es2.length = js.length
  mx : mxS es2 = mxS es
  no : js.length = 0 → sp.length = 0 ∧ sp2.length = 0
  ye : 0 < js.length → 0 < sp.length ∧ 0 < sp2.length
  la : 0 < js.length → (spG sp (sp.length - 1)).t = mxS es ∧ (spG sp2 (sp2.length - 1)).t = mxS es
  fi : 0 < js.length → (spG sp 0).f = (spG sp2 0).f
theorem spG_last {sp : List Spn} {x : Spn} (h : sp.getLast? = some x) : spG sp (sp.length - 1) = x ∧ 0 < sp.length := by
  obtain ⟨l, rfl⟩ := List.getLast?_eq_some_iff.1 h
  simp [spG]
theorem en_gen {ss : List Ts} {js : List Fv} (hl : Lg js) {T : Nat} (hd : ∀ i, i < js.length → kO (tst ss js T).dn i = (jb js i).k) (hd2 : ∀ i, i < js.length → kO (tst ss (js.map sftJ) T).dn i = (jb js i).k) : EnF js (tst ss js T).sp (tst ss js T).en (tst ss (js.map sftJ) T).sp (tst ss (js.map sftJ) T).en := by
  have hl2 := sft_lg hl
  have hI := ti_all (ts := ss) hl T
  have hI2 := ti_all (ts := ss) hl2 T
  have hle2 : (tst ss (js.map sftJ) T).en.length = js.length := by rw [hI2.le, List.length_map]
  have S := sh_all (ts := ss) hl T
  have E1 := ends_max (ts := ss) hl hd
  have E2 := ends_max (ts := ss) hl2 (n := T) (fun i hi => by rw [List.length_map] at hi; rw [hd2 i hi, (sft_p i).2.1])
  rcases E1 with ⟨j0, h1⟩ | ⟨x, a1, a2, a3, a4⟩
  · subst j0
    have e1 : (tst ss ([] : List Fv) T).en = [] := List.length_eq_zero_iff.1 hI.le
    have h1' : (tst ss (([] : List Fv).map sftJ) T).sp = [] := h1
    refine ⟨hI.le, hle2, ?_, fun _ => ⟨by rw [h1]; rfl, by rw [h1']; rfl⟩, fun h => absurd h (by simp), fun h => absurd h (by simp), fun h => absurd h (by simp)⟩
    rfl
  · rcases E2 with ⟨j0, h1⟩ | ⟨y, b1, b2, b3, b4⟩
    · have : js = [] := by simpa using j0
      subst this
      have e1 : (tst ss ([] : List Fv) T).en = [] := List.length_eq_zero_iff.1 hI.le
      rw [e1] at a4
      cases a4
    · have t1 := mxS_of (by omega) a3 a4
      have t2 := mxS_of (by omega) b3 b4
      have la := S.la
      rw [a1, b1] at la
      simp only [Option.map_some, Option.some.injEq] at la
      obtain ⟨g1, g2⟩ := spG_last a1
      obtain ⟨g3, g4⟩ := spG_last b1
      have hd := S.hd
      refine ⟨hI.le, hle2, by rw [t1, t2]; exact la.symm, fun h => ?_, fun _ => ⟨g2, g4⟩, fun _ => ⟨by rw [g1, t1], by rw [g3, t1, la]⟩, fun _ => ?_⟩
      · have e1 : (tst ss js T).en = [] := List.length_eq_zero_iff.1 (by rw [hI.le]; exact h)
        rw [e1] at a4; cases a4
      · cases p1 : (tst ss js T).sp with
        | nil => rw [p1] at g2; simp at g2
        | cons u v =>
          cases p2 : (tst ss (js.map sftJ) T).sp with
          | nil => rw [p2] at g4; simp at g4
          | cons u2 v2 =>
            rw [p1, p2] at hd
            simpa [spG] using hd
theorem sft_done {ss : List Ts} {js : List Fv} {M n : Nat} (h : Sm ss js M n) (hn : n ≤ 10) : ∀ i, i < js.length → kO (tst ss (js.map sftJ) 9223372036854775807).dn i = (jb js i).k := by
  have hl := sft_lg h.lgs
  have ht : ((js.map sftJ).map (·.k)).sum ≤ 40 := by
    have := h.tot hn
    rw [List.map_map]
    show (js.map (·.k)).sum ≤ _
    omega
  have hd := done_at (ts := ss) hl 340 40 (fun i hi => by rw [List.length_map] at hi; rw [(sft_p i).2.2.1]; exact (h.arb hn hi).2.2.2.1) ht
  intro i hi
  rw [(done_later hl (show 340 + (40 + 1) ≤ 9223372036854775807 by omega) hd).1, hd i (by rw [List.length_map]; exact hi), (sft_p i).2.1]
theorem en_fact {ss : List Ts} {js : List Fv} {M n : Nat} (h : Sm ss js M n) (hn : n ≤ 10) : EnF js (tst ss js 9223372036854775807).sp (tst ss js 9223372036854775807).en (tst ss (js.map sftJ) 9223372036854775807).sp (tst ss (js.map sftJ) 9223372036854775807).en :=
  en_gen h.lgs (h.doneT hn) (sft_done h hn)
set_option maxRecDepth 100000 in
set_option maxHeartbeats 16000000 in
theorem len_walk (A0 : Option Addr) (cap0 : Nat) (l0 : List Sp) (A1 : Option Addr) (cap1 : Nat) (l1 : List Fv) (a2 : Int) (w : World) (h0 : SRow w A0 cap0 l0) (h1 : FRow w A1 cap1 l1) (i2 : in64 a2) :
    Calls Tryz.prog 9 #[.slice A0 l0.length cap0, .slice A1 l1.length cap1, .int .i64 a2] w fun e w' => e = .returned (.bool true) ∧ Below w.heap.size w w' := by
  have AW := Lib.hid (fun W => awake_any W)
  have hle1 := h1.le
  have hmx1 := h1.mx
  have KF0 := fun (W : World) (hb : Below w.heap.size w W) => fewT_row A1 cap1 l1 W (h1.later hb)
  have KS := Lib.hid (fun (W : World) (hb : Below w.heap.size w W) => set_any 5 (by omega) (by omega) A0 cap0 l0 a2 W (h0.later hb) i2)
  have FB0 := fewT_bd l1
  obtain ⟨fs, hfs⟩ : ∃ fs, fewTS l1 = fs := ⟨_, rfl⟩
  rw [hfs] at KF0 FB0
  have KF := Lib.hid KF0
  have FB := Lib.hid FB0
  have I2 := Lib.hid i2
  clear h0 h1 i2 hfs KF0 FB0
  go_enter Tryz.func9, Tryz.ntmps9
  go_upto_region 2 with (go_at_call 12; (with_reducible refine (AW.out _).mono ?_); rintro e w1 ⟨rfl, hb1⟩; have B1 := Lib.hid hb1; clear hb1)
  go_upto_region 3 with (go_at_call 13; (with_reducible refine (KS.out _ B1.out).mono ?_); rintro e w2 ⟨As, cs, ss, rfl, hRs, hs1, hs5, hsd, hsf, hsp, h2⟩; have RS2 := Lib.hid hRs; have HS1 := Lib.hid hs1; have HS5 := Lib.hid hs5; have HSD := Lib.hid hsd; have HSF := Lib.hid hsf; have HSP := Lib.hid hsp; have B12 := Lib.hid h2; have B2 := Lib.hid (B1.out.trans (h2.mono B1.out.size)); clear hRs hs1 hs5 hsd hsf hsp h2)
  have OK := Lib.hid (set_ok HS1.out (by have := HS5.out; omega) HSD.out HSF.out HSP.out)
  have SM0 := sm_of (M := 5) (n := 10) HS1.out (by have := HS5.out; omega) (by omega) HSD.out HSF.out HSP.out FB.out.1 (by omega) FB.out.2
  obtain ⟨js, hjs⟩ : ∃ js, decS ss fs = js := ⟨_, rfl⟩
  rw [hjs] at SM0
  have SM := Lib.hid SM0
  have HJS := Lib.hid hjs
  clear SM0 hjs
  go_upto_region 4 with (first
    | (go_at_call 15; (with_reducible refine (KF.out _ B2.out).mono ?_); rintro e w3 ⟨Ar, cr, rfl, hFR, h3⟩; have KD0 := dec_row _ _ _ _ ss fs _ (RS2.out.later h3) hFR OK.out; rw [HJS.out] at KD0; have KD := Lib.hid KD0; have H3 := Lib.hid h3; have RS3 := Lib.hid (RS2.out.later h3); have B3 := Lib.hid (B2.out.trans (h3.mono B2.out.size)); clear hFR h3 KD0)
    | (go_at_call 14; (with_reducible refine KD.out.mono ?_); rintro e w4 ⟨Aj, cj, gj, rfl, hFJ, hOJ, hXJ, h4⟩; have H24 := Lib.hid (H3.out.trans (h4.mono H3.out.size)); have H34 := Lib.hid h4; have FJ := Lib.hid hFJ; have OJ := Lib.hid hOJ; have XJ := Lib.hid hXJ; have B4 := Lib.hid (B2.out.trans (H24.out.mono B2.out.size)); have RS := Lib.hid (RS2.out.later H24.out); clear hFJ hOJ hXJ h4 KD))
  clear RS2 KF KS AW FB HJS H3
  obtain ⟨sp, hsp⟩ : ∃ sp, (tst ss js 9223372036854775807).sp = sp := ⟨_, rfl⟩
  obtain ⟨es, hes⟩ : ∃ es, (tst ss js 9223372036854775807).en = es := ⟨_, rfl⟩
  obtain ⟨sp2, hsp2⟩ : ∃ sp, (tst ss (js.map sftJ) 9223372036854775807).sp = sp := ⟨_, rfl⟩
  obtain ⟨es2, hes2⟩ : ∃ es, (tst ss (js.map sftJ) 9223372036854775807).en = es := ⟨_, rfl⟩
  have hen := en_fact SM.out (by omega)
  rw [hsp, hes, hsp2, hes2] at hen
  have HEN := Lib.hid hen
  obtain ⟨n, hn⟩ : ∃ n, js.length = n := ⟨_, rfl⟩
  obtain ⟨m, hm⟩ : ∃ m, sp.length = m := ⟨_, rfl⟩
  obtain ⟨m2, hm2⟩ : ∃ m, sp2.length = m := ⟨_, rfl⟩
  have hel : es.length = n := by rw [hen.l1, hn]
  have hel2 : es2.length = n := by rw [hen.l2, hn]
  have hn10 := SM.out.le
  rw [hn] at hn10
  have KR := Lib.hid (fun W (hb : Below w4.heap.size w4 W) => runk_sm SM.out (by omega) W (RS.out.later hb) (FJ.out.later hb) hn hsp hes hm hel)
  have KQ := Lib.hid (fun (A : Option Addr) (c : Nat) W (hb : Below w4.heap.size w4 W) (hF : FRow W A c (js.map sftJ)) => runk_leg (A := As) (cap := cs) (ts := ss) (k := n) (m := m2) (n := n) W (RS.out.later hb) hF (by rw [List.length_map]; exact hn) SM.out.di (by have := SM.out.sM; omega) (by rw [List.length_map]; omega) (by
      have := SM.out.tot (by omega)
      rw [List.map_map]
      show (js.map (·.k)).sum ≤ _
      omega) (sft_leg SM.out.lg) hsp2 hes2 hm2 hel2)
  have HN := Lib.hid hn
  have HM := Lib.hid hm
  have HM2 := Lib.hid hm2
  have HEL := Lib.hid hel
  have HEL2 := Lib.hid hel2
  clear hen hsp hes hm hel hsp2 hes2 hm2 hel2
  obtain ⟨i0, hi, hz0, hz1, hz2⟩ := info_parts infoJs
  go_upto_region 5 with (fail)
  rw [hn]
  clear hn
  go_wp2
  go_loopw [10, 11] (fun v i wr => ∃ k : Nat, k ≤ n ∧ i = .int .i64 (k : Int) ∧ Hid (JIn w4 wr v ((js.take k).map (sftJ)))) (fun _ i _ => n - (intOf i).toNat)
  case atStart => exact ⟨0, Nat.zero_le _, rfl, Lib.hid (JIn.nil w4)⟩
  case round =>
    obtain ⟨k, hk, rfl, hI⟩ := hrel
    by_cases hlt : k < n
    · obtain ⟨rb, ro, x, C, cc, rfl, hx, hrb, hF0⟩ := FJ.out.get (k := k) (by rw [HN.out]; exact hlt)
      have hF := hF0.later hI.out.bel
      have c0 := hF.c0
      have c1 := hF.c1
      have c2 := hF.c2
      have c3 := hF.c3
      have c4 := hF.c4
      have hj0 : (0 : Int) ≤ (k : Int) := by omega
      have hj1 : (k : Int) < (n : Int) := by omega
      obtain ⟨gs, hG, hgs⟩ := hI.out.own
      have hgl : gs.length = k := by
        have := congrArg List.length hgs
        rw [List.length_map, List.length_map, List.length_take, HN.out] at this
        omega
      have har := SM.out.ar (by omega) x (List.mem_of_getElem? hx)
      have HG := Lib.hid hG
      have HGS := Lib.hid hgs
      have HGL := Lib.hid hgl
      have HF := Lib.hid hF
      have HX := Lib.hid hx
      have HBW := Lib.hid hI.out.bel
      have HAR := Lib.hid har
      clear hF hF0 hx hG hgs hgl hI har
      go_upto_region 10 with (fail)
      have F1 := Lib.hid (FB.new wr 46 (.int .i64 x.t) (.int .i64 x.a) (.int .i64 x.r) (.int .i64 x.k) (.slice none 0 0))
      have B1 : Hid (Below wr.heap.size wr (wr.alloc (.cells #[.int .i64 x.t, .int .i64 x.a, .int .i64 x.r, .int .i64 x.k, .slice none 0 0] 46))) := Lib.hid ((Below.refl _ _).alloc (Nat.le_refl _) _)
      generalize (wr.alloc (.cells #[.int .i64 x.t, .int .i64 x.a, .int .i64 x.r, .int .i64 x.k, .slice none 0 0] 46)) = W1 at *
      obtain ⟨bx, hbx⟩ : ∃ bx, bx = wr.heap.size := ⟨_, rfl⟩
      rw [← hbx] at F1 ⊢
      obtain ⟨z0, z1, z2, z3, z4⟩ := F1.out.z
      have G3 : Hid (GOk 46 w4.heap.size W1 ⟨sftJ x, none, 0⟩) := Lib.hid ⟨⟨HF.out.wf.t, HF.out.wf.a, HF.out.wf.r, HF.out.wf.k⟩, CRow.nil none 0 (by omega), fun hne a ha => by cases ha⟩
      have HFA := Lib.hid (fun j u hu => by
        have := (FAt.new W1 (sftJ x) none 0 46 G3.out.wf G3.out.s).r j u hu
        rw [Nat.zero_add] at this
        rw [add_none, Nat.zero_add]
        exact this : ∀ j u, (fvL (sftJ x) none 0)[j]? = some u → (W1.alloc (.cells #[.int .i64 x.t, .int .i64 x.a, .int .i64 x.r, .int .i64 x.k, .slice none 0 0] 46)).cell? ((⟨W1.heap.size, 0, none⟩ : Addr).add j) = some u)
      have HG2 := Lib.hid (HG.out.later B1.out)
      clear c0 c1 c2 c3 c4 hbx HF
      go_wp2_with (refine wpList_append_own _ rfl _ _ 27 rfl w4.heap.size 46 i0 _ 5 56 Tryz.underlying27 hi hz0 hz1 hz2 rfl (by decide) _ gs.length (gvC gs) rfl (HG2.out.row.alloc _) ⟨W1.heap.size, 0, none⟩ 1 1 (fvL (sftJ x) none 0) rfl rfl HFA.out (fvL_one _ _ _) (by have := HGL.out; unfold maxLen; omega) (by have := HGL.out; omega) (by have := HBW.out.size; have := B1.out.size; simp; omega) ?_; intro v' w8 hown' hgrow hnil')
      go_roundw
      case rel =>
        have ba : Below W1.heap.size W1 (W1.alloc (.cells #[.int .i64 x.t, .int .i64 x.a, .int .i64 x.r, .int .i64 x.k, .slice none 0 0] 46)) := (Below.refl _ _).alloc (Nat.le_refl _) _
        have hp := push_step HG2.out G3.out (bel_step HBW.out B1.out) ba hown' hgrow
        exact ⟨k + 1, by omega, by go_num, Lib.hid ⟨⟨_, hp.1, by rw [take_one HX.out, List.map_append, List.map_append, HGS.out]; rfl⟩, hp.2⟩⟩
      case measure => simp [intOf]; omega
    · obtain rfl : k = n := by omega
      obtain ⟨gs, hG, hgs⟩ := hI.out.own
      rw [List.take_of_length_le (by rw [HN.out]; exact Nat.le_refl _)] at hgs
      have hgl : gs.length = k := by
        have := congrArg List.length hgs
        rw [List.length_map, List.length_map, HN.out] at this
        exact this
      obtain ⟨A6, c6, hv6, hF6⟩ := hG.frow
      rw [hgl] at hv6
      rw [hgs] at hF6
      subst hv6
      have HBW := Lib.hid hI.out.bel
      have KR2 := Lib.hid (KR.out _ HBW.out)
      have F6 := Lib.hid hF6
      clear hG hgs hgl hI KR hF6
      go_upto_region 12 with (go_at_call 16; (with_reducible refine KR2.out.mono ?_); rintro e w5 ⟨A1, c1, B1', d1, rfl, hS, hE, hb1⟩; have HS := Lib.hid hS; have HE := Lib.hid hE; have HB5 := Lib.hid hb1; clear hS hE hb1)
      have KQ2 := Lib.hid (KQ.out A6 c6 _ (bel_step HBW.out HB5.out) (F6.out.later HB5.out))
      clear KQ
      go_upto_region 13 with (go_at_call 16; (with_reducible refine KQ2.out.mono ?_); rintro e w6 ⟨A2, c2, B2', d2, rfl, hS, hE, hb1⟩; have HS2 := Lib.hid hS; have HE2 := Lib.hid hE; have HB6 := Lib.hid hb1; clear hS hE hb1)
      have BB := Lib.hid (B4.out.trans ((bel_step (bel_step HBW.out HB5.out) HB6.out).mono B4.out.size))
      have HS := Lib.hid (HS.out.later HB6.out)
      have HE := Lib.hid (HE.out.later HB6.out)
      have s1 := HS.out.le
      have s2 := HS.out.mx
      have s3 := HS2.out.le
      have s4 := HS2.out.mx
      have e1 := HE.out.le
      have e2 := HE.out.mx
      have e3 := HE2.out.le
      have e4 := HE2.out.mx
      rw [HM.out] at s1
      rw [HM2.out] at s3
      rw [HEL.out] at e1
      rw [HEL2.out] at e3
      have hnn : ((k : Int) != (k : Int)) = false := by simp
      clear KR2 KQ2
      go_upto_region 14 with (fail)
      go_wp2
      go_loopw [17, 18, 19] (fun la en i wr2 => ∃ q : Nat, q ≤ k ∧ la = .int .i64 (mxS (es.take q)) ∧ en = .int .i64 (mxS (es2.take q)) ∧ i = .int .i64 (q : Int) ∧ Hid (Below w6.heap.size w6 wr2)) (fun _ _ i _ => k - (intOf i).toNat)
      case atStart => exact ⟨0, Nat.zero_le _, rfl, rfl, rfl, Lib.hid (Below.refl _ _)⟩
      case round =>
        obtain ⟨q, hq, rfl, rfl, rfl, hB⟩ := hrel
        by_cases hlq : q < k
        · have hql : q < es.length := by rw [HEL.out]; exact hlq
          have hql2 : q < es2.length := by rw [HEL2.out]; exact hlq
          obtain ⟨sb, sq, rfl, hsb, SP⟩ := HE.out.pin (by omega)
          obtain ⟨tb, tq, rfl, htb, TP⟩ := HE2.out.pin (by omega)
          have z0 := (SP.later hB.out) q hql
          have y0 := (TP.later hB.out) q hql2
          have m1 := Lib.hid (mxS_take hql)
          have m2' := Lib.hid (mxS_take hql2)
          generalize kO es q = x at *
          generalize kO es2 q = y at *
          have hj0 : (0 : Int) ≤ (q : Int) := by omega
          have hj1 : (q : Int) < (k : Int) := by omega
          clear SP TP hql hql2
          go_wp2
          go_roundw
          case rel => exact ⟨q + 1, by omega, by rw [m1.out], by rw [m2'.out], by go_num, hB⟩
          case measure => simp [intOf]; omega
        · obtain rfl : q = k := by omega
          rw [List.take_of_length_le (by rw [HEL.out]; exact Nat.le_refl _), List.take_of_length_le (by rw [HEL2.out]; exact Nat.le_refl _), HEN.out.mx]
          obtain ⟨L, hL⟩ : ∃ L, mxS es = L := ⟨_, rfl⟩
          rw [hL]
          have hLL : (L == L) = true := by simp
          by_cases h0 : q = 0
          · obtain ⟨g1, g2⟩ := HEN.out.no (by rw [HN.out]; exact h0)
            rw [HM.out] at g1
            rw [HM2.out] at g2
            subst h0 g1 g2
            clear HEN
            go_upto_region 22 with (fail)
            go_quiet (fail)
            go_wp2
            go_ret
            exact ⟨rfl, BB.out.trans ((hB.out.trans ((below_drewN2 _ _).mono hB.out.size)).mono BB.out.size)⟩
          · have hp := by have h := HN.out; exact (show 0 < js.length by omega)
            obtain ⟨g1, g2⟩ := HEN.out.ye hp
            obtain ⟨g3, g4⟩ := HEN.out.la hp
            have g5 := HEN.out.fi hp
            obtain ⟨sb, sq, rfl, hsb, SP⟩ := HS.out.pin g1
            obtain ⟨tb, tq, rfl, htb, TP⟩ := HS2.out.pin g2
            obtain ⟨-, a1, -⟩ := (SP.later hB.out) 0 g1
            obtain ⟨-, b1, -⟩ := (TP.later hB.out) 0 g2
            obtain ⟨-, -, a2⟩ := (SP.later hB.out) (sp.length - 1) (by omega)
            obtain ⟨-, -, b2⟩ := (TP.later hB.out) (sp2.length - 1) (by omega)
            rw [g3, hL] at a2
            rw [g4, hL] at b2
            rw [← g5] at b1
            rw [HM.out] at a2 g1
            rw [HM2.out] at b2 g2
            generalize (spG sp 0).f = f0 at *
            obtain ⟨p, hp1⟩ : ∃ p : Nat, p = m - 1 := ⟨_, rfl⟩
            obtain ⟨p2, hp2⟩ : ∃ p : Nat, p = m2 - 1 := ⟨_, rfl⟩
            rw [← hp1] at a2
            rw [← hp2] at b2
            have hw1 : IntKind.i64.wrap ((m : Int) - 1) = (p : Int) := by rw [IntWalk.i64_in _ (by omega)]; omega
            have hw2 : IntKind.i64.wrap ((m2 : Int) - 1) = (p2 : Int) := by rw [IntWalk.i64_in _ (by omega)]; omega
            have u0 : (0 : Int) ≤ (p : Int) := by omega
            have u1 : (p : Int) < (m : Int) := by omega
            have u2 : (0 : Int) ≤ (p2 : Int) := by omega
            have u3 : (p2 : Int) < (m2 : Int) := by omega
            have u4 : (0 : Int) < (m : Int) := by omega
            have u5 : (0 : Int) < (m2 : Int) := by omega
            have v1 : ((m : Int) == 0) = false := by rw [beq_eq_false_iff_ne]; omega
            have v2 : ((m2 : Int) == 0) = false := by rw [beq_eq_false_iff_ne]; omega
            have v3 : ((q : Int) == 0) = false := by rw [beq_eq_false_iff_ne]; omega
            have hff : (f0 == f0) = true := by simp
            clear HEN SP TP g1 g2 g3 g4 g5 hp1 hp2 hp hL
            go_upto_region 22 with (fail)
            go_quiet (fail)
            go_wp2
            go_ret
            exact ⟨rfl, BB.out.trans ((hB.out.trans ((below_drewN2 _ _).mono hB.out.size)).mono BB.out.size)⟩
end Go.Proofs.YtkpackbbahodcaaGreat
