/- Texts about the program, one after the other: ERr, EGot, KEndW, PNum, KWor, KMis, PRes. -/
import Derived.Test.YtngmaiiibinkaaaG5
import Derived.Test.YtngmaiiibinkaaaRLeg
import Derived.Test.YtngmaiiibinkaaaG3
import Derived.Test.YtngmaiiibinkaaaG2
/- The document's run without an end. -/
namespace Go.Proofs.Ytngmaiiibinkaaa
open Go.RowKit
set_option linter.unusedVariables false
set_option linter.unusedSimpArgs false
attribute [local go_sem ↓] Go.wp_at_zero Go.wp_at_succ
theorem RuH.later {w w' : World} {A R : Option Addr} {cap rc : Nat} {ts : List Ts} {js : List Fv} (h : RuH w A R cap rc ts js) (hb : Below w.heap.size w w') : RuH w' A R cap rc ts js :=
  ⟨h.row.later hb, h.jobs.later hb, h.lg, h.t0, h.bd, h.ft, h.fj, h.tot⟩
set_option maxRecDepth 100000 in
set_option maxHeartbeats 8000000 in
theorem rrun_good {A R : Option Addr} {cap rc : Nat} {ts : List Ts} {js : List Fv} (w : World) (H : RuH w A R cap rc ts js) (hl : legS ts js = true) :
    Calls Try.prog 8 #[.slice A ts.length cap, .slice R js.length rc] w (RuP ts js 9223372036854775807 w) := by
  obtain ⟨W1, hW1, box0, B0⟩ : ∃ W1, w.alloc (.cells #[.slice none 0 0, .slice none 0 0, .slice none 0 0] TGo) = W1 ∧ W1.heap[w.heap.size]? = some (.cells #[.slice none 0 0, .slice none 0 0, .slice none 0 0] TGo (0, 0)) ∧ Below w.heap.size w W1 := ⟨_, rfl, heap_alloc_new w _, (Below.refl _ _).alloc (Nat.le_refl _) _⟩
  have H1 := Lib.hid (H.later B0)
  have LG := Lib.hid (rlegal_any A R cap rc ts js W1 H1.out.row H1.out.jobs)
  rw [hl] at LG
  have BX := Lib.hid box0
  have HB0 := Lib.hid B0
  clear H hl box0 B0
  go_enter Try.func8, Try.ntmps8
  go_upto_region 1 with (fail)
  try rw [hW1]
  clear hW1
  go_wp2_with (first
    | (go_at_call 17; (with_reducible refine LG.out.mono ?_); rintro e w2 ⟨rfl, h2⟩; have B2 := Lib.hid h2; have UN := Lib.hid (runtil_any (en := -1) (T := 9223372036854775807) w2 (H1.out.later h2) (.inr ⟨by decide, by decide, rfl⟩)); clear h2)
    | (go_at_call 18; (with_reducible refine UN.out.mono ?_); rintro e w3 ⟨vs, ge, gd, rfl, h3, h4, h5⟩
       obtain ⟨VA, vcp, rfl, -, -⟩ := own_len h3
       have hs0 := HB0.out.size
       have hs2 := B2.out.size
       have bx3 := (KT.of (S := []) h5).blk _ _ _ ((KT.of (S := []) B2.out).blk _ _ _ BX.out (by simp)) (by simp)
       have z0 := cell_of_row _ w.heap.size 0 _ _ _ bx3
       have z1 := cell_of_row _ w.heap.size 1 _ _ _ bx3
       have z2 := cell_of_row _ w.heap.size 2 _ _ _ bx3
       simp only [List.getElem?_toArray, List.getElem?_cons_zero, List.getElem?_cons_succ] at z0 z1 z2
       have f0 := frozen_of_row _ w.heap.size 0 _ _ bx3
       have f1 := frozen_of_row _ w.heap.size 1 _ _ bx3
       have f2 := frozen_of_row _ w.heap.size 2 _ _ bx3
       have B3 := Lib.hid ((HB0.out.trans (B2.out.mono hs0)).trans (h5.mono (by omega)))
       have S3 := Lib.hid (own_mono h3 (show w.heap.size ≤ w2.heap.size by omega))
       have E3 := Lib.hid (own_mono h4 (show w.heap.size ≤ w2.heap.size by omega))
       have e1 := heap_setCell_same _ _ 0 _ _ (.slice VA (tst ts js 9223372036854775807).sp.length vcp) bx3
       have e2 := heap_setCell_same _ _ 1 _ _ (.slice (some ⟨ge, 0, none⟩) js.length js.length) e1
       have e3 := Lib.hid (heap_setCell_same _ _ 2 _ _ (.slice (some ⟨gd, 0, none⟩) js.length js.length) e2)
       have k := Lib.hid (((KT.set (i := 0) (v := .slice VA (tst ts js 9223372036854775807).sp.length vcp) bx3 (S := [TGo]) (by simp)).trans (KT.set (i := 1) (v := .slice (some ⟨ge, 0, none⟩) js.length js.length) e1 (by simp))).trans (KT.set (i := 2) (v := .slice (some ⟨gd, 0, none⟩) js.length js.length) e2 (by simp)))
       clear h3 h4 h5 bx3 e1 e2))
  (try simp only [Exit.inBlock, Exit.then])
  exact bodyPost_ret (v := .agg #[.slice VA (tst ts js 9223372036854775807).sp.length vcp, .slice (some ⟨ge, 0, none⟩) js.length js.length, .slice (some ⟨gd, 0, none⟩) js.length js.length]) (results_got10 rfl _ _ _ rfl e3.out) rfl (by
    unfold RuP RuQ
    exact ⟨_, ge, gd, rfl, k.out.row S3.out (by decide), k.out.row E3.out (by decide), ((B3.out.setCell (p := ⟨w.heap.size, 0, none⟩) (Nat.le_refl _) _).setCell (p := ⟨w.heap.size, 1, none⟩) (Nat.le_refl _) _).setCell (p := ⟨w.heap.size, 2, none⟩) (Nat.le_refl _) _⟩)
end Go.Proofs.Ytngmaiiibinkaaa
/- The document's run, as the laws call it. -/
namespace Go.Proofs.Ytngmaiiibinkaaa
open Go.RowKit
set_option linter.unusedVariables false
set_option linter.unusedSimpArgs false
section
variable {ss : List Ts} {js : List Fv} {M n : Nat} {A R : Option Addr} {cap rc : Nat}
theorem ruh_sm (h : Sm ss js M n) (hn : n ≤ 10) (w : World) (hT : Row w A cap ss) (hR : FRow w R rc js) : RuH w A R cap rc ss js :=
  ⟨hT, hR, h.lgs, h.t, fun i hi => by have := h.arb hn hi; omega, by have := h.sM; have := h.M8; omega, by have := h.le; omega, by have := h.tot hn; omega⟩
/-- The document's spans, and ends. -/
def GotJ (sp : List Spn) (en : List Int) (w : World) (e : Ending) (w' : World) : Prop := ∃ A c B d D, e = .returned (.agg #[.slice A sp.length c, .slice B en.length d, .slice D en.length en.length]) ∧ SpR w' A c sp ∧ CRow w' B d en ∧ Below w.heap.size w w'
theorem rup_got (hl : Lg js) {T : Nat} (hT : T ≤ 9223372036854775807) (w : World) (e : Ending) (w' : World) (h : RuP ss js T w e w') : GotJ (tst ss js T).sp (tst ss js T).en w e w' := by
  obtain ⟨vs, ge, gd, rfl, h1, h2, h3⟩ := h
  obtain ⟨A, c, rfl, F⟩ := spr_own h1
  have hle := (ti_all (ts := ss) hl T).le
  obtain ⟨B, d, hv, hn, G, _⟩ := crow_own h2 (en_bd hl hT)
  simp only [Value.slice.injEq] at hv
  obtain ⟨rfl, _, rfl⟩ := hv
  exact ⟨A, c, _, _, _, by rw [hle], F, G, h3⟩
theorem rrun_sm (h : Sm ss js M n) (hn : n ≤ 10) (w : World) (hT : Row w A cap ss) (hR : FRow w R rc js) : Calls Try.prog 8 #[.slice A ss.length cap, .slice R js.length rc] w (GotJ (tst ss js 9223372036854775807).sp (tst ss js 9223372036854775807).en w) :=
  (rrun_good w (ruh_sm h hn w hT hR) h.lg).mono (rup_got h.lgs (Nat.le_refl _) w)
theorem runtil_sm (h : Sm ss js M n) (hn : n ≤ 10) (en : Int) (h0 : 0 ≤ en) (he : en ≤ 9000000000000000000) (w : World) (hT : Row w A cap ss) (hR : FRow w R rc js) : Calls Try.prog 18 #[.slice A ss.length cap, .slice R js.length rc, .int .i64 en] w (GotJ (tst ss js en.toNat).sp (tst ss js en.toNat).en w) :=
  (runtil_any w (ruh_sm h hn w hT hR) (.inl ⟨h0, rfl, he⟩)).mono (rup_got h.lgs (by omega) w)
end
end Go.Proofs.Ytngmaiiibinkaaa
/- trace.Ends: its walk. -/
namespace Go.Proofs.Ytngmaiiibinkaaa
open Go.RowKit Go.Shelf
set_option linter.unusedVariables false
set_option linter.unusedSimpArgs false
attribute [local go_sem ↓] Go.wp_at_zero Go.wp_at_succ
theorem EdS.start {w w2 : World} {g n B : Nat} {js : List Fv} (h : w2.ownsRow B T64 1 (.slice (some ⟨g, 0, none⟩) n n) n (List.replicate n (.int .i64 (-1)))) (hB : w.heap.size ≤ B) (hb : Below w.heap.size w w2) : EdS w g w2.heap.size n js [] (w2.alloc (.map #[] 0)) := by
  have hb2 : Below w2.heap.size w2 (w2.alloc (.map #[] 0)) := (Below.refl _ _).alloc (Nat.le_refl _) _
  have e : numL (List.replicate n (-1)) = List.replicate n (.int .i64 (-1)) := by simp [numL]
  refine ⟨⟨List.replicate n (-1), ?_, by simp, fun i hi => ?_⟩, (MapI.made w2).of (fun s => ?_), hb.trans (hb2.mono hb.size), hb.size, ?_⟩
  · rw [e]; exact (Kept.of [] hb2).row (own_base h hB) (by simp)
  · rw [kO_rep _ _ _ hi]; rfl
  · unfold ranQ; rw [if_neg (by simp [totQ])]
  · have := (h.lt g rfl).2; omega
theorem mul9 {a b : Int} (ha : -1000000000000000000 ≤ a ∧ a ≤ 1000000000000000000) (hb : -1000000000000000000 ≤ b ∧ b ≤ 1000000000000000000) : wrap64 (a - b) = a - b ∧ wrap64 (a + b) = a + b := ⟨IntWalk.wrap64_in _ (by omega), IntWalk.wrap64_in _ (by omega)⟩
theorem max0 {a : Int} (h : 0 < a) : max 0 a = a := by omega
set_option maxRecDepth 100000 in
set_option maxHeartbeats 8000000 in
theorem ends_any {A R : Option Addr} {cap rc : Nat} {js : List Fv} {l : List Sq} (w : World) (hJ : FRow w R rc js) (hS : SqR w A cap l) (H : EdH js l) : Calls Try.prog 20 #[.slice R js.length rc, .slice A l.length cap] w (EndP js l w) := by
  obtain ⟨n, hn⟩ : ∃ n, js.length = n := ⟨_, rfl⟩
  obtain ⟨m, hm⟩ : ∃ m, l.length = m := ⟨_, rfl⟩
  have fj := H.fj
  have fl := H.fl
  have hle := hS.le
  have hmx := hS.mx
  have jle := hJ.le
  have jmx := hJ.mx
  rw [hn] at fj jle
  rw [hm] at fl hle
  have HJ := Lib.hid hJ
  have HS := Lib.hid hS
  have HH := Lib.hid H
  have HN := Lib.hid hn
  have HM := Lib.hid hm
  have hx0 : (w.alloc (.cells #[.int .i64 (-1)] T64)).cell? ⟨w.heap.size, 0, none⟩ = some (.int .i64 (-1)) := by
    rw [cell_of_row _ _ _ _ _ _ (heap_alloc_new w _)]; rfl
  have KR := Lib.hid (repeat_any n w.heap.size fj _ hx0)
  have PP := Lib.hid (fun g r wr (h : EdS w g r n js l wr) => h.done hn.symm H)
  have K1 := Lib.hid (fun i hi => (H.k1 i hi).1)
  have KI := Lib.hid (fun i n W => isPlace_any i n W)
  have hmm := @run_makeMap Try.prog
  rw [hn, hm]
  clear hJ hS H hn hm hx0
  generalize hPP : EndP js l w = Post at *
  clear hPP
  go_enter Try.func20, Try.ntmps20
  go_upto_region 2 with (go_at_call 37; (with_reducible refine KR.out.mono ?_); rintro e w2 ⟨g, rfl, hg, ho, hb⟩; have HG := Lib.hid hg; have HO := Lib.hid ho; have HB := Lib.hid hb; clear hg ho hb)
  go_upto_region 3 with (fail)
  have ba : Below w.heap.size w (w.alloc (.cells #[.int .i64 (-1)] T64)) := (Below.refl _ _).alloc (Nat.le_refl _) _
  have HS0 := Lib.hid (EdS.start (js := js) HO.out (by simp) (ba.trans (HB.out.mono (by simp))))
  obtain ⟨r, hr⟩ : ∃ r, w2.heap.size = r := ⟨_, rfl⟩
  obtain ⟨W3, hW3⟩ : ∃ W3, w2.alloc (.map #[] 0) = W3 := ⟨_, rfl⟩
  rw [hr, hW3] at HS0 ⊢
  clear KR HG HO HB ba hr hW3 hmm
  go_wp2
  go_loopw [21] (fun i wr => ∃ k : Nat, k ≤ m ∧ i = .int .i64 (k : Int) ∧ Hid (EdS w g r n js (l.take k) wr)) (fun i _ => m - (intOf i).toNat)
  case atStart => exact ⟨0, Nat.zero_le _, rfl, HS0⟩
  case round =>
    obtain ⟨k, hk, rfl, hE⟩ := hrel
    by_cases hlt : k < m
    · obtain ⟨b, o, x, rfl, hx, hbl, a0, a1, a2⟩ := (HS.out.later hE.out.bel).get (k := k) (by rw [HM.out]; exact hlt)
      have hi0 : (0 : Int) ≤ (k : Int) := by omega
      have hi1 : (k : Int) < (m : Int) := by omega
      have HT := Lib.hid (show l.take (k + 1) = l.take k ++ [x] by rw [List.take_add_one, hx]; rfl)
      have HBX := Lib.hid (HH.out.bd x (List.mem_of_getElem? hx))
      have HWX := Lib.hid (HS.out.wf x (List.mem_of_getElem? hx))
      clear hx hbl
      go_upto_region 6 with (fail)
      have HE1 := Lib.hid (hE.out.later ((Below.refl _ _).alloc (Nat.le_refl _) (.cells #[.int .i64 x.j, .int .i64 x.f, .int .i64 x.t] TSp)))
      have hgx : g < wr.heap.size := by
        obtain ⟨es, h1, -, -⟩ := hE.out.own
        exact (h1.lt g rfl).2
      have Z := Lib.hid (cells3 wr TSp (.int .i64 x.j) (.int .i64 x.f) (.int .i64 x.t))
      obtain ⟨xb, hxb⟩ : ∃ xb, wr.heap.size = xb := ⟨_, rfl⟩
      rw [hxb] at Z hgx ⊢
      have HGX := Lib.hid hgx
      clear hgx
      generalize wr.alloc (.cells #[.int .i64 x.j, .int .i64 x.f, .int .i64 x.t] TSp) = W1 at *
      obtain ⟨z0, z1, z2⟩ := Z.out
      have hln0 := (mul9 (a := x.t) (b := x.f) ⟨HBX.out.2.2.1, HBX.out.2.2.2⟩ ⟨HBX.out.1, HBX.out.2.1⟩).1
      obtain ⟨ln, hLN⟩ : ∃ ln, x.t - x.f = ln := ⟨_, rfl⟩
      have hln := hln0.trans hLN
      clear hln0
      have HLN := Lib.hid hLN
      clear hxb a0 a1 a2 hLN hE Z
      by_cases hp : 0 ≤ x.j ∧ x.j < (n : Int)
      · have p1 : decide (0 ≤ x.j) = true := decide_eq_true hp.1
        have p2 : decide (x.j < (n : Int)) = true := decide_eq_true hp.2
        have KP := Lib.hid (fun W => KI.out x.j n W)
        rw [p1, p2] at KP
        obtain ⟨i, hi⟩ : ∃ i : Nat, x.j = (i : Int) := ⟨x.j.toNat, by omega⟩
        have HX := Lib.hid hi
        have hin : i < n := by omega
        clear hp
        rw [hi] at z0 KP p1 p2
        clear hi
        have arm := True.intro
        by_cases hl0 : ln ≤ 0
        · have HE2 := Lib.hid (HE1.out.skip (x := x) K1.out HN.out.symm (.inr (by rw [HLN.out]; exact hl0)))
          rw [← HT.out] at HE2
          have t1 : decide (ln ≤ 0) = true := decide_eq_true hl0
          clear hl0
          go_upto_region 8 with (go_at_call 38; (with_reducible refine (KP.out _).mono ?_); rintro e w5 ⟨rfl, rfl⟩)
          go_roundw
          case rel => exact ⟨k + 1, by omega, by go_num, HE2⟩
          case measure => simp [intOf]; omega
        · have t1 : decide (ln ≤ 0) = false := decide_eq_false hl0
          obtain ⟨bj, oj, y, C, cc, rfl, hy, hbj, hF⟩ := (HJ.out.later HE1.out.bel).get (k := i) (by rw [HN.out]; exact hin)
          have hc3 := hF.c3
          have hyk : (jb js i).k = y.k := by rw [jb_get hy]
          have ii0 : (0 : Int) ≤ (i : Int) := by omega
          have ii1 : (i : Int) < (n : Int) := by omega
          have hlk := HE1.out.look K1.out HN.out.symm hin
          have HW := Lib.hid (HH.out.k1 i (by rw [HN.out]; exact hin))
          rw [hyk] at hlk HW
          have HYK := Lib.hid hyk
          have HIN := Lib.hid hin
          have HL0 := Lib.hid hl0
          have h0 := totQ_pos (i : Int) (l.take k)
          obtain ⟨W, hW⟩ : ∃ W, y.k = W := ⟨_, rfl⟩
          obtain ⟨tt, htt⟩ : ∃ tt, totQ (i : Int) (l.take k) = tt := ⟨_, rfl⟩
          have HTT := Lib.hid htt
          rw [hW] at hlk HW hc3 HYK
          rw [htt] at hlk h0
          clear hF hy hyk hbj hin hl0 htt hW
          by_cases hpast : W ≤ tt
          · have HE2 := Lib.hid (HE1.out.past (x := x) K1.out HN.out.symm HIN.out HX.out (by rw [HYK.out, HTT.out]; exact hpast))
            rw [← HT.out] at HE2
            have h01 : 0 < tt := by have := HW.out; omega
            have e1 : min W tt = W := by omega
            rw [e1, decide_eq_true h01] at hlk
            have t2 : decide (W ≥ W) = true := decide_eq_true (Int.le_refl _)
            have t3 : decide (W ≤ W) = true := decide_eq_true (Int.le_refl _)
            clear h0 hpast h01 e1
            go_upto_region 11 with (go_at_call 38; (with_reducible refine (KP.out _).mono ?_); rintro e w5 ⟨rfl, rfl⟩)
            go_roundw
            case rel => exact ⟨k + 1, by omega, by go_num, HE2⟩
            case measure => simp [intOf]; omega
          · have e1 : min W tt = tt := by omega
            rw [e1] at hlk
            have HLT := Lib.hid (show tt < W ∧ 0 ≤ tt by omega)
            have t2 : decide (tt ≥ W) = false := decide_eq_false (by omega)
            have t3 : decide (W ≤ tt) = false := decide_eq_false (by omega)
            obtain ⟨lf, hlf⟩ : ∃ lf, W - tt = lf := ⟨_, rfl⟩
            have hw20 := (mul9 (a := W) (b := tt) (by have := HW.out; omega) (by have := HW.out; omega)).1
            have hlf0 : 0 < lf := by omega
            have hw2 := hw20.trans hlf
            clear hw20
            have hm0 := max0 hlf0
            have HLF := Lib.hid (show W - tt = lf ∧ 0 < lf by omega)
            obtain ⟨bg, hbg⟩ : ∃ bg, decide (0 < tt) = bg := ⟨_, rfl⟩
            rw [hbg] at hlk
            clear h0 hpast e1 hbg hlf hlf0
            have hK := Lib.hid (fun i hi => K1.out i hi)
            have HKW := Lib.hid (show (jb js i).k = W from HYK.out)
            by_cases hend : lf ≤ ln
            · have t4 : decide (lf ≤ ln) = true := decide_eq_true hend
              have e2 : min lf ln = lf := by omega
              have e2' : min ln lf = lf := by omega
              have hw3 := (mul9 (a := x.f) (b := lf) ⟨HBX.out.1, HBX.out.2.1⟩ (by have := HLF.out; have := HW.out; have := HLT.out; omega)).2
              obtain ⟨ev, hev⟩ : ∃ ev, x.f + lf = ev := ⟨_, rfl⟩
              have hw3' := hw3.trans hev
              have hw4 : wrap64 (tt + lf) = W := (mul9 (a := tt) (b := lf) (by have := HW.out; have := HLT.out; omega) (by have := HLF.out; have := HW.out; have := HLT.out; omega)).2.trans (by have := HLF.out; omega)
              obtain ⟨o, ho, HE2⟩ := HE1.out.ends (x := x) (v := W) (e := ev) K1.out HN.out.symm HIN.out HX.out (by rw [HLN.out]; have := HL0.out; omega) (by rw [HTT.out, HKW.out]; exact HLT.out.1) (by rw [HTT.out, HKW.out, HLN.out]; have := HLF.out; omega) HKW.out.symm (by rw [HTT.out, HKW.out, ← hev]; have := HLF.out; omega)
              rw [← HT.out] at HE2
              have fz := HE1.out.fz (Nat.lt_of_le_of_lt (Nat.zero_le _) HIN.out) i
              obtain ⟨cv, hcv⟩ := HE1.out.cell HIN.out
              have HEV := Lib.hid HE2
              obtain ⟨bs, hgr⟩ : ∃ q : Hid (g ≠ r), True := ⟨Lib.hid HE1.out.ne, trivial⟩
              have z0' : (W1.setCell ⟨g, i, none⟩ (.int .i64 ev)).cell? ⟨xb, 0, none⟩ = some (.int .i64 (i : Int)) := (World.cell?_of_block (w := W1) (a := ⟨xb, 0, none⟩) (Below.heap_setCell _ _ _ _ (fun e => by have h1 : xb = g := e; have := HGX.out; omega))).trans z0
              clear hend hw3 hev HE2 hgr
              go_upto_region 13 with (go_at_call 38; (with_reducible refine (KP.out _).mono ?_); rintro e w5 ⟨rfl, rfl⟩)
              all_goals
                go_wp2
                go_roundw
                case rel => exact ⟨k + 1, by omega, by go_num, HEV⟩
                case measure => simp [intOf]; omega
            · have t4 : decide (lf ≤ ln) = false := decide_eq_false hend
              have e2 : min lf ln = ln := by omega
              have e2' : min ln lf = ln := by omega
              have hw3 := (mul9 (a := tt) (b := ln) (by have := HW.out; have := HLT.out; omega) (by have := HLF.out; have := HW.out; have := HL0.out; have := HLT.out; omega)).2
              obtain ⟨ev, hev⟩ : ∃ ev, tt + ln = ev := ⟨_, rfl⟩
              have hw3' := hw3.trans hev
              obtain ⟨o, ho, HE2⟩ := HE1.out.more (x := x) (v := ev) K1.out HN.out.symm HIN.out HX.out (by rw [HLN.out]; have := HL0.out; omega) (by rw [HTT.out, HKW.out]; exact HLT.out.1) (by rw [HTT.out, HKW.out, HLN.out]; have := HLF.out; omega) (by rw [HTT.out, HLN.out, hev])
              rw [← HT.out] at HE2
              have HEV := Lib.hid HE2
              clear hend hw3 hev HE2
              go_upto_region 15 with (go_at_call 38; (with_reducible refine (KP.out _).mono ?_); rintro e w5 ⟨rfl, rfl⟩)
              all_goals
                go_wp2
                go_roundw
                case rel => exact ⟨k + 1, by omega, by go_num, HEV⟩
                case measure => simp [intOf]; omega
      · have hpf : (decide (0 ≤ x.j) && decide (x.j < (n : Int))) = false := by
          rw [Bool.and_eq_false_iff]
          by_cases h : 0 ≤ x.j
          · exact .inr (decide_eq_false (by omega))
          · exact .inl (decide_eq_false h)
        have KP := Lib.hid (fun W => KI.out x.j n W)
        rw [hpf] at KP
        have HE2 := Lib.hid (HE1.out.skip (x := x) K1.out HN.out.symm (.inl hp))
        rw [← HT.out] at HE2
        clear hp hpf
        go_upto_region 8 with (go_at_call 38; (with_reducible refine (KP.out _).mono ?_); rintro e w5 ⟨rfl, rfl⟩)
        go_roundw
        case rel => exact ⟨k + 1, by omega, by go_num, HE2⟩
        case measure => simp [intOf]; omega
    · obtain rfl : k = m := by omega
      have HL : Hid (EdS w g r n js l wr) := Lib.hid (by have := hE.out; rw [List.take_of_length_le (by rw [HM.out]; exact Nat.le_refl _)] at this; exact this)
      go_wp2
      exact PP.out _ _ _ HL.out
end Go.Proofs.Ytngmaiiibinkaaa
/- A row of ticks made by appends; the document's Ends. -/
namespace Go.Proofs.Ytngmaiiibinkaaa
open Go.RowKit Go.Shelf
set_option linter.unusedVariables false
set_option linter.unusedSimpArgs false
attribute [local go_sem ↓] Go.wp_at_zero Go.wp_at_succ
structure NuS (w0 : World) (v : Value) (l : List Int) (w : World) : Prop where
  own : w.ownsRow w0.heap.size T64 1 v l.length (numL l)
  bel : Below w0.heap.size w0 w
theorem NuS.later {w0 w w' : World} {v : Value} {l : List Int} (h : NuS w0 v l w) (hb : Below w.heap.size w w') : NuS w0 v l w' := ⟨(Kept.of [] hb).row h.own (by simp), h.bel.trans (hb.mono h.bel.size)⟩
theorem NuS.push {w0 w W1 w' : World} {v v' : Value} {l : List Int} {k : Int} (h : NuS w0 v l w) (hb : Below w.heap.size w W1) (ho : w'.ownsRow w0.heap.size T64 1 v' (l.length + 1) (numL l ++ [.int .i64 k])) (hg : W1.grownBy w' v.ownBlock) : NuS w0 v' (l ++ [k]) w' := by
  have e : numL (l ++ [k]) = numL l ++ [.int .i64 k] := by simp [numL]
  refine ⟨by rw [e, List.length_append, List.length_singleton]; exact ho, (h.bel.trans (hb.mono h.bel.size)).grown hg ?_ (fun q hq => (h.own.lt q hq).1)⟩
  have := h.bel.size
  have := hb.size
  omega
def NumP (l : List Int) (w : World) (e : Ending) (w' : World) : Prop := ∃ A c, e = .returned (.slice A l.length c) ∧ CRow w' A c l ∧ Below w.heap.size w w'
theorem NuS.done {w0 w : World} {v : Value} {l : List Int} (h : NuS w0 v l w) (hl : ∀ i ∈ l, in64 i) : NumP l w0 (.returned v) w := by
  obtain ⟨A, c, hv, hn, hC, _⟩ := crow_own h.own hl
  exact ⟨A, c, by rw [hv], hC, h.bel⟩
def endsT (js : List Fv) (l : List Sq) (n : Nat) : List Int := (List.range n).map fun (i : Nat) => endQ (i : Int) (jb js i).k l
theorem endsT_succ (js : List Fv) (l : List Sq) (n : Nat) : endsT js l (n + 1) = endsT js l n ++ [endQ (n : Int) (jb js n).k l] := by simp [endsT, List.range_succ]
theorem endsT_len (js : List Fv) (l : List Sq) (n : Nat) : (endsT js l n).length = n := by simp [endsT]
/-- What is left of the i-th job's Work, and where it ended, behind some spans. -/
structure LfI (i W : Int) (l : List Sq) (left en : Int) : Prop where
  lt : totQ i l < W → left = W - totQ i l ∧ en = -1
  ge : W ≤ totQ i l → en = endQ i W l ∧ 0 ≤ en
  bl : -3000000000000000000 ≤ left ∧ left ≤ 1000000000000000000
theorem LfI.en {i W : Int} {l : List Sq} {left en : Int} (h : LfI i W l left en) (hW : 1 ≤ W) : en = endQ i W l := by
  by_cases hc : totQ i l < W
  · rw [(h.lt hc).2, endQ_no i l W hc]
  · exact (h.ge (by omega)).1
theorem LfI.start {i W : Int} (hW : 1 ≤ W ∧ W ≤ 1000000000000000000) : LfI i W [] W (-1) :=
  ⟨fun _ => ⟨by simp [totQ], rfl⟩, fun h => by simp [totQ] at h; omega, by omega⟩
theorem LfI.skip {i W : Int} {l : List Sq} {left en : Int} {x : Sq} (h : LfI i W l left en) (hW : 1 ≤ W) (hx : x.j ≠ i ∨ x.t - x.f ≤ 0 ∨ 0 ≤ en) : LfI i W (l ++ [x]) left en := by
  have h0 := totQ_pos i l
  have hs := endQ_snoc i x l W hW
  have ht := totQ_app i l [x]
  rw [totQ_one] at ht
  by_cases hc : totQ i l < W
  · obtain ⟨e1, e2⟩ := h.lt hc
    have hn : ¬ (x.j = i ∧ 0 < x.t - x.f) := by omega
    rw [if_neg hn] at ht
    exact ⟨fun _ => ⟨by omega, e2⟩, fun h3 => by omega, h.bl⟩
  · obtain ⟨e1, e2⟩ := h.ge (by omega)
    have h1 : totQ i l ≤ totQ i (l ++ [x]) := by rw [ht]; split <;> omega
    rw [if_pos (by omega)] at hs
    exact ⟨fun h3 => by omega, fun _ => ⟨by rw [hs]; exact e1, e2⟩, h.bl⟩
theorem LfI.run {i W : Int} {l : List Sq} {left en : Int} {x : Sq} (h : LfI i W l left en) (hW : 1 ≤ W) (hj : x.j = i) (hn : 0 < x.t - x.f) (hb : 0 ≤ x.f ∧ x.f ≤ 1000000000000000000 ∧ x.t ≤ 1000000000000000000) (he : en < 0) :
    1 ≤ left ∧ LfI i W (l ++ [x]) (left - (x.t - x.f)) (if left ≤ x.t - x.f then x.f + left else en) := by
  have h0 := totQ_pos i l
  have hs := endQ_snoc i x l W hW
  have ht := totQ_app i l [x]
  rw [totQ_one, if_pos ⟨hj, hn⟩] at ht
  have hc : totQ i l < W := by
    by_cases hc : totQ i l < W
    · exact hc
    · have := h.ge (by omega); omega
  obtain ⟨e1, e2⟩ := h.lt hc
  have hbl := h.bl
  rw [if_neg (by omega), if_pos ⟨hj, hn⟩] at hs
  refine ⟨by omega, fun h3 => ⟨by omega, by rw [if_neg (by omega)]; exact e2⟩, fun h3 => ?_, by omega⟩
  rw [if_pos (by omega)]
  rw [if_pos (by omega)] at hs
  exact ⟨by rw [hs]; omega, by omega⟩
set_option maxRecDepth 100000 in
set_option maxHeartbeats 8000000 in
theorem rends_any {A R : Option Addr} {cap rc : Nat} {js : List Fv} {l : List Sq} (w : World) (hJ : FRow w R rc js) (hS : SqR w A cap l) (H : EdH js l) (hp : ∀ x ∈ l, 0 ≤ x.f) : Calls Try.prog 21 #[.slice R js.length rc, .slice A l.length cap] w (NumP (endsQ js l) w) := by
  obtain ⟨i0, hi, hz0, hz1, hz2⟩ := info_parts info64
  obtain ⟨n, hn⟩ : ∃ n, js.length = n := ⟨_, rfl⟩
  obtain ⟨m, hm⟩ : ∃ m, l.length = m := ⟨_, rfl⟩
  have fj := H.fj
  have fl := H.fl
  have hle := hS.le
  have hmx := hS.mx
  have jle := hJ.le
  have jmx := hJ.mx
  rw [hn] at fj jle
  rw [hm] at fl hle
  have PP := Lib.hid (fun v wr (h : NuS w v (endsT js l n) wr) => show NumP (endsQ js l) w (.returned v) wr from by
    have e : endsT js l n = endsQ js l := by rw [← hn]; rfl
    rw [e] at h
    exact h.done (endsQ_bd H))
  have HJ := Lib.hid hJ
  have HS := Lib.hid hS
  have HH := Lib.hid H
  have HP := Lib.hid hp
  have HN := Lib.hid hn
  have HM := Lib.hid hm
  have HTK := Lib.hid (show l.take m = l by rw [← hm]; exact List.take_length)
  have HET := Lib.hid (fun k => endsT_len js l k)
  rw [hn, hm]
  clear hJ hS H hp hn hm
  generalize hPP : NumP (endsQ js l) w = Post at *
  clear hPP
  go_enter Try.func21, Try.ntmps21
  go_wp2
  go_loopw [5, 6] (fun v i wr => ∃ k : Nat, k ≤ n ∧ i = .int .i64 (k : Int) ∧ Hid (NuS w v (endsT js l k) wr)) (fun _ i _ => n - (intOf i).toNat)
  case atStart => exact ⟨0, Nat.zero_le _, rfl, Lib.hid ⟨World.ownsRow_nil _ _ _ _, Below.refl _ _⟩⟩
  case round =>
    obtain ⟨k, hk, rfl, hE⟩ := hrel
    by_cases hlt : k < n
    · obtain ⟨bj, oj, y, C, cc, rfl, hy, hbj, hF⟩ := (HJ.out.later hE.out.bel).get (k := k) (by rw [HN.out]; exact hlt)
      have c3 := hF.c3
      have k0 : (0 : Int) ≤ (k : Int) := by omega
      have k1 : (k : Int) < (n : Int) := by omega
      have hyk : (jb js k).k = y.k := by rw [jb_get hy]
      have hW := HH.out.k1 k (by rw [HN.out]; exact hlt)
      have hES := endsT_succ js l k
      rw [hyk] at hW hES
      obtain ⟨W, hWe⟩ : ∃ W, y.k = W := ⟨_, rfl⟩
      rw [hWe] at hW hES c3
      have HW := Lib.hid hW
      have HES := Lib.hid hES
      clear hy hbj hF hyk hW hES hWe
      go_upto_region 8 with (fail)
      go_loopw [7, 8, 9] (fun s7 s8 s9 wq => ∃ (q : Nat) (left en : Int), q ≤ m ∧ s7 = .int .i64 left ∧ s8 = .int .i64 en ∧ s9 = .int .i64 (q : Int) ∧ Hid (LfI (k : Int) W (l.take q) left en) ∧ Hid (Below wr.heap.size wr wq)) (fun _ _ i _ => m - (intOf i).toNat)
      case atStart => exact ⟨0, W, -1, Nat.zero_le _, rfl, rfl, rfl, Lib.hid (LfI.start HW.out), Lib.hid (Below.refl _ _)⟩
      case round =>
        obtain ⟨q, left, en, hq, rfl, rfl, rfl, hL, hQ⟩ := hrel
        by_cases hlq : q < m
        · obtain ⟨b, o, x, rfl, hx, hbl, a0, a1, a2⟩ := (HS.out.later (bel_step hE.out.bel hQ.out)).get (k := q) (by rw [HM.out]; exact hlq)
          have q0 : (0 : Int) ≤ (q : Int) := by omega
          have q1 : (q : Int) < (m : Int) := by omega
          have hxm := List.mem_of_getElem? hx
          have hbd := HH.out.bd x hxm
          have hxp := HP.out x hxm
          have HT := Lib.hid (show l.take (q + 1) = l.take q ++ [x] by rw [List.take_add_one, hx]; rfl)
          obtain ⟨ln, hln⟩ : ∃ ln, x.t - x.f = ln := ⟨_, rfl⟩
          have hlw : IntKind.i64.wrap (x.t - x.f) = ln := by rw [IntWalk.i64_in _ (by omega)]; exact hln
          have HB := Lib.hid (show 0 ≤ x.f ∧ x.f ≤ 1000000000000000000 ∧ x.t ≤ 1000000000000000000 from ⟨hxp, hbd.2.1, hbd.2.2.2⟩)
          have HLE := Lib.hid hln
          clear hx hbl hxm hbd hxp hln
          by_cases hj : x.j = (k : Int)
          · have t0 : (x.j != (k : Int)) = false := by rw [hj]; simp
            have HJK := Lib.hid hj
            rw [hj] at a0 t0
            by_cases h1 : ln ≤ 0
            · have t1 : decide (ln ≤ 0) = true := decide_eq_true h1
              have HLN := Lib.hid (hL.out.skip (x := x) HW.out.1 (.inr (.inl (by rw [HLE.out]; exact h1))))
              clear hj hL h1
              go_upto_region 10 with (fail)
              go_quiet (fail)
              (try simp only [hlw])
              have HL2 := Lib.hid (bel_step hQ.out (below_drewN2 wr nq))
              have a0 := cells_below (below_drewN2 wr nq) _ _ _ a0
              have a1 := cells_below (below_drewN2 wr nq) _ _ _ a1
              clear a2 hlw hQ
              generalize wr.drewN nq = W1 at *
              go_wp2
              go_roundw
              case rel => exact ⟨q + 1, left, en, by omega, by first | rfl | (simp [Int.sub_self]) | go_num, by first | rfl | (simp [Int.sub_self]) | go_num, by go_num, by rw [HT.out]; exact HLN, HL2⟩
              case measure => simp [intOf]; omega
            · have t1 : decide (ln ≤ 0) = false := decide_eq_false h1
              by_cases h2 : 0 ≤ en
              · have t2 : decide (en ≥ 0) = true := decide_eq_true h2
                have t2' : decide (0 ≤ en) = true := decide_eq_true h2
                have HLN := Lib.hid (hL.out.skip (x := x) HW.out.1 (.inr (.inr h2)))
                clear hj hL h1 h2
                go_upto_region 10 with (fail)
                go_quiet (fail)
                (try simp only [hlw])
                have HL2 := Lib.hid (bel_step hQ.out (below_drewN2 wr nq))
                have a0 := cells_below (below_drewN2 wr nq) _ _ _ a0
                have a1 := cells_below (below_drewN2 wr nq) _ _ _ a1
                clear a2 hlw hQ
                generalize wr.drewN nq = W1 at *
                go_wp2
                go_roundw
                case rel => exact ⟨q + 1, left, en, by omega, by first | rfl | (simp [Int.sub_self]) | go_num, by first | rfl | (simp [Int.sub_self]) | go_num, by go_num, by rw [HT.out]; exact HLN, HL2⟩
                case measure => simp [intOf]; omega
              · have t2 : decide (en ≥ 0) = false := decide_eq_false h2
                have t2' : decide (0 ≤ en) = false := decide_eq_false h2
                obtain ⟨hl1, hrun⟩ := hL.out.run (x := x) HW.out.1 hj (by rw [HLE.out]; omega) HB.out (by omega)
                have hbl := hL.out.bl
                have hbx := HB.out
                rw [HLE.out] at hrun
                have hs2 : wrap64 (left - ln) = left - ln := IntWalk.wrap64_in _ (by have := hrun.bl; omega)
                have hs1 : wrap64 (x.f + left) = x.f + left := IntWalk.wrap64_in _ (by omega)
                by_cases h3 : left ≤ ln
                · have t3 : decide (ln ≥ left) = true := decide_eq_true h3
                  have t3' : decide (left ≤ ln) = true := decide_eq_true h3
                  rw [if_pos h3] at hrun
                  have HLN := Lib.hid hrun
                  clear hj hL h1 h2 h3 hrun hbl hbx hl1
                  go_upto_region 10 with (fail)
                  go_quiet (fail)
                  (try simp only [hlw])
                  have HL2 := Lib.hid (bel_step hQ.out (below_drewN2 wr nq))
                  have a0 := cells_below (below_drewN2 wr nq) _ _ _ a0
                  have a1 := cells_below (below_drewN2 wr nq) _ _ _ a1
                  clear a2 hlw hQ
                  generalize wr.drewN nq = W1 at *
                  go_wp2
                  go_roundw
                  case rel => exact ⟨q + 1, left - ln, x.f + left, by omega, by first | rfl | (simp [hs2]) | go_num, by first | rfl | (simp [hs1]) | go_num, by go_num, by rw [HT.out]; exact HLN, HL2⟩
                  case measure => simp [intOf]; omega
                · have t3 : decide (ln ≥ left) = false := decide_eq_false h3
                  have t3' : decide (left ≤ ln) = false := decide_eq_false h3
                  rw [if_neg h3] at hrun
                  have HLN := Lib.hid hrun
                  clear hj hL h1 h2 h3 hrun hbl hbx hl1 hs1
                  go_upto_region 10 with (fail)
                  go_quiet (fail)
                  (try simp only [hlw])
                  have HL2 := Lib.hid (bel_step hQ.out (below_drewN2 wr nq))
                  have a0 := cells_below (below_drewN2 wr nq) _ _ _ a0
                  have a1 := cells_below (below_drewN2 wr nq) _ _ _ a1
                  clear a2 hlw hQ
                  generalize wr.drewN nq = W1 at *
                  go_wp2
                  go_roundw
                  case rel => exact ⟨q + 1, left - ln, en, by omega, by first | rfl | (simp [hs2]) | go_num, by first | rfl | skip | go_num, by go_num, by rw [HT.out]; exact HLN, HL2⟩
                  case measure => simp [intOf]; omega
          · have t0 : (x.j != (k : Int)) = true := by simpa using hj
            have HLN := Lib.hid (hL.out.skip (x := x) HW.out.1 (.inl hj))
            clear hj hL
            go_upto_region 10 with (fail)
            go_quiet (fail)
            (try simp only [hlw])
            have HL2 := Lib.hid (bel_step hQ.out (below_drewN2 wr nq))
            have a0 := cells_below (below_drewN2 wr nq) _ _ _ a0
            have a1 := cells_below (below_drewN2 wr nq) _ _ _ a1
            clear a2 hlw hQ
            generalize wr.drewN nq = W1 at *
            go_wp2
            go_roundw
            case rel => exact ⟨q + 1, left, en, by omega, by first | rfl | (simp [Int.sub_self]) | go_num, by first | rfl | (simp [Int.sub_self]) | go_num, by go_num, by rw [HT.out]; exact HLN, HL2⟩
            case measure => simp [intOf]; omega
        · obtain rfl : q = m := by omega
          have HEN := Lib.hid (show en = endQ (k : Int) W l by have := hL.out.en HW.out.1; rw [HTK.out] at this; exact this)
          have HM2 := Lib.hid (hE.out.later hQ.out)
          clear hL
          generalize wr = W2 at *
          have bb : Below W2.heap.size W2 (W2.alloc (.cells #[.int .i64 en] T64)) := (Below.refl _ _).alloc (Nat.le_refl _) _
          have HBB := Lib.hid bb
          have HO := Lib.hid (HM2.out.later bb).own
          have HC := Lib.hid (show ∀ (j : Nat) (u : Value), [Value.int .i64 en][j]? = some u → (W2.alloc (.cells #[.int .i64 en] T64)).cell? ((⟨W2.heap.size, 0, none⟩ : Addr).add j) = some u from fun j u hj => by
            cases j with
            | zero => simp at hj; subst hj; rw [add_none, cell_of_row _ _ _ _ _ _ (heap_alloc_new W2 _)]; rfl
            | succ j => simp at hj)
          have HSz := Lib.hid (show w.heap.size ≤ (W2.alloc (.cells #[.int .i64 en] T64)).heap.size by have := HM2.out.bel.size; simp; omega)
          have hLL := HET.out k
          rw [hLL] at HO
          have HLL := Lib.hid hLL
          clear bb hLL
          go_wp2_with (at_builtin; go_loud (refine wpList_append_own _ rfl _ _ 25 rfl w.heap.size T64 i0 _ 1 8 Try.underlying25 hi hz0 hz1 hz2 rfl (by decide) _ k _ rfl HO.out ⟨W2.heap.size, 0, none⟩ 1 1 [.int .i64 en] rfl rfl HC.out (by intro u hu; simp at hu; subst hu; rfl) (by unfold maxLen; omega) (by omega) HSz.out ?_; intro v' w7 hown hgrow hnil; have HM7 := Lib.hid (HM2.out.push (k := en) HBB.out (by rw [HLL.out]; exact hown) hgrow); clear hown hgrow hnil))
          go_roundw
          case rel => exact ⟨k + 1, by omega, by go_num, by rw [HES.out, ← HEN.out]; exact HM7⟩
          case measure => simp [intOf]; omega
    · obtain rfl : k = n := by omega
      go_wp2
      exact PP.out _ _ hE.out
end Go.Proofs.Ytngmaiiibinkaaa
/- trace.Worst, trace.Misses. -/
namespace Go.Proofs.Ytngmaiiibinkaaa
open Go.RowKit Go.Shelf
set_option linter.unusedVariables false
set_option linter.unusedSimpArgs false
attribute [local go_sem ↓] Go.wp_at_zero Go.wp_at_succ
def worV (o : Option (Int × Nat)) : Value := .tuple #[.int .i64 ((o.map (·.1)).getD 0), .int .i64 (((o.map (·.2)).getD 0 : Nat) : Int), .bool o.isSome]
set_option maxRecDepth 100000 in
set_option maxHeartbeats 4000000 in
theorem worst_any {R E : Option Addr} {rc ec : Nat} {js : List Fv} {en : List Int} (task : Int) (w : World) (hJ : FRow w R rc js) (hE : CRow w E ec en) (H : RsH js en) : Calls Try.prog 27 #[.slice R js.length rc, .slice E en.length ec, .int .i64 task] w (Told (worV (worstS js en task js.length)) w) := by
  obtain ⟨n, hn⟩ : ∃ n, js.length = n := ⟨_, rfl⟩
  obtain ⟨m, hm⟩ : ∃ m, en.length = m := ⟨_, rfl⟩
  have jle := hJ.le
  have jmx := hJ.mx
  rw [hn] at jle
  have KR := Lib.hid (fun (i : Nat) W (hb : Below w.heap.size w W) => resp_any (i : Int) W (hJ.later hb) (hE.later hb) H)
  have HJ := Lib.hid hJ
  have HN := Lib.hid hn
  rw [hn, hm] at KR
  rw [hn, hm]
  clear hJ hE hn hm H
  go_enter Try.func27, Try.ntmps27
  go_wp2
  go_loopw [9, 10, 11, 18] (fun s9 s10 s11 i wr => ∃ k : Nat, k ≤ n ∧ i = .int .i64 (k : Int) ∧ s9 = .int .i64 (((worstS js en task k).map (·.1)).getD 0) ∧ s10 = .int .i64 ((((worstS js en task k).map (·.2)).getD 0 : Nat) : Int) ∧ s11 = .bool (worstS js en task k).isSome ∧ Hid (Below w.heap.size w wr)) (fun _ _ _ i _ => n - (intOf i).toNat)
  case atStart => exact ⟨0, Nat.zero_le _, rfl, rfl, rfl, rfl, Lib.hid (Below.refl _ _)⟩
  case round =>
    obtain ⟨k, hk, rfl, rfl, rfl, rfl, hB⟩ := hrel
    by_cases hlt : k < n
    · obtain ⟨bj, oj, y, C, cc, rfl, hy, hbj, hF⟩ := (HJ.out.later hB.out).get (k := k) (by rw [HN.out]; exact hlt)
      have c0 := hF.c0
      have c1 := hF.c1
      have c2 := hF.c2
      have c3 := hF.c3
      have c4 := hF.c4
      have i0 : (0 : Int) ≤ (k : Int) := by omega
      have i1 : (k : Int) < (n : Int) := by omega
      have hS := worstS_succ js en task k
      have hyt : (jb js k).t = y.t := by rw [jb_get hy]
      unfold worst1 at hS
      rw [hyt] at hS
      have HB1 := Lib.hid (hB.out.trans ((show Below wr.heap.size wr (wr.alloc (.cells #[.int .i64 y.t, .int .i64 y.a, .int .i64 y.r, .int .i64 y.k, .slice C y.c.length cc] 60)) from (Below.refl _ _).alloc (Nat.le_refl _) _).mono hB.out.size))
      have Z0 : (wr.alloc (.cells #[.int .i64 y.t, .int .i64 y.a, .int .i64 y.r, .int .i64 y.k, .slice C y.c.length cc] 60)).cell? ⟨wr.heap.size, 0, none⟩ = some (.int .i64 y.t) := by
        rw [cell_of_row _ _ _ _ _ _ (heap_alloc_new wr _)]; rfl
      have Z := Lib.hid Z0
      obtain ⟨yt, hyt2⟩ : ∃ a, y.t = a := ⟨_, rfl⟩
      rw [hyt2] at hS c0
      have HYT := Lib.hid hyt2
      have HY := Lib.hid hy
      clear Z0 hyt hy hbj hF
      go_upto_region 5 with (fail)
      have z0 := Z.out
      obtain ⟨xb, hxb⟩ : ∃ xb, wr.heap.size = xb := ⟨_, rfl⟩
      rw [hxb] at z0 ⊢
      rw [HYT.out] at HB1 z0
      generalize wr.alloc (.cells #[.int .i64 yt, .int .i64 y.a, .int .i64 y.r, .int .i64 y.k, .slice C y.c.length cc] 60) = W1 at *
      clear hxb c0 c1 c2 c3 c4 Z HYT hB hyt2
      by_cases ht : yt = task
      · subst ht
        rw [if_pos rfl] at hS
        have t1 : (yt != yt) = false := by simp
        have KRk := Lib.hid (KR.out k)
        cases hr : respS js en (k : Int) with
        | none =>
          rw [hr] at hS KRk
          simp only [respV, Option.getD_none, Option.isSome_none] at KRk
          dsimp only at hS
          have HS := Lib.hid hS
          clear hS hr
          go_upto_region 9 with (go_at_call 25; (with_reducible refine (KRk.out _ HB1.out).mono ?_); rintro e w5 ⟨rfl, mq, rfl⟩)
          go_wp2
          go_roundw
          case rel => exact ⟨k + 1, by omega, by go_num, by rw [HS.out] <;> rfl, by rw [HS.out] <;> rfl, by rw [HS.out] <;> rfl, Lib.hid (HB1.out.trans ((below_drewN2 _ _).mono HB1.out.size))⟩
          case measure => simp [intOf]; omega
        | some r =>
          rw [hr] at hS KRk
          simp only [respV, Option.getD_some, Option.isSome_some] at KRk
          cases ha : worstS js en yt k with
          | none =>
            rw [ha] at hS
            dsimp only at hS
            have HS := Lib.hid hS
            simp only [Option.map_none, Option.getD_none, Option.isSome_none]
            clear hS hr ha
            go_upto_region 9 with (go_at_call 25; (with_reducible refine (KRk.out _ HB1.out).mono ?_); rintro e w5 ⟨rfl, mq, rfl⟩)
            go_wp2
            go_roundw
            case rel => exact ⟨k + 1, by omega, by go_num, by rw [HS.out] <;> rfl, by rw [HS.out] <;> rfl, by rw [HS.out] <;> rfl, Lib.hid (HB1.out.trans ((below_drewN2 _ _).mono HB1.out.size))⟩
            case measure => simp [intOf]; omega
          | some gp =>
            obtain ⟨g, p⟩ := gp
            rw [ha] at hS
            dsimp only at hS
            simp only [Option.map_some, Option.getD_some, Option.isSome_some]
            by_cases hg : g < r
            · rw [if_pos hg] at hS
              have HS := Lib.hid hS
              have t2 : decide (r > g) = true := decide_eq_true hg
              have t3 : decide (g < r) = true := decide_eq_true hg
              clear hS hr ha hg
              go_upto_region 9 with (go_at_call 25; (with_reducible refine (KRk.out _ HB1.out).mono ?_); rintro e w5 ⟨rfl, mq, rfl⟩)
              go_wp2
              go_roundw
              case rel => exact ⟨k + 1, by omega, by go_num, by rw [HS.out] <;> rfl, by rw [HS.out] <;> rfl, by rw [HS.out] <;> rfl, Lib.hid (HB1.out.trans ((below_drewN2 _ _).mono HB1.out.size))⟩
              case measure => simp [intOf]; omega
            · rw [if_neg hg] at hS
              have HS := Lib.hid hS
              have t2 : decide (r > g) = false := decide_eq_false hg
              have t3 : decide (g < r) = false := decide_eq_false hg
              clear hS hr ha hg
              go_upto_region 9 with (go_at_call 25; (with_reducible refine (KRk.out _ HB1.out).mono ?_); rintro e w5 ⟨rfl, mq, rfl⟩)
              go_wp2
              go_roundw
              case rel => exact ⟨k + 1, by omega, by go_num, by rw [HS.out] <;> rfl, by rw [HS.out] <;> rfl, by rw [HS.out] <;> rfl, Lib.hid (HB1.out.trans ((below_drewN2 _ _).mono HB1.out.size))⟩
              case measure => simp [intOf]; omega
      · have t1 : (yt != task) = true := by simpa using ht
        rw [if_neg ht] at hS
        have HS := Lib.hid hS
        clear hS ht
        go_wp2
        go_roundw
        case rel => exact ⟨k + 1, by omega, by go_num, by rw [HS.out], by rw [HS.out], by rw [HS.out], HB1⟩
        case measure => simp [intOf]; omega
    · obtain rfl : k = n := by omega
      go_wp2
      go_ret3
      exact ⟨rfl, hB.out⟩
end Go.Proofs.Ytngmaiiibinkaaa
/- trace.Misses. -/
namespace Go.Proofs.Ytngmaiiibinkaaa
open Go.RowKit Go.Shelf
set_option linter.unusedVariables false
set_option linter.unusedSimpArgs false
attribute [local go_sem ↓] Go.wp_at_zero Go.wp_at_succ
def natL (l : List Nat) : List Int := l.map fun (i : Nat) => (i : Int)
structure MiS (w0 : World) (v : Value) (l : List Nat) (w : World) : Prop where
  own : w.ownsRow w0.heap.size TIn 1 v l.length (numL (natL l))
  bel : Below w0.heap.size w0 w
theorem MiS.later {w0 w w' : World} {v : Value} {l : List Nat} (h : MiS w0 v l w) (hb : Below w.heap.size w w') : MiS w0 v l w' := ⟨(Kept.of [] hb).row h.own (by simp), h.bel.trans (hb.mono h.bel.size)⟩
/-- One more number. -/
theorem MiS.push {w0 w W1 w' : World} {v v' : Value} {l : List Nat} {k : Nat} (h : MiS w0 v l w) (hb : Below w.heap.size w W1) (ho : w'.ownsRow w0.heap.size TIn 1 v' (l.length + 1) (numL (natL l) ++ [.int .i64 (k : Int)])) (hg : W1.grownBy w' v.ownBlock) : MiS w0 v' (l ++ [k]) w' := by
  have e : numL (natL (l ++ [k])) = numL (natL l) ++ [.int .i64 (k : Int)] := by simp [numL, natL]
  refine ⟨by rw [e, List.length_append, List.length_singleton]; exact ho, (h.bel.trans (hb.mono h.bel.size)).grown hg ?_ (fun q hq => (h.own.lt q hq).1)⟩
  have := h.bel.size
  have := hb.size
  omega
def MisP (l : List Nat) (w : World) (e : Ending) (w' : World) : Prop := ∃ A c, e = .returned (.slice A l.length c) ∧ CRow w' A c (natL l) ∧ Below w.heap.size w w'
theorem MiS.done {w0 w : World} {v : Value} {l : List Nat} (h : MiS w0 v l w) (hl : ∀ i ∈ l, i ≤ 1000000) : MisP l w0 (.returned v) w := by
  have e : (natL l).length = l.length := by simp [natL]
  have ho := h.own
  rw [← e] at ho
  obtain ⟨A, c, hv, hn, hC, _⟩ := crow_own ho (fun x hx => by
    obtain ⟨i, hi, rfl⟩ := List.mem_map.1 hx
    have := hl i hi
    unfold in64; omega)
  exact ⟨A, c, by rw [hv, e], hC, h.bel⟩
theorem missS_lt (ts : List Ts) (js : List Fv) (en : List Int) (n : Nat) : ∀ i ∈ missS ts js en n, i < n := fun i hi => by
  have := (List.mem_filter.1 hi).1
  simpa using this
set_option maxRecDepth 100000 in
set_option maxHeartbeats 8000000 in
theorem misses_any {T R E : Option Addr} {tc rc ec : Nat} {ts : List Ts} {js : List Fv} {en : List Int} (w : World) (hT : Row w T tc ts) (hJ : FRow w R rc js) (hE : CRow w E ec en) (H : RsH js en) (fj : js.length ≤ 1000000) : Calls Try.prog 23 #[.slice T ts.length tc, .slice R js.length rc, .slice E en.length ec] w (MisP (missS ts js en js.length) w) := by
  obtain ⟨i0, hi, hz0, hz1, hz2⟩ := info_parts infoI
  obtain ⟨n, hn⟩ : ∃ n, js.length = n := ⟨_, rfl⟩
  obtain ⟨m, hm⟩ : ∃ m, en.length = m := ⟨_, rfl⟩
  obtain ⟨p, hp⟩ : ∃ p, ts.length = p := ⟨_, rfl⟩
  have jle := hJ.le
  have jmx := hJ.mx
  have tle := hT.le
  have tmx := hT.mx
  rw [hn] at jle fj
  rw [hp] at tle
  have KR := Lib.hid (fun (i : Nat) W (hb : Below w.heap.size w W) => resp_any (i : Int) W (hJ.later hb) (hE.later hb) H)
  have KI := Lib.hid (fun i n W => isPlace_any i n W)
  have HJ := Lib.hid hJ
  have HT := Lib.hid hT
  have HN := Lib.hid hn
  have HP := Lib.hid hp
  rw [hn, hm] at KR
  rw [hn, hm, hp]
  have PP := Lib.hid (fun v wr (h : MiS w v (missS ts js en n) wr) => h.done (fun i hi => by have := missS_lt ts js en n i hi; omega))
  have HLN := Lib.hid (fun k => missS_len ts js en k)
  clear hJ hE hT hn hm H hp
  go_enter Try.func23, Try.ntmps23
  go_wp2
  go_loopw [7, 14] (fun v i wr => ∃ k : Nat, k ≤ n ∧ i = .int .i64 (k : Int) ∧ Hid (MiS w v (missS ts js en k) wr)) (fun _ i _ => n - (intOf i).toNat)
  case atStart => exact ⟨0, Nat.zero_le _, rfl, Lib.hid ⟨World.ownsRow_nil _ _ _ _, Below.refl _ _⟩⟩
  case round =>
    obtain ⟨k, hk, rfl, hM⟩ := hrel
    by_cases hlt : k < n
    · obtain ⟨bj, oj, y, C, cc, rfl, hy, hbj, hF⟩ := (HJ.out.later hM.out.bel).get (k := k) (by rw [HN.out]; exact hlt)
      have c0 := hF.c0
      have c1 := hF.c1
      have c2 := hF.c2
      have c3 := hF.c3
      have c4 := hF.c4
      have k0 : (0 : Int) ≤ (k : Int) := by omega
      have k1 : (k : Int) < (n : Int) := by omega
      have hS := missS_succ ts js en k
      have hyt : (jb js k).t = y.t := by rw [jb_get hy]
      unfold missB at hS
      rw [hyt] at hS
      have bw : Below wr.heap.size wr (wr.alloc (.cells #[.int .i64 y.t, .int .i64 y.a, .int .i64 y.r, .int .i64 y.k, .slice C y.c.length cc] 60)) := (Below.refl _ _).alloc (Nat.le_refl _) _
      have HM1 := Lib.hid (hM.out.later bw)
      have Z0 : (wr.alloc (.cells #[.int .i64 y.t, .int .i64 y.a, .int .i64 y.r, .int .i64 y.k, .slice C y.c.length cc] 60)).cell? ⟨wr.heap.size, 0, none⟩ = some (.int .i64 y.t) := by
        rw [cell_of_row _ _ _ _ _ _ (heap_alloc_new wr _)]; rfl
      have Z := Lib.hid Z0
      obtain ⟨yt, hyt2⟩ : ∃ a, y.t = a := ⟨_, rfl⟩
      rw [hyt2] at hS c0
      have HYT := Lib.hid hyt2
      have HY := Lib.hid hy
      clear Z0 hyt hy hbj hF bw
      go_upto_region 5 with (fail)
      have z0 := Z.out
      obtain ⟨xb, hxb⟩ : ∃ xb, wr.heap.size = xb := ⟨_, rfl⟩
      rw [hxb] at z0 ⊢
      rw [HYT.out] at HM1 z0
      generalize wr.alloc (.cells #[.int .i64 yt, .int .i64 y.a, .int .i64 y.r, .int .i64 y.k, .slice C y.c.length cc] 60) = W1 at *
      clear hxb c0 c1 c2 c3 c4 Z HYT hM hyt2 HY
      by_cases ht : 0 ≤ yt ∧ yt < (p : Int)
      · obtain ⟨u, rfl⟩ : ∃ u : Nat, yt = (u : Int) := ⟨yt.toNat, by omega⟩
        obtain ⟨bt, ot, x, rfl, hx, _, hbt, hG⟩ := (HT.out.later HM1.out.bel).get (k := u) (by rw [HP.out]; omega)
        have d3 := hG.c3
        have hd : (tk ts (u : Int)).d = x.d := by rw [tk_get hx]
        rw [hd, decide_eq_true ht.1, decide_eq_true (show (u : Int) < (ts.length : Int) by rw [HP.out]; exact ht.2)] at hS
        obtain ⟨D, hD⟩ : ∃ D, x.d = D := ⟨_, rfl⟩
        rw [hD] at hS d3
        have KP := Lib.hid (fun W => KI.out (u : Int) p W)
        rw [decide_eq_true ht.1, decide_eq_true ht.2] at KP
        have u0 : (0 : Int) ≤ (u : Int) := by omega
        have u1 : (u : Int) < (p : Int) := ht.2
        have KRk := Lib.hid (KR.out k _ HM1.out.bel)
        clear hx hbt hG hd hD ht
        simp only [Bool.true_and] at hS
        cases hr : respS js en (k : Int) with
        | none =>
          rw [hr] at hS KRk
          simp only [respV, Option.getD_none, Option.isSome_none] at KRk
          simp only [if_true] at hS
          have HS := Lib.hid hS
          clear hr hS
          go_upto_region 8 with (first
            | (go_at_call 38; (with_reducible refine (KP.out _).mono ?_); rintro e w5 ⟨rfl, rfl⟩)
            | (go_at_call 25; (with_reducible refine KRk.out.mono ?_); rintro e w6 ⟨rfl, mq, rfl⟩; have d3 := cells_below (below_drewN2 W1 mq) _ _ _ d3; have z0 := cells_below (below_drewN2 W1 mq) _ _ _ z0))
          have HM2 := Lib.hid (HM1.out.later (below_drewN2 W1 mq))
          generalize W1.drewN mq = W2 at *
          have HL := Lib.hid (HLN.out k)
          have bb : Below W2.heap.size W2 (W2.alloc (.cells #[.int .i64 (k : Int)] TIn)) := (Below.refl _ _).alloc (Nat.le_refl _) _
          have HBB := Lib.hid bb
          have HO := Lib.hid (HM2.out.later bb).own
          have HZ := Lib.hid (show W2.heap.size + 1 = (W2.alloc (.cells #[.int .i64 (k : Int)] TIn)).heap.size by simp)
          have HC := Lib.hid (show ∀ (j : Nat) (u : Value), [Value.int .i64 (k : Int)][j]? = some u → (W2.alloc (.cells #[.int .i64 (k : Int)] TIn)).cell? ((⟨W2.heap.size, 0, none⟩ : Addr).add j) = some u from fun j u hj => by
            cases j with
            | zero => simp at hj; subst hj; rw [add_none, cell_of_row _ _ _ _ _ _ (heap_alloc_new W2 _)]; rfl
            | succ j => simp at hj)
          have HSz := Lib.hid (show w.heap.size ≤ (W2.alloc (.cells #[.int .i64 (k : Int)] TIn)).heap.size by have := HM2.out.bel.size; simp; omega)
          obtain ⟨LL, hLL⟩ : ∃ LL, (missS ts js en k).length = LL := ⟨_, rfl⟩
          rw [hLL] at HO HL
          have HLL := Lib.hid hLL
          clear bb hLL
          go_wp2_with (at_builtin; go_loud (refine wpList_append_own _ rfl _ _ 56 rfl w.heap.size TIn i0 _ 1 8 Try.underlying56 hi hz0 hz1 hz2 rfl (by decide) _ LL _ rfl HO.out ⟨W2.heap.size, 0, none⟩ 1 1 [.int .i64 (k : Int)] rfl rfl HC.out (by intro u hu; simp at hu; subst hu; rfl) (by have := HL.out; unfold maxLen; omega) (by have := HL.out; omega) HSz.out ?_; intro v' w7 hown hgrow hnil; have HM7 := Lib.hid (HM2.out.push (k := k) HBB.out (by rw [HLL.out]; exact hown) hgrow); clear hown hgrow hnil))
          go_roundw
          case rel => exact ⟨k + 1, by omega, by go_num, by rw [HS.out]; exact HM7⟩
          case measure => simp [intOf]; omega
        | some r =>
          rw [hr] at hS KRk
          simp only [respV, Option.getD_some, Option.isSome_some] at KRk
          simp only [decide_eq_true_eq] at hS
          by_cases hg : D < r
          · rw [if_pos hg] at hS
            have t2 : decide (r > D) = true := decide_eq_true hg
            have t3 : decide (D < r) = true := decide_eq_true hg
            clear hg
            have HS := Lib.hid hS
            clear hr hS
            go_upto_region 8 with (first
              | (go_at_call 38; (with_reducible refine (KP.out _).mono ?_); rintro e w5 ⟨rfl, rfl⟩)
              | (go_at_call 25; (with_reducible refine KRk.out.mono ?_); rintro e w6 ⟨rfl, mq, rfl⟩; have d3 := cells_below (below_drewN2 W1 mq) _ _ _ d3; have z0 := cells_below (below_drewN2 W1 mq) _ _ _ z0))
            have HM2 := Lib.hid (HM1.out.later (below_drewN2 W1 mq))
            generalize W1.drewN mq = W2 at *
            have HL := Lib.hid (HLN.out k)
            have bb : Below W2.heap.size W2 (W2.alloc (.cells #[.int .i64 (k : Int)] TIn)) := (Below.refl _ _).alloc (Nat.le_refl _) _
            have HBB := Lib.hid bb
            have HO := Lib.hid (HM2.out.later bb).own
            have HZ := Lib.hid (show W2.heap.size + 1 = (W2.alloc (.cells #[.int .i64 (k : Int)] TIn)).heap.size by simp)
            have HC := Lib.hid (show ∀ (j : Nat) (u : Value), [Value.int .i64 (k : Int)][j]? = some u → (W2.alloc (.cells #[.int .i64 (k : Int)] TIn)).cell? ((⟨W2.heap.size, 0, none⟩ : Addr).add j) = some u from fun j u hj => by
              cases j with
              | zero => simp at hj; subst hj; rw [add_none, cell_of_row _ _ _ _ _ _ (heap_alloc_new W2 _)]; rfl
              | succ j => simp at hj)
            have HSz := Lib.hid (show w.heap.size ≤ (W2.alloc (.cells #[.int .i64 (k : Int)] TIn)).heap.size by have := HM2.out.bel.size; simp; omega)
            obtain ⟨LL, hLL⟩ : ∃ LL, (missS ts js en k).length = LL := ⟨_, rfl⟩
            rw [hLL] at HO HL
            have HLL := Lib.hid hLL
            clear bb hLL
            go_wp2_with (at_builtin; go_loud (refine wpList_append_own _ rfl _ _ 56 rfl w.heap.size TIn i0 _ 1 8 Try.underlying56 hi hz0 hz1 hz2 rfl (by decide) _ LL _ rfl HO.out ⟨W2.heap.size, 0, none⟩ 1 1 [.int .i64 (k : Int)] rfl rfl HC.out (by intro u hu; simp at hu; subst hu; rfl) (by have := HL.out; unfold maxLen; omega) (by have := HL.out; omega) HSz.out ?_; intro v' w7 hown hgrow hnil; have HM7 := Lib.hid (HM2.out.push (k := k) HBB.out (by rw [HLL.out]; exact hown) hgrow); clear hown hgrow hnil))
            go_roundw
            case rel => exact ⟨k + 1, by omega, by go_num, by rw [HS.out]; exact HM7⟩
            case measure => simp [intOf]; omega
          · rw [if_neg hg, List.append_nil] at hS
            have HS := Lib.hid hS
            have t2 : decide (r > D) = false := decide_eq_false hg
            have t3 : decide (D < r) = false := decide_eq_false hg
            clear hg hS hr
            go_upto_region 9 with (first
              | (go_at_call 38; (with_reducible refine (KP.out _).mono ?_); rintro e w5 ⟨rfl, rfl⟩)
              | (go_at_call 25; (with_reducible refine KRk.out.mono ?_); rintro e w6 ⟨rfl, mq, rfl⟩; have d3 := cells_below (below_drewN2 W1 mq) _ _ _ d3; have z0 := cells_below (below_drewN2 W1 mq) _ _ _ z0))
            go_wp2
            go_roundw
            case rel => exact ⟨k + 1, by omega, by go_num, by rw [HS.out]; exact Lib.hid (HM1.out.later (below_drewN2 _ _))⟩
            case measure => simp [intOf]; omega
      · have hpf : (decide (0 ≤ yt) && decide (yt < (p : Int))) = false := by
          rw [Bool.and_eq_false_iff]
          by_cases h : 0 ≤ yt
          · exact .inr (decide_eq_false (by omega))
          · exact .inl (decide_eq_false h)
        have KP := Lib.hid (fun W => KI.out yt p W)
        rw [HP.out, hpf] at hS
        rw [hpf] at KP
        simp only [Bool.false_and, Bool.false_eq_true, if_false, List.append_nil] at hS
        have HS := Lib.hid hS
        clear hpf ht hS
        go_wp2_with (go_at_call 38; (with_reducible refine (KP.out _).mono ?_); rintro e w5 ⟨rfl, rfl⟩)
        go_roundw
        case rel => exact ⟨k + 1, by omega, by go_num, by rw [HS.out]; exact HM1⟩
        case measure => simp [intOf]; omega
    · obtain rfl : k = n := by omega
      go_wp2
      go_ret
      exact PP.out _ _ hM.out
end Go.Proofs.Ytngmaiiibinkaaa
/- The document's Response and Worst. -/
namespace Go.Proofs.Ytngmaiiibinkaaa
open Go.RowKit Go.Shelf
set_option linter.unusedVariables false
set_option linter.unusedSimpArgs false
attribute [local go_sem ↓] Go.wp_at_zero Go.wp_at_succ
abbrev TGt : TypeId := 71
theorem infoGt : (Try.prog.info? TGt).map (·.size) = some 3 := by kernel_rfl
theorem results_gt {fn : Func} {p : Tmp} (h : fn.results = #[.cell p TGt]) (tmps : Array Value) (w : World) (b : Nat) {x y z : Value} (hp : tmps.getD p undef = .pointer (some ⟨b, 0, none⟩)) (hb : w.heap[b]? = some (.cells #[x, y, z] TGt (0, 0))) :
    (results fn tmps).run Try.prog w = .ok (.agg #[x, y, z]) w :=
  results_cell_row h tmps w b _ _ _ _ hp hb Try.underlying71 rfl infoGt
def gtA (n : Int) (p : Nat) (o : Bool) : Array Value := #[.int .i64 n, .int .i64 (p : Int), .bool o]
def gotV (o : Option Int) : Value := .agg (gtA (o.getD 0) 0 o.isSome)
def gotW (o : Option (Int × Nat)) : Value := .agg (gtA ((o.map (·.1)).getD 0) ((o.map (·.2)).getD 0) o.isSome)
theorem gt_cells {W : World} {b : Nat} {x y z : Value} (h : W.heap[b]? = some (.cells #[x, y, z] TGt (0, 0))) : W.cell? ⟨b, 0, none⟩ = some x ∧ W.cell? ⟨b, 1, none⟩ = some y ∧ W.cell? ⟨b, 2, none⟩ = some z ∧ (∀ i, W.frozen? ⟨b, i, none⟩ = false) := by
  have z0 := cell_of_row W b 0 _ _ _ h
  have z1 := cell_of_row W b 1 _ _ _ h
  have z2 := cell_of_row W b 2 _ _ _ h
  simp only [List.getElem?_toArray, List.getElem?_cons_zero, List.getElem?_cons_succ] at z0 z1 z2
  exact ⟨z0, z1, z2, fun i => frozen_of_row _ _ _ _ _ h⟩
theorem gt_set {W : World} {b : Nat} {x y z : Value} (h : W.heap[b]? = some (.cells #[x, y, z] TGt (0, 0))) (a c d : Value) : (((W.setCell ⟨b, 0, none⟩ a).setCell ⟨b, 1, none⟩ c).setCell ⟨b, 2, none⟩ d).heap[b]? = some (.cells #[a, c, d] TGt (0, 0)) := by
  have e1 := heap_setCell_same _ _ 0 _ _ a h
  have e2 := heap_setCell_same _ _ 1 _ _ c e1
  exact heap_setCell_same _ _ 2 _ _ d e2
theorem gt_bel {w W : World} {b : Nat} (h : Below w.heap.size w W) (hb : w.heap.size ≤ b) (a c d : Value) : Below w.heap.size w (((W.setCell ⟨b, 0, none⟩ a).setCell ⟨b, 1, none⟩ c).setCell ⟨b, 2, none⟩ d) :=
  ((h.setCell (p := ⟨b, 0, none⟩) hb _).setCell (p := ⟨b, 1, none⟩) hb _).setCell (p := ⟨b, 2, none⟩) hb _
set_option maxRecDepth 100000 in
set_option maxHeartbeats 4000000 in
theorem rresp_any {R E : Option Addr} {rc ec : Nat} {js : List Fv} {en : List Int} (i : Int) (w : World) (hJ : FRow w R rc js) (hE : CRow w E ec en) (H : RsH js en) : Calls Try.prog 26 #[.slice R js.length rc, .slice E en.length ec, .int .i64 i] w (Told (gotV (respS js en i)) w) := by
  obtain ⟨n, hn⟩ : ∃ n, js.length = n := ⟨_, rfl⟩
  obtain ⟨m, hm⟩ : ∃ m, en.length = m := ⟨_, rfl⟩
  have jle := hJ.le
  have jmx := hJ.mx
  have ele := hE.le
  have emx := hE.mx
  rw [hn] at jle
  rw [hm] at ele
  obtain ⟨W1, hW1⟩ : ∃ W1, w.alloc (.cells #[.int .i64 0, .int .i64 0, .bool false] TGt) = W1 := ⟨_, rfl⟩
  have BX0 : W1.heap[w.heap.size]? = some (.cells #[.int .i64 0, .int .i64 0, .bool false] TGt (0, 0)) := by rw [← hW1]; exact heap_alloc_new w _
  have B0 : Below w.heap.size w W1 := by rw [← hW1]; exact (Below.refl _ _).alloc (Nat.le_refl _) _
  obtain ⟨z0, z1, z2, zf⟩ := gt_cells BX0
  have BX := Lib.hid BX0
  have B1 := Lib.hid B0
  have hJ1 := hJ.later B0
  have hE1 := hE.later B0
  obtain ⟨xb, hxb⟩ : ∃ xb, w.heap.size = xb := ⟨_, rfl⟩
  have HXB := Lib.hid hxb
  have PT := Lib.hid (fun v wr (hb : Below w.heap.size w wr) (he : v = gotV (respS js en i)) => show Told (gotV (respS js en i)) w (.returned v) wr from ⟨by rw [he], hb⟩)
  rw [hn, hm]
  rw [hxb] at BX z0 z1 z2 zf
  generalize hPo : Told (gotV (respS js en i)) w = Post at *
  clear BX0 B0 hPo hJ hE
  by_cases hp : 0 ≤ i ∧ i < (n : Int) ∧ i < (m : Int)
  · obtain ⟨q, rfl⟩ : ∃ q : Nat, i = (q : Int) := ⟨i.toNat, by omega⟩
    obtain ⟨be, oe, x, rfl, hx, hw, hbl, c0⟩ := hE1.get (k := q) (by omega)
    obtain ⟨bj, oj, y, C, cc, rfl, hy, hbj, hF⟩ := hJ1.get (k := q) (by omega)
    have c1 := hF.c1
    have ha := H.a q (by omega)
    have he := H.e x (List.mem_of_getElem? hx)
    have kx : kO en q = x := by simp [kO, hx]
    rw [jb_get hy] at ha
    have hS : respS js en (q : Int) = if 0 ≤ x then some (x - y.a) else none := by
      unfold respS
      simp only [Int.toNat_natCast, kx, jb_get hy]
      by_cases h : 0 ≤ x
      · rw [if_pos h, if_pos (by omega)]
      · rw [if_neg h, if_neg (by omega)]
    rw [hS] at PT
    have i0 : (0 : Int) ≤ (q : Int) := by omega
    have i1 : (q : Int) < (n : Int) := by omega
    have i2 : (q : Int) < (m : Int) := by omega
    have s0 : decide ((q : Int) < 0) = false := decide_eq_false (by omega)
    have s1 : decide ((n : Int) ≤ (q : Int)) = false := decide_eq_false (by omega)
    have s2 : decide ((m : Int) ≤ (q : Int)) = false := decide_eq_false (by omega)
    have hsub := subW he ha
    obtain ⟨a, hA⟩ : ∃ a, y.a = a := ⟨_, rfl⟩
    rw [hA] at c1 hsub PT
    obtain ⟨d, hd⟩ : ∃ d, x - a = d := ⟨_, rfl⟩
    have hsub' := hsub.trans hd
    rw [hd] at PT
    clear hsub hd hA hS kx hF hy hx hJ1 hE1 H hn hm hp ha he hw hbl hbj
    by_cases hx0 : 0 ≤ x
    · have t1 : decide (x < 0) = false := decide_eq_false (by omega)
      rw [if_pos hx0] at PT
      clear hx0
      go_enter Try.func26, Try.ntmps26
      go_upto_region 3 with (fail)
      go_still_tail 11, (by kernel_rfl)
      repeat still_step
      (try refine wpStill_nil ?_)
      change wpList _ _ _ _ _ W1.drew
      have BX2 := Lib.hid (show W1.drew.heap[xb]? = some (.cells #[.int .i64 0, .int .i64 0, .bool false] TGt (0, 0)) from BX.out)
      have B2 := Lib.hid (show Below w.heap.size w W1.drew from bel_step B1.out ⟨rfl, rfl, rfl, Nat.le_refl _, fun _ _ => rfl⟩)
      have hw : IntKind.i64.wrap (x - a) = d := by rw [IntKind.wrap_i64]; unfold wrap64 at hsub'; exact hsub'
      simp only [hw]
      clear z0 z1 z2 zf c0 c1 hsub' hw
      generalize W1.drew = W2 at *
      obtain ⟨z0, z1, z2, zf⟩ := gt_cells BX2.out
      go_wp2
      exact bodyPost_ret (v := .agg (gtA d 0 true)) (results_gt rfl _ _ _ rfl (gt_set BX2.out _ _ _)) rfl (PT.out _ _ (gt_bel B2.out (Nat.le_of_eq HXB.out) _ _ _) rfl)
    · have t1 : decide (x < 0) = true := decide_eq_true (by omega)
      rw [if_neg hx0] at PT
      clear hx0
      go_enter Try.func26, Try.ntmps26
      go_wp2
      exact bodyPost_ret (v := .agg (gtA 0 0 false)) (results_gt rfl _ _ _ rfl (gt_set BX.out _ _ _)) rfl (PT.out _ _ (gt_bel B1.out (Nat.le_of_eq HXB.out) _ _ _) rfl)
  · have hS : respS js en i = none := by unfold respS; rw [if_neg (by omega)]
    rw [hS] at PT
    clear hS hJ1 hE1 H hn hm
    by_cases h0 : i < 0
    · have s0 : decide (i < 0) = true := decide_eq_true h0
      clear hp h0
      go_enter Try.func26, Try.ntmps26
      go_wp2
      exact bodyPost_ret (v := .agg (gtA 0 0 false)) (results_gt rfl _ _ _ rfl (gt_set BX.out _ _ _)) rfl (PT.out _ _ (gt_bel B1.out (Nat.le_of_eq HXB.out) _ _ _) rfl)
    · have s0 : decide (i < 0) = false := decide_eq_false h0
      by_cases h1 : (n : Int) ≤ i
      · have s1 : decide ((n : Int) ≤ i) = true := decide_eq_true h1
        clear hp h0 h1
        go_enter Try.func26, Try.ntmps26
        go_wp2
        exact bodyPost_ret (v := .agg (gtA 0 0 false)) (results_gt rfl _ _ _ rfl (gt_set BX.out _ _ _)) rfl (PT.out _ _ (gt_bel B1.out (Nat.le_of_eq HXB.out) _ _ _) rfl)
      · have s1 : decide ((n : Int) ≤ i) = false := decide_eq_false h1
        have s2 : decide ((m : Int) ≤ i) = true := decide_eq_true (by omega)
        clear hp h0 h1
        go_enter Try.func26, Try.ntmps26
        go_wp2
        exact bodyPost_ret (v := .agg (gtA 0 0 false)) (results_gt rfl _ _ _ rfl (gt_set BX.out _ _ _)) rfl (PT.out _ _ (gt_bel B1.out (Nat.le_of_eq HXB.out) _ _ _) rfl)
theorem gotV_get (o : Option Int) : gotV o = .agg #[.int .i64 (o.getD 0), .int .i64 0, .bool o.isSome] := rfl
/-- The block that Worst keeps. -/
structure WoS (w0 : World) (xb yb : Nat) (o : Option (Int × Nat)) (W : World) : Prop where
  rb : W.heap[xb]? = some (.cells #[.int .i64 0, .int .i64 0, .bool false] TGt (0, 0))
  wb : W.heap[yb]? = some (.cells (gtA ((o.map (·.1)).getD 0) ((o.map (·.2)).getD 0) o.isSome) TGt (0, 0))
  bel : Below w0.heap.size w0 W
theorem WoS.later {w0 W W' : World} {xb yb : Nat} {o : Option (Int × Nat)} (h : WoS w0 xb yb o W) (hb : Below W.heap.size W W') : WoS w0 xb yb o W' :=
  ⟨(hb.block xb (Array.getElem?_eq_some_iff.1 h.rb).1).trans h.rb, (hb.block yb (Array.getElem?_eq_some_iff.1 h.wb).1).trans h.wb, h.bel.trans (hb.mono h.bel.size)⟩
theorem WoS.set {w0 W : World} {xb yb : Nat} {o : Option (Int × Nat)} (h : WoS w0 xb yb o W) (hxy : xb ≠ yb) (hyb : w0.heap.size ≤ yb) (r : Int) (k : Nat) : WoS w0 xb yb (some (r, k)) (((W.setCell ⟨yb, 0, none⟩ (.int .i64 r)).setCell ⟨yb, 1, none⟩ (.int .i64 (k : Int))).setCell ⟨yb, 2, none⟩ (.bool true)) :=
  ⟨by rw [heap_setCell_other _ _ _ _ hxy, heap_setCell_other _ _ _ _ hxy, heap_setCell_other _ _ _ _ hxy]; exact h.rb, gt_set h.wb _ _ _, gt_bel h.bel hyb _ _ _⟩
theorem gotV_none : gotV none = .agg #[.int .i64 0, .int .i64 0, .bool false] := rfl
theorem gotV_some (r : Int) : gotV (some r) = .agg #[.int .i64 r, .int .i64 0, .bool true] := rfl
end Go.Proofs.Ytngmaiiibinkaaa
