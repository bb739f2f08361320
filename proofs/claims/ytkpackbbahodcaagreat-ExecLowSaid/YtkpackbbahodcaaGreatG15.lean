/- Texts about the program, one after the other: ERr, EGot, EPin, EUl, EWrk, ERnf, ERow, EUrg, EScl, EEnd, EShf. -/
import Derived.Test.YtkpackbbahodcaaGreatG14
import Derived.Test.YtkpackbbahodcaaGreatG7
import Derived.Test.YtkpackbbahodcaaGreatG13
import Derived.Deep.CutRange
import Derived.Deep.DeepCutAuto
import Derived.Test.YtkpackbbahodcaaGreatG10
/- The document's run without an end. -/
namespace Go.Proofs.YtkpackbbahodcaaGreat
open Go.RowKit
set_option linter.unusedVariables false
set_option linter.unusedSimpArgs false
attribute [local go_sem ↓] Go.wp_at_zero Go.wp_at_succ
theorem RuH.later {w w' : World} {A R : Option Addr} {cap rc : Nat} {ts : List Ts} {js : List Fv} (h : RuH w A R cap rc ts js) (hb : Below w.heap.size w w') : RuH w' A R cap rc ts js :=
  ⟨h.row.later hb, h.jobs.later hb, h.lg, h.t0, h.bd, h.ft, h.fj, h.tot⟩
set_option maxRecDepth 100000 in
set_option maxHeartbeats 8000000 in
theorem rrun_good {A R : Option Addr} {cap rc : Nat} {ts : List Ts} {js : List Fv} (w : World) (H : RuH w A R cap rc ts js) (hl : legS ts js = true) :
    Calls Tryz.prog 17 #[.slice A ts.length cap, .slice R js.length rc] w (RuP ts js 9223372036854775807 w) := by
  obtain ⟨W1, hW1, box0, B0⟩ : ∃ W1, w.alloc (.cells #[.slice none 0 0, .slice none 0 0, .slice none 0 0] TGo) = W1 ∧ W1.heap[w.heap.size]? = some (.cells #[.slice none 0 0, .slice none 0 0, .slice none 0 0] TGo (0, 0)) ∧ Below w.heap.size w W1 := ⟨_, rfl, heap_alloc_new w _, (Below.refl _ _).alloc (Nat.le_refl _) _⟩
  have H1 := Lib.hid (H.later B0)
  have LG := Lib.hid (rlegal_any A R cap rc ts js W1 H1.out.row H1.out.jobs)
  rw [hl] at LG
  have BX := Lib.hid box0
  have HB0 := Lib.hid B0
  clear H hl box0 B0
  go_enter Tryz.func17, Tryz.ntmps17
  go_upto_region 1 with (fail)
  try rw [hW1]
  clear hW1
  go_wp2_with (first
    | (go_at_call 28; (with_reducible refine LG.out.mono ?_); rintro e w2 ⟨rfl, h2⟩; have B2 := Lib.hid h2; have UN := Lib.hid (runtil_any (en := -1) (T := 9223372036854775807) w2 (H1.out.later h2) (.inr ⟨by decide, by decide, rfl⟩)); clear h2)
    | (go_at_call 29; (with_reducible refine UN.out.mono ?_); rintro e w3 ⟨vs, ge, gd, rfl, h3, h4, h5⟩
       obtain ⟨VA, vcp, rfl, -, -⟩ := own_len h3
       have hs0 := HB0.out.size
       have hs2 := B2.out.size
       have bx3 := (KT.of (S := []) h5).blk _ _ _ ((KT.of (S := []) B2.out).blk _ _ _ BX.out (by simp)) (by simp)
       have z0 := cell_of_row _ w.heap.size 0 _ _ _ bx3
       have z1 := cell_of_row _ w.heap.size 1 _ _ _ bx3
       have z2 := cell_of_row _ w.heap.size 2 _ _ _ bx3
       simp only [List.getElem?_toArray, List.getElem?_cons_zero, List.getElem?_cons_succ] at z0 z1 z2
       have f0 := frozen_of_row _ w.heap.size 0 _ _ bx3
       have f1 := frozen_of_row _ w.heap.size 1 _ _ bx3
       have f2 := frozen_of_row _ w.heap.size 2 _ _ bx3
       have B3 := Lib.hid ((HB0.out.trans (B2.out.mono hs0)).trans (h5.mono (by omega)))
       have S3 := Lib.hid (own_mono h3 (show w.heap.size ≤ w2.heap.size by omega))
       have E3 := Lib.hid (own_mono h4 (show w.heap.size ≤ w2.heap.size by omega))
       have e1 := heap_setCell_same _ _ 0 _ _ (.slice VA (tst ts js 9223372036854775807).sp.length vcp) bx3
       have e2 := heap_setCell_same _ _ 1 _ _ (.slice (some ⟨ge, 0, none⟩) js.length js.length) e1
       have e3 := Lib.hid (heap_setCell_same _ _ 2 _ _ (.slice (some ⟨gd, 0, none⟩) js.length js.length) e2)
       have k := Lib.hid (((KT.set (i := 0) (v := .slice VA (tst ts js 9223372036854775807).sp.length vcp) bx3 (S := [TGo]) (by simp)).trans (KT.set (i := 1) (v := .slice (some ⟨ge, 0, none⟩) js.length js.length) e1 (by simp))).trans (KT.set (i := 2) (v := .slice (some ⟨gd, 0, none⟩) js.length js.length) e2 (by simp)))
       clear h3 h4 h5 bx3 e1 e2))
  (try simp only [Exit.inBlock, Exit.then])
  exact bodyPost_ret (v := .agg #[.slice VA (tst ts js 9223372036854775807).sp.length vcp, .slice (some ⟨ge, 0, none⟩) js.length js.length, .slice (some ⟨gd, 0, none⟩) js.length js.length]) (results_got10 rfl _ _ _ rfl e3.out) rfl (by
    unfold RuP RuQ
    exact ⟨_, ge, gd, rfl, k.out.row S3.out (by decide), k.out.row E3.out (by decide), ((B3.out.setCell (p := ⟨w.heap.size, 0, none⟩) (Nat.le_refl _) _).setCell (p := ⟨w.heap.size, 1, none⟩) (Nat.le_refl _) _).setCell (p := ⟨w.heap.size, 2, none⟩) (Nat.le_refl _) _⟩)
end Go.Proofs.YtkpackbbahodcaaGreat
/- The document's run, as the laws call it. -/
namespace Go.Proofs.YtkpackbbahodcaaGreat
open Go.RowKit
set_option linter.unusedVariables false
set_option linter.unusedSimpArgs false
section
variable {ss : List Ts} {js : List Fv} {M n : Nat} {A R : Option Addr} {cap rc : Nat}
theorem ruh_sm (h : Sm ss js M n) (hn : n ≤ 10) (w : World) (hT : Row w A cap ss) (hR : FRow w R rc js) : RuH w A R cap rc ss js :=
  ⟨hT, hR, h.lgs, h.t, fun i hi => by have := h.arb hn hi; omega, by have := h.sM; have := h.M8; omega, by have := h.le; omega, by have := h.tot hn; omega⟩
/-- The document's spans, and ends. -/
def GotJ (sp : List Spn) (en : List Int) (w : World) (e : Ending) (w' : World) : Prop := ∃ A c B d D, e = .returned (.agg #[.slice A sp.length c, .slice B en.length d, .slice D en.length en.length]) ∧ SpR w' A c sp ∧ CRow w' B d en ∧ Below w.heap.size w w'
theorem rup_got (hl : Lg js) {T : Nat} (hT : T ≤ 9223372036854775807) (w : World) (e : Ending) (w' : World) (h : RuP ss js T w e w') : GotJ (tst ss js T).sp (tst ss js T).en w e w' := by
  obtain ⟨vs, ge, gd, rfl, h1, h2, h3⟩ := h
  obtain ⟨A, c, rfl, F⟩ := spr_own h1
  have hle := (ti_all (ts := ss) hl T).le
  obtain ⟨B, d, hv, hn, G, _⟩ := crow_own h2 (en_bd hl hT)
  simp only [Value.slice.injEq] at hv
  obtain ⟨rfl, _, rfl⟩ := hv
  exact ⟨A, c, _, _, _, by rw [hle], F, G, h3⟩
theorem rrun_sm (h : Sm ss js M n) (hn : n ≤ 10) (w : World) (hT : Row w A cap ss) (hR : FRow w R rc js) : Calls Tryz.prog 17 #[.slice A ss.length cap, .slice R js.length rc] w (GotJ (tst ss js 9223372036854775807).sp (tst ss js 9223372036854775807).en w) :=
  (rrun_good w (ruh_sm h hn w hT hR) h.lg).mono (rup_got h.lgs (Nat.le_refl _) w)
theorem runtil_sm (h : Sm ss js M n) (hn : n ≤ 10) (en : Int) (h0 : 0 ≤ en) (he : en ≤ 9000000000000000000) (w : World) (hT : Row w A cap ss) (hR : FRow w R rc js) : Calls Tryz.prog 29 #[.slice A ss.length cap, .slice R js.length rc, .int .i64 en] w (GotJ (tst ss js en.toNat).sp (tst ss js en.toNat).en w) :=
  (runtil_any w (ruh_sm h hn w hT hR) (.inl ⟨h0, rfl, he⟩)).mono (rup_got h.lgs (by omega) w)
end
end Go.Proofs.YtkpackbbahodcaaGreat
/- Where rows lie, once for all their places. -/
namespace Go.Proofs.YtkpackbbahodcaaGreat
open Go.RowKit
set_option linter.unusedVariables false
set_option linter.unusedSimpArgs false
theorem bel_step {W w w' : World} (h : Below W.heap.size W w) (hb : Below w.heap.size w w') : Below W.heap.size W w' := h.trans (hb.mono h.size)
/-- Cells of jobs. -/
def JPin (w : World) (b o : Nat) (js : List Fv) : Prop := ∀ i, i < js.length → w.cell? ⟨b, o + i * 5, none⟩ = some (.int .i64 (jb js i).t) ∧ w.cell? ⟨b, o + i * 5 + 1, none⟩ = some (.int .i64 (jb js i).a) ∧ w.cell? ⟨b, o + i * 5 + 2, none⟩ = some (.int .i64 (jb js i).r) ∧ w.cell? ⟨b, o + i * 5 + 3, none⟩ = some (.int .i64 (jb js i).k)
theorem FRow.pin {w : World} {A : Option Addr} {cap : Nat} {js : List Fv} (h : FRow w A cap js) (hn : 0 < js.length) : ∃ b o, A = some ⟨b, o, none⟩ ∧ b < w.heap.size ∧ JPin w b o js := by
  obtain ⟨b, o, x, C, cc, hA, hx, hb, hF⟩ := h.get (k := 0) hn
  refine ⟨b, o, hA, hb, fun i hi => ?_⟩
  obtain ⟨b', o', x', C', cc', hA', hx', hb', hF'⟩ := h.get (k := i) hi
  rw [hA] at hA'
  simp only [Option.some.injEq, Addr.mk.injEq, and_true] at hA'
  obtain ⟨rfl, rfl⟩ := hA'
  rw [jb_get hx']
  exact ⟨hF'.c0, hF'.c1, hF'.c2, hF'.c3⟩
theorem JPin.later {w w' : World} {b o : Nat} {js : List Fv} (h : JPin w b o js) (hb : Below w.heap.size w w') : JPin w' b o js := fun i hi =>
  ⟨cells_below hb _ _ _ (h i hi).1, cells_below hb _ _ _ (h i hi).2.1, cells_below hb _ _ _ (h i hi).2.2.1, cells_below hb _ _ _ (h i hi).2.2.2⟩
/-- Cells of tasks. -/
def TPin (w : World) (b o : Nat) (ts : List Ts) : Prop := ∀ u : Nat, u < ts.length → w.cell? ⟨b, o + u * 7 + 1, none⟩ = some (.int .i64 (tk ts (u : Int)).c) ∧ w.cell? ⟨b, o + u * 7 + 5, none⟩ = some (.int .i64 (tk ts (u : Int)).q) ∧ w.cell? ⟨b, o + u * 7 + 6, none⟩ = some (.int .i64 (tk ts (u : Int)).p)
theorem Row.pin {w : World} {A : Option Addr} {cap : Nat} {ts : List Ts} (h : Row w A cap ts) (hn : 0 < ts.length) : ∃ b o, A = some ⟨b, o, none⟩ ∧ b < w.heap.size ∧ TPin w b o ts := by
  obtain ⟨b, o, x, hA, hx, _, hb, hF⟩ := h.get (k := 0) hn
  refine ⟨b, o, hA, hb, fun i hi => ?_⟩
  obtain ⟨b', o', x', hA', hx', _, hb', hF'⟩ := h.get (k := i) hi
  rw [hA] at hA'
  simp only [Option.some.injEq, Addr.mk.injEq, and_true] at hA'
  obtain ⟨rfl, rfl⟩ := hA'
  rw [tk_get hx']
  exact ⟨hF'.c1, hF'.c5, hF'.c6⟩
theorem TPin.later {w w' : World} {b o : Nat} {ts : List Ts} (h : TPin w b o ts) (hb : Below w.heap.size w w') : TPin w' b o ts := fun i hi =>
  ⟨cells_below hb _ _ _ (h i hi).1, cells_below hb _ _ _ (h i hi).2.1, cells_below hb _ _ _ (h i hi).2.2⟩
/-- Cells of numbers. -/
def CPin (w : World) (b o : Nat) (l : List Int) : Prop := ∀ i, i < l.length → w.cell? ⟨b, o + i, none⟩ = some (.int .i64 (kO l i))
theorem CRow.pin {w : World} {A : Option Addr} {cap : Nat} {l : List Int} (h : CRow w A cap l) (hn : 0 < l.length) : ∃ b o, A = some ⟨b, o, none⟩ ∧ b < w.heap.size ∧ CPin w b o l := by
  obtain ⟨b, o, x, hA, hx, _, hb, hF⟩ := h.get (k := 0) hn
  refine ⟨b, o, hA, hb, fun i hi => ?_⟩
  obtain ⟨b', o', x', hA', hx', _, hb', hF'⟩ := h.get (k := i) hi
  rw [hA] at hA'
  simp only [Option.some.injEq, Addr.mk.injEq, and_true] at hA'
  obtain ⟨rfl, rfl⟩ := hA'
  have e : kO l i = x' := by simp [kO, hx']
  rw [e]
  exact hF'
theorem CPin.later {w w' : World} {b o : Nat} {l : List Int} (h : CPin w b o l) (hb : Below w.heap.size w w') : CPin w' b o l := fun i hi => cells_below hb _ _ _ (h i hi)
def spG (sp : List Spn) (k : Nat) : Spn := (sp[k]?).getD ⟨0, 0, 0⟩
theorem spG_mem {sp : List Spn} {k : Nat} (hk : k < sp.length) : spG sp k ∈ sp := by
  unfold spG
  rw [List.getElem?_eq_getElem hk]
  exact List.getElem_mem hk
theorem spG_map {sp : List Spn} {k : Nat} (f : Spn → Spn) (hk : k < sp.length) : spG (sp.map f) k = f (spG sp k) := by
  simp [spG, hk]
/-- Cells of spans. -/
def SPin (w : World) (b o : Nat) (sp : List Spn) : Prop := ∀ i, i < sp.length → w.cell? ⟨b, o + i * 3, none⟩ = some (.int .i64 ((spG sp i).j : Int)) ∧ w.cell? ⟨b, o + i * 3 + 1, none⟩ = some (.int .i64 (spG sp i).f) ∧ w.cell? ⟨b, o + i * 3 + 2, none⟩ = some (.int .i64 (spG sp i).t)
theorem SpR.pin {w : World} {A : Option Addr} {cap : Nat} {sp : List Spn} (h : SpR w A cap sp) (hn : 0 < sp.length) : ∃ b o, A = some ⟨b, o, none⟩ ∧ b < w.heap.size ∧ SPin w b o sp := by
  obtain ⟨b, o, x, hA, hx, hb, _⟩ := h.get (k := 0) hn
  refine ⟨b, o, hA, hb, fun i hi => ?_⟩
  obtain ⟨b', o', x', hA', hx', hb', hF'⟩ := h.get (k := i) hi
  rw [hA] at hA'
  simp only [Option.some.injEq, Addr.mk.injEq, and_true] at hA'
  obtain ⟨rfl, rfl⟩ := hA'
  have e : spG sp i = x' := by simp [spG, hx']
  rw [e]
  exact hF'
theorem SPin.later {w w' : World} {b o : Nat} {sp : List Spn} (h : SPin w b o sp) (hb : Below w.heap.size w w') : SPin w' b o sp := fun i hi =>
  ⟨cells_below hb _ _ _ (h i hi).1, cells_below hb _ _ _ (h i hi).2.1, cells_below hb _ _ _ (h i hi).2.2⟩
theorem cells3 (w : World) (T : TypeId) (v0 v1 v2 : Value) : (w.alloc (.cells #[v0, v1, v2] T)).cell? ⟨w.heap.size, 0, none⟩ = some v0 ∧ (w.alloc (.cells #[v0, v1, v2] T)).cell? ⟨w.heap.size, 1, none⟩ = some v1 ∧ (w.alloc (.cells #[v0, v1, v2] T)).cell? ⟨w.heap.size, 2, none⟩ = some v2 := by
  refine ⟨?_, ?_, ?_⟩ <;> (rw [cell_of_row _ _ _ _ _ _ (heap_alloc_new w _)]; rfl)
end Go.Proofs.YtkpackbbahodcaaGreat
/- Up to a tick: the program's run, and the document's. -/
namespace Go.Proofs.YtkpackbbahodcaaGreat
open Go.RowKit
set_option linter.unusedVariables false
set_option linter.unusedSimpArgs false
attribute [local go_sem ↓] Go.wp_at_zero Go.wp_at_succ
/-- The document's answer lies in a box. -/
def GoBx (sp : List Spn) (en : List Int) (w : World) (v : Value) (wx : World) : Prop := ∃ b A c B d, v = .pointer (some ⟨b, 0, none⟩) ∧ wx.cell? ⟨b, 0, none⟩ = some (.slice A sp.length c) ∧ wx.cell? ⟨b, 1, none⟩ = some (.slice B en.length d) ∧ SpR wx A c sp ∧ CRow wx B d en ∧ Below w.heap.size w wx
set_option maxRecDepth 100000 in
set_option maxHeartbeats 8000000 in
theorem until_law {ss : List Ts} {js : List Fv} {M n : Nat} {A R : Option Addr} {cap rc : Nat} (h : Sm ss js M n) (hn : n ≤ 10) (en : Int) (h0 : -9223372036854775808 ≤ en) (h1 : en ≤ 9000000000000000000) (w : World) (hT : Row w A cap ss) (hR : FRow w R rc js) :
    Calls Tryz.prog 20 #[.slice A ss.length cap, .slice R js.length rc, .int .i64 en] w fun e w' => e = .returned (.bool true) ∧ Below w.heap.size w w' := by
  have UN := Lib.hid (until_sm h hn en (by omega) w hT hR)
  have RU := fun W (hb : Below w.heap.size w W) => runtil_sm h hn (max en 0) (by omega) (by omega) W (hT.later hb) (hR.later hb)
  rw [show (max en 0).toNat = en.toNat by omega] at RU
  have RU := Lib.hid RU
  obtain ⟨sp, hsp⟩ : ∃ sp, (tst ss js en.toNat).sp = sp := ⟨_, rfl⟩
  obtain ⟨es, hes⟩ : ∃ es, (tst ss js en.toNat).en = es := ⟨_, rfl⟩
  rw [hsp, hes] at UN RU
  obtain ⟨mx, hmx⟩ : ∃ mx, max en 0 = mx := ⟨_, rfl⟩
  rw [hmx] at RU
  clear h hT hR hsp hes
  go_enter Tryz.func20, Tryz.ntmps20
  go_upto_region 2 with (go_at_call 22; (with_reducible refine UN.out.mono ?_); rintro e w1 ⟨A1, c1, B1, d1, rfl, hS, hE, hb1⟩; have HS := Lib.hid hS; have HE := Lib.hid hE; have HB1 := Lib.hid hb1; clear hS hE hb1)
  go_upto_region 3 with (go_at_call 29; (with_reducible refine (RU.out _ HB1.out).mono ?_); rintro e w2 ⟨A2, c2, B2, d2, D2, rfl, hS2, hE2, hb2⟩; have HS2 := Lib.hid hS2; have HE2 := Lib.hid hE2; have HB2 := Lib.hid hb2; clear hS2 hE2 hb2)
  have KS := Lib.hid (fun W (hb : Below w2.heap.size w2 W) => sameS_any (n := sp.length) W ((HS.out.later HB2.out).later hb) (HS2.out.later hb) rfl)
  have KT := Lib.hid (fun W (hb : Below w2.heap.size w2 W) => sameT_any (n := es.length) W ((HE.out.later HB2.out).later hb) (HE2.out.later hb) rfl)
  have BA := Lib.hid (show Below w2.heap.size w2 (w2.alloc (.cells #[.slice A2 sp.length c2, .slice B2 es.length d2, .slice D2 es.length es.length] TGo)) from (Below.refl _ _).alloc (Nat.le_refl _) _)
  have z1 := cells3 w2 TGo (.slice A2 sp.length c2) (.slice B2 es.length d2) (.slice D2 es.length es.length)
  have Z := Lib.hid z1
  clear z1
  obtain ⟨xb, hxb⟩ : ∃ xb, w2.heap.size = xb := ⟨_, rfl⟩
  obtain ⟨W3, hW3⟩ : ∃ W3, w2.alloc (.cells #[.slice A2 sp.length c2, .slice B2 es.length d2, .slice D2 es.length es.length] TGo) = W3 := ⟨_, rfl⟩
  rw [hW3] at BA Z ⊢
  have z0 := Z.out.1
  have z1 := Z.out.2.1
  rw [hxb] at z0 z1 ⊢
  clear hW3 hxb Z
  go_wp2_with (first
    | (go_at_call 18; (with_reducible refine (KS.out _ BA.out).mono ?_); rintro e w4 ⟨rfl, h4⟩; have HB4 := Lib.hid h4; have z1 := cells_below h4 _ _ _ z1; clear h4)
    | (go_at_call 19; (with_reducible refine (KT.out _ (bel_step BA.out HB4.out)).mono ?_); rintro e w5 ⟨rfl, h5⟩; have HB5 := Lib.hid h5; clear h5))
  go_ret
  exact ⟨rfl, (HB1.out.trans (HB2.out.mono HB1.out.size)).trans ((bel_step (bel_step BA.out HB4.out) HB5.out).mono (by have := HB1.out.size; have := HB2.out.size; omega))⟩
end Go.Proofs.YtkpackbbahodcaaGreat
/- What spans tell: work, gaps, and who is more urgent. -/
namespace Go.Proofs.YtkpackbbahodcaaGreat
set_option linter.unusedVariables false
set_option linter.unusedSimpArgs false
/-- How long a job runs, by spans. -/
def lenS (sp : List Spn) (i : Nat) : Int := ((sp.filter fun x => decide (x.j = i)).map fun x => x.t - x.f).sum
theorem lenS_app (a b : List Spn) (i : Nat) : lenS (a ++ b) i = lenS a i + lenS b i := by simp [lenS]
theorem lenS_one (x : Spn) (i : Nat) : lenS [x] i = if x.j = i then x.t - x.f else 0 := by
  unfold lenS
  by_cases h : x.j = i <;> simp [h]
/-- Spans from a tick on; what is idle between is idle, as nobody waits. -/
def Gap (js : List Fv) (en : List Int) (a b : Int) : Prop := ∀ i, i < js.length → (jb js i).r < b → kO en i ≤ a ∧ 0 < kO en i
def chn (js : List Fv) (en : List Int) : Int → List Spn → Prop
  | _, [] => True
  | a, x :: l => a ≤ x.f ∧ x.f < x.t ∧ x.j < js.length ∧ (jb js x.j).r ≤ x.f ∧ (a < x.f → Gap js en a x.f) ∧ chn js en x.t l
def lastA (sp : List Spn) : Int := (sp.getLast?.map (·.t)).getD 0
theorem lastA_app (l : List Spn) (x : Spn) : lastA (l ++ [x]) = x.t := by simp [lastA]
theorem chn_app {js : List Fv} {en : List Int} (x : Spn) : ∀ (a : Int) (l : List Spn), chn js en a (l ++ [x]) ↔ chn js en a l ∧ chn js en ((l.getLast?.map (·.t)).getD a) [x]
  | a, [] => by simp [chn]
  | a, y :: l => by
    rw [List.cons_append, chn, chn, chn_app x y.t l]
    have : ((y :: l).getLast?.map (·.t)).getD a = (l.getLast?.map (·.t)).getD y.t := by
      rcases List.eq_nil_or_concat l with h | ⟨m, z, h⟩
      · subst h; rfl
      · rw [List.concat_eq_append] at h; subst h
        rw [← List.cons_append, List.getLast?_concat, List.getLast?_concat]
        rfl
    rw [this]
    constructor
    · rintro ⟨h1, h2, h3, h4, h5, h6, h7⟩; exact ⟨⟨h1, h2, h3, h4, h5, h6⟩, h7⟩
    · rintro ⟨⟨h1, h2, h3, h4, h5, h6⟩, h7⟩; exact ⟨h1, h2, h3, h4, h5, h6, h7⟩
theorem chn_en {js : List Fv} {en en' : List Int} (h : ∀ i, i < js.length → 0 < kO en i → kO en' i = kO en i) : ∀ (a : Int) (l : List Spn), chn js en a l → chn js en' a l
  | _, [], _ => trivial
  | a, x :: l, ⟨h1, h2, h3, h4, h5, h6⟩ => ⟨h1, h2, h3, h4, fun hl i hi hr => by
      have := h5 hl i hi hr
      rw [h i hi this.2]; exact this, chn_en h x.t l h6⟩
/-- The last span goes on. -/
def exS0 (sp : List Spn) (i : Nat) (t : Int) : Bool := match sp.getLast? with | none => false | some x => decide (x.j = i) && decide (x.t = t)
theorem ex0_no {sp : List Spn} {i : Nat} {t m : Int} (h : exS0 sp i t = false) : addN sp i t m = sp ++ [⟨i, t, t + m⟩] := by
  unfold exS0 at h
  unfold addN
  cases hl : sp.getLast? with
  | none => rfl
  | some x =>
    rw [hl] at h
    simp only at h ⊢
    rw [if_neg]
    rintro ⟨h1, h2⟩
    rw [decide_eq_true h1, decide_eq_true h2] at h
    cases h
theorem ex0_yes {sp : List Spn} {i : Nat} {t m : Int} (h : exS0 sp i t = true) : ∃ l x, sp = l ++ [x] ∧ x.j = i ∧ x.t = t ∧ addN sp i t m = l ++ [⟨x.j, x.f, t + m⟩] := by
  unfold exS0 at h
  unfold addN
  cases hl : sp.getLast? with
  | none => rw [hl] at h; cases h
  | some x =>
    rw [hl] at h
    simp only [Bool.and_eq_true, decide_eq_true_eq] at h ⊢
    obtain ⟨l, rfl⟩ := List.getLast?_eq_some_iff.1 hl
    refine ⟨l, x, rfl, h.1, h.2, ?_⟩
    rw [if_pos h]
    simp [h.1]
theorem chn_mem {js : List Fv} {en : List Int} : ∀ {a : Int} {l : List Spn}, chn js en a l → ∀ x ∈ l, x.j < js.length ∧ (a ≤ x.f ∧ x.f < x.t) ∧ x.t ≤ (l.getLast?.map (·.t)).getD a
  | _, [], _, x, hx => by cases hx
  | a, y :: l, ⟨h1, h2, h3, h4, h5, h6⟩, x, hx => by
    have hl : ((y :: l).getLast?.map (·.t)).getD a = (l.getLast?.map (·.t)).getD y.t := by
      rcases List.eq_nil_or_concat l with h | ⟨m, z, h⟩
      · subst h; rfl
      · rw [List.concat_eq_append] at h; subst h
        rw [← List.cons_append, List.getLast?_concat, List.getLast?_concat]
        rfl
    rw [hl]
    rcases List.mem_cons.1 hx with rfl | hx
    · refine ⟨h3, ⟨h1, h2⟩, ?_⟩
      cases hg : l.getLast? with
      | none => simp
      | some z =>
        have hz := List.mem_of_getLast? hg
        have := chn_mem h6 z hz
        simp
        omega
    · have := chn_mem h6 x hx
      exact ⟨this.1, ⟨by omega, this.2.1.2⟩, this.2.2⟩
/-- What holds of spans at tick n. -/
structure Wk (js : List Fv) (n : Int) (s : TSt) : Prop where
  ch : chn js s.en 0 s.sp
  la : lastA s.sp ≤ n
  l0 : 0 ≤ lastA s.sp
  gp : lastA s.sp < n → Gap js s.en (lastA s.sp) n
  wk : ∀ i, i < js.length → lenS s.sp i = kO s.dn i
  en : ∀ x ∈ s.sp, kO s.dn x.j = (jb js x.j).k → x.t ≤ kO s.en x.j
  tm : ∀ i, i < js.length → 0 < kO s.dn i → (jb js i).r + kO s.dn i ≤ n ∧ (kO s.dn i = (jb js i).k → (jb js i).r + kO s.dn i ≤ kO s.en i)
section
variable {ts : List Ts} {js : List Fv}
theorem wk_all (hl : Lg js) : ∀ n : Nat, Wk js n (tst ts js n)
  | 0 => by
    refine ⟨trivial, Int.le_refl _, Int.le_refl _, fun h => by simp [tst, lastA] at h, fun i hi => ?_, fun x hx => by simp [tst] at hx, fun i hi hp => ?_⟩
    · simp only [tst]; rw [kO_rep _ _ _ hi]; rfl
    · simp only [tst] at hp; rw [kO_rep _ _ _ hi] at hp; omega
  | n + 1 => by
    have h := wk_all hl n
    have hI := ti_all (ts := ts) hl n
    have hn : ((n + 1 : Nat) : Int) = (n : Int) + 1 := by omega
    rw [tst_succ]
    cases hw : whoS ts js (tst ts js n) n with
    | none =>
      have hno := hI.who_none hl hw
      rw [tstep_none hw]
      refine ⟨h.ch, by have := h.la; simp only; omega, h.l0, fun hlt i hi hr => ?_, h.wk, h.en, fun i hi hp => ⟨by have := (h.tm i hi hp).1; simp only; omega, (h.tm i hi hp).2⟩⟩
      have hd : kO (tst ts js n).dn i = (jb js i).k := not_rdy (hI.d0 i hi).2 (hno i hi) (by omega)
      have hk := hl.k1 i hi
      rcases hI.en i hi with he | he
      · omega
      · refine ⟨?_, he.2.1⟩
        by_cases hla : lastA (tst ts js n).sp < n
        · by_cases hr2 : (jb js i).r < n
          · exact (h.gp hla i hi hr2).1
          · exfalso
            have := (h.tm i hi (by omega)).1
            omega
        · have := h.la
          simp only
          omega
    | some i =>
      obtain ⟨h1, h2, h3⟩ := hI.who_some hl hw
      have hid : i < (tst ts js n).dn.length := by rw [hI.ld]; exact h1
      have hie : i < (tst ts js n).en.length := by rw [hI.le]; exact h1
      have hd0 := hI.d0 i h1
      have hr0 := hl.r0 i h1
      have hki := hl.k1 i h1
      rw [tstep_some hw]
      have hen : ∀ j, j < js.length → 0 < kO (tst ts js n).en j → kO (runM js (tst ts js n) n i 1).en j = kO (tst ts js n).en j := by
        intro j hj hp
        simp only [runM]
        split
        · rw [kO_set _ _ hie]
          split
          · subst j
            rcases hI.en i h1 with he | he <;> omega
          · rfl
        · rfl
      have hch := chn_en hen 0 _ h.ch
      obtain ⟨sp', hsp⟩ : ∃ sp', (runM js (tst ts js n) n i 1).sp = sp' := ⟨_, rfl⟩
      have hsp2 : addN (tst ts js n).sp i n 1 = sp' := hsp
      have hla := h.la
      have key : chn js (runM js (tst ts js n) n i 1).en 0 sp' ∧ lastA sp' = (n : Int) + 1 ∧ (∀ j, lenS sp' j = lenS (tst ts js n).sp j + (if i = j then 1 else 0)) ∧ (∀ x ∈ sp', (x ∈ (tst ts js n).sp) ∨ (x.j = i ∧ x.t = (n : Int) + 1)) := by
        cases hx : exS0 (tst ts js n).sp i n with
        | false =>
          have e : sp' = (tst ts js n).sp ++ [⟨i, n, (n : Int) + 1⟩] := by rw [← hsp2]; exact ex0_no hx
          subst e
          refine ⟨(chn_app _ _ _).2 ⟨hch, hla, by simp only; omega, h1, h2, fun hlt => ?_, trivial⟩, lastA_app _ _, fun j => ?_, fun x hx => ?_⟩
          · have hg := h.gp hlt
            intro j hj hr
            have := hg j hj hr
            rw [hen j hj this.2]; exact this
          · rw [lenS_app, lenS_one]
            simp only
            split <;> omega
          · rcases List.mem_append.1 hx with hx | hx
            · exact .inl hx
            · rw [List.mem_singleton.1 hx]; exact .inr ⟨rfl, rfl⟩
        | true =>
          obtain ⟨l, x, e1, e2, e3, e4⟩ := ex0_yes (m := 1) hx
          rw [hsp2] at e4
          subst e4
          rw [e1] at hch
          obtain ⟨c1, c2⟩ := (chn_app _ _ _).1 hch
          obtain ⟨d1, d2, d3, d4, d5, -⟩ := c2
          refine ⟨(chn_app _ _ _).2 ⟨c1, d1, by simp only; omega, d3, d4, d5, trivial⟩, lastA_app _ _, fun j => ?_, fun y hy => ?_⟩
          · rw [e1, lenS_app, lenS_app, lenS_one, lenS_one]
            simp only
            rw [e2]
            split <;> omega
          · rw [e1]
            rcases List.mem_append.1 hy with hy | hy
            · exact .inl (by simp [hy])
            · rw [List.mem_singleton.1 hy]; exact .inr ⟨e2, rfl⟩
      obtain ⟨k1, k2, k3, k4⟩ := key
      have hdn : ∀ j, kO (runM js (tst ts js n) n i 1).dn j = if j = i then kO (tst ts js n).dn i + 1 else kO (tst ts js n).dn j := fun j => by simp only [runM]; rw [kO_set _ _ hid]
      refine ⟨by rw [hsp]; exact k1, by rw [hsp, k2]; omega, by rw [hsp, k2]; omega, fun hlt => by rw [hsp, k2] at hlt; omega, fun j hj => ?_, fun x hx => ?_, fun j hj hp => ?_⟩
      · rw [hsp, k3, hdn, h.wk j hj]
        by_cases e : j = i
        · subst e; simp
        · rw [if_neg e, if_neg (fun h => e h.symm)]; omega
      · rw [hsp] at hx
        rw [hdn]
        intro hk
        have hei : x.j = i → kO (runM js (tst ts js n) n i 1).en x.j = (n : Int) + 1 := fun e => by
          rw [e] at hk ⊢
          rw [if_pos rfl] at hk
          simp only [runM]
          rw [if_pos hk, kO_set _ _ hie, if_pos rfl]
        rcases k4 x hx with hm | ⟨e1, e2⟩
        · by_cases e : x.j = i
          · rw [hei e]
            have := (chn_mem hch x hm).2.2
            have h9 := h.la
            unfold lastA at h9
            omega
          · rw [if_neg e] at hk
            have := h.en x hm hk
            have hxl := (chn_mem hch x hm).1
            rw [hen x.j hxl (by
              have := hl.k1 _ hxl
              rcases hI.en x.j hxl with h | h
              · omega
              · exact h.2.1)]
            exact this
        · rw [hei e1, e2]; exact Int.le_refl _
      · rw [hdn] at hp ⊢
        by_cases e : j = i
        · subst e
          rw [if_pos rfl] at hp ⊢
          have hb : (jb js j).r + kO (tst ts js n).dn j ≤ n := by
            rcases Int.lt_or_le 0 (kO (tst ts js n).dn j) with hq | hq
            · exact (h.tm j hj hq).1
            · omega
          refine ⟨by omega, fun hk => ?_⟩
          simp only [runM]
          rw [if_pos hk, kO_set _ _ hie, if_pos rfl]
          omega
        · rw [if_neg e] at hp ⊢
          have := h.tm j hj hp
          refine ⟨by omega, fun hk => ?_⟩
          rw [hen j hj (by
            have := hl.k1 j hj
            rcases hI.en j hj with h | h
            · omega
            · exact h.2.1)]
          exact this.2 hk
end
end Go.Proofs.YtkpackbbahodcaaGreat
/- What a law knows of a run. -/
namespace Go.Proofs.YtkpackbbahodcaaGreat
open Go.RowKit
set_option linter.unusedVariables false
set_option linter.unusedSimpArgs false
structure RnF (b : Int) (ss : List Ts) (js : List Fv) (sp : List Spn) (es : List Int) : Prop where
  le : es.length = js.length
  sj : ∀ x ∈ sp, x.j < js.length ∧ 0 ≤ x.f ∧ x.f < x.t ∧ x.t ≤ b
  en : ∀ i, i < js.length → 0 < kO es i ∧ kO es i ≤ b
  no : js.length = 0 → sp = []
theorem rnf_gen {ss : List Ts} {js : List Fv} (hl : Lg js) {T : Nat} {b : Int} (hT : (T : Int) ≤ b) (hd : ∀ i, i < js.length → kO (tst ss js T).dn i = (jb js i).k) : RnF b ss js (tst ss js T).sp (tst ss js T).en := by
  have hI := ti_all (ts := ss) hl T
  have hW := wk_all (ts := ss) hl T
  have sj : ∀ x ∈ (tst ss js T).sp, x.j < js.length ∧ 0 ≤ x.f ∧ x.f < x.t ∧ x.t ≤ b := fun x hx => by
    have h1 := chn_mem hW.ch x hx
    have h2 := hW.la
    unfold lastA at h2
    exact ⟨h1.1, h1.2.1.1, h1.2.1.2, by omega⟩
  refine ⟨hI.le, sj, fun i hi => ?_, fun h0 => ?_⟩
  · have := hd i hi
    rcases hI.en i hi with h1 | h1
    · omega
    · exact ⟨h1.2.1, by omega⟩
  · cases hs : (tst ss js T).sp with
    | nil => rfl
    | cons x l => have := (sj x (by rw [hs]; simp)).1; omega
theorem rnf_sm {ss : List Ts} {js : List Fv} {M n : Nat} (h : Sm ss js M n) (hn : n ≤ 10) : RnF 381 ss js (tst ss js 9223372036854775807).sp (tst ss js 9223372036854775807).en := by
  obtain ⟨-, h2, h3⟩ := done_later (ts := ss) h.lgs (show 381 ≤ 9223372036854775807 by omega) (h.done hn)
  rw [h2, h3]
  exact rnf_gen (ss := ss) h.lgs (by omega) (h.done hn)
/-- Spans, and ends, with how many there are. -/
def RunK (m n : Nat) (sp : List Spn) (en : List Int) (w : World) (e : Ending) (w' : World) : Prop := ∃ A c B d, e = .returned (.tuple #[.slice A m c, .slice B n d]) ∧ SpR w' A c sp ∧ CRow w' B d en ∧ Below w.heap.size w w'
theorem runk_of {m n : Nat} {sp : List Spn} {en : List Int} {w : World} (hm : sp.length = m) (hn : en.length = n) (e : Ending) (w' : World) (h : RunJ sp en w e w') : RunK m n sp en w e w' := by
  subst hm; subst hn; exact h
/-- Any legal jobs, run. -/
theorem runk_leg {A R : Option Addr} {cap rc k m n : Nat} {ts : List Ts} {js : List Fv} {sp : List Spn} {en : List Int} (w : World) (hT : Row w A cap ts) (hR : FRow w R rc js) (hk : js.length = k) (hD : Dist ts) (ft : ts.length ≤ 1000) (fj : js.length ≤ 1000) (htot : (js.map (·.k)).sum ≤ 1000000000) (hl : legS ts js = true)
    (hs : (tst ts js 9223372036854775807).sp = sp) (he : (tst ts js 9223372036854775807).en = en) (hm : sp.length = m) (hn : en.length = n) :
    Calls Tryz.prog 16 #[.slice A ts.length cap, .slice R k rc] w (RunK m n sp en w) := by
  subst hk; subst hs; subst he
  exact (run_leg w hT hR hD ft fj htot hl).mono (runk_of hm hn)
theorem runk_sm {ss : List Ts} {js : List Fv} {M l m n k : Nat} {A R : Option Addr} {cap rc : Nat} {sp : List Spn} {en : List Int} (h : Sm ss js M l) (hn : l ≤ 10) (w : World) (hT : Row w A cap ss) (hR : FRow w R rc js) (hk : js.length = k)
    (hs : (tst ss js 9223372036854775807).sp = sp) (he : (tst ss js 9223372036854775807).en = en) (hm : sp.length = m) (hnn : en.length = n) : Calls Tryz.prog 16 #[.slice A ss.length cap, .slice R k rc] w (RunK m n sp en w) :=
  runk_leg w hT hR hk h.di (by have := h.sM; have := h.M8; omega) (by have := h.le; omega) (by have := h.tot hn; omega) h.lg hs he hm hnn
/-- The low bits. -/
theorem low40 (n : Int) : ∃ m : Nat, m < 1099511627776 ∧ bits .and .i64 n 1099511627775 = (m : Int) := by
  have h : (BitVec.ofInt 64 n &&& BitVec.ofInt 64 1099511627775).toNat ≤ 1099511627775 := by
    rw [BitVec.toNat_and]
    exact Nat.and_le_right
  have e : bits .and .i64 n 1099511627775 = IntKind.i64.wrap (((BitVec.ofInt 64 n &&& BitVec.ofInt 64 1099511627775).toNat : Nat) : Int) := rfl
  rw [e]
  generalize (BitVec.ofInt 64 n &&& BitVec.ofInt 64 1099511627775).toNat = z at *
  exact ⟨z, by omega, IntWalk.i64_in _ (by omega)⟩
theorem low20 (n : Int) : ∃ m : Nat, m < 1048576 ∧ bits .and .i64 n 1048575 = (m : Int) := by
  have h : (BitVec.ofInt 64 n &&& BitVec.ofInt 64 1048575).toNat ≤ 1048575 := by
    rw [BitVec.toNat_and]
    exact Nat.and_le_right
  have e : bits .and .i64 n 1048575 = IntKind.i64.wrap (((BitVec.ofInt 64 n &&& BitVec.ofInt 64 1048575).toNat : Nat) : Int) := rfl
  rw [e]
  generalize (BitVec.ofInt 64 n &&& BitVec.ofInt 64 1048575).toNat = z at *
  exact ⟨z, by omega, IntWalk.i64_in _ (by omega)⟩
end Go.Proofs.YtkpackbbahodcaaGreat
/- Rows of jobs that a law makes, or turns. -/
namespace Go.Proofs.YtkpackbbahodcaaGreat
open Go.RowKit
set_option linter.unusedVariables false
set_option linter.unusedSimpArgs false
theorem gvC_set : ∀ (gs : List Gv) (i : Nat) (g g' : Gv), gs[i]? = some g → ∀ (j : Nat) (u : Value), j < 5 → fvL g'.x g'.A g'.cap = (fvL g.x g.A g.cap).set j u → gvC (gs.set i g') = (gvC gs).set (i * 5 + j) u
  | [], i, g, g', h, j, u, hj, he => by simp at h
  | a :: r, 0, g, g', h, j, u, hj, he => by
    simp at h
    subst h
    have hl : j < (fvL a.x a.A a.cap).length := by simp [fvL]; omega
    simp only [List.set_cons_zero, gvC, List.flatMap_cons, he, Nat.zero_mul, Nat.zero_add]
    rw [List.set_append, if_pos hl]
  | a :: r, i + 1, g, g', h, j, u, hj, he => by
    simp only [List.getElem?_cons_succ] at h
    have ih := gvC_set r i g g' h j u hj he
    have hl : (fvL a.x a.A a.cap).length = 5 := rfl
    simp only [List.set_cons_succ, gvC, List.flatMap_cons] at ih ⊢
    rw [ih, List.set_append, if_neg (by rw [hl]; omega)]
    congr 2
    rw [hl]
    omega
theorem FOwn.setI {e : TypeId} {B : Nat} {w : World} {q n cap : Nat} {gs : List Gv} {i : Nat} {g g' : Gv} (h : FOwn e B w (.slice (some ⟨q, 0, none⟩) n cap) gs) (hi : gs[i]? = some g) (j : Nat) (hj : j < 5) (u : Value)
    (he : fvL g'.x g'.A g'.cap = (fvL g.x g.A g.cap).set j u) (hg : GOk e B w g') : FOwn e B (w.setCell ⟨q, i * 5 + j, none⟩ u) (.slice (some ⟨q, 0, none⟩) n cap) (gs.set i g') := by
  have hil := (List.getElem?_eq_some_iff.1 hi).1
  have hk : ∀ b, b < w.heap.size → b < B ∨ (∃ cs T fr, w.heap[b]? = some (.cells cs T fr) ∧ T ≠ e) → (w.setCell ⟨q, i * 5 + j, none⟩ u).heap[b]? = w.heap[b]? := fun b hb hs => Below.heap_setCell _ _ _ _ (fun hq => by
    have hq' : b = q := hq
    subst hq'
    rcases hs with hs | ⟨cs, T, fr, hs, hT⟩
    · have := (h.row.lt b rfl).1; omega
    · exact own_ne h.row hs hT rfl)
  refine ⟨?_, fun y hy => ?_⟩
  · rw [List.length_set, gvC_set gs i g g' hi j u hj he]
    exact own_set h.row rfl (by omega) u
  · rcases List.mem_or_eq_of_mem_set hy with hy | rfl
    · exact (h.each y hy).kept hk
    · exact hg.kept hk
/-- What is known of a row's own place. -/
theorem FOwn.at_ {e : TypeId} {B : Nat} {w : World} {q n cap : Nat} {gs : List Gv} {i : Nat} {g : Gv} (h : FOwn e B w (.slice (some ⟨q, 0, none⟩) n cap) gs) (hi : gs[i]? = some g) : ∀ j u, (fvL g.x g.A g.cap)[j]? = some u → w.cell? ⟨q, i * 5 + j, none⟩ = some u := fun j u hu => own_cell h.row rfl (gvC_get gs i g hi j u hu)
theorem FOwn.old {e e' : TypeId} {B : Nat} {w : World} {v : Value} {gs : List Gv} (h : FOwn e B w v gs) : ∀ g ∈ gs, GOk e' w.heap.size w g := fun g hg => by
  have ho := h.each g hg
  refine ⟨ho.wf, ho.s, fun hne a ha => .inl ?_⟩
  obtain ⟨b, o, x, hA, _, _, hlt, _⟩ := ho.s.get (k := 0) (by rcases Nat.eq_zero_or_pos g.x.c.length with h0 | h0; exact absurd (List.length_eq_zero_iff.1 h0) hne; exact h0)
  rw [ha] at hA
  cases hA
  exact hlt
abbrev Q2 (N : Nat) (a b : Int) (W : World) : Prop := W.cell? ⟨N, 0, none⟩ = some (.int .i64 a) ∧ W.cell? ⟨N, 1, none⟩ = some (.int .i64 b)
theorem Q2.step {N : Nat} {a b : Int} {W W' : World} (h : Q2 N a b W) (hb : Below W.heap.size W W') : Q2 N a b W' := ⟨cells_below hb _ _ _ h.1, cells_below hb _ _ _ h.2⟩
theorem arr2 {w w1 : World} {t : TypeId} {v0 v1 : Int} (h : Below (w.alloc (.cells #[.int .i64 v0, .int .i64 v1] t)).heap.size (w.alloc (.cells #[.int .i64 v0, .int .i64 v1] t)) w1) :
    Q2 w.heap.size v0 v1 w1 ∧ Below w.heap.size w w1 := by
  have hs := h.size
  simp only [World.size_alloc] at hs
  have hc : ∀ i, w1.cell? ⟨w.heap.size, i, none⟩ = (#[.int .i64 v0, .int .i64 v1] : Array Value)[i]? := fun i => by
    rw [h.cell (p := ⟨w.heap.size, i, none⟩) (by simp), cell_of_row _ _ i _ _ _ (heap_alloc_new w _)]
  exact ⟨⟨hc 0, hc 1⟩, ((Below.refl w.heap.size w).alloc (Nat.le_refl _) _).trans (h.mono (by simp))⟩
/-- One more thing, by what append tells. -/
theorem push_step {e : TypeId} {w0 W1 W2 w8 : World} {v v' : Value} {gs : List Gv} {g : Gv} (h : FOwn e w0.heap.size W1 v gs) (hg : GOk e w0.heap.size W1 g) (hb : Below w0.heap.size w0 W1) (ba : Below W1.heap.size W1 W2)
    (hown : w8.ownsRow w0.heap.size e 5 v' (gs.length + 1) (gvC gs ++ fvL g.x g.A g.cap)) (hgr : W2.grownBy w8 v.ownBlock) : FOwn e w0.heap.size w8 v' (gs ++ [g]) ∧ Below w0.heap.size w0 w8 :=
  ⟨(h.later ba).push (hg.kept fun b hl _ => ba.block b hl) hown hgr, (hb.trans (ba.mono hb.size)).grown hgr (by have := hb.size; have := ba.size; omega) (fun q hq => (h.row.lt q hq).1)⟩
/-- A row of jobs that is being made. -/
structure JIn (w0 wr : World) (v : Value) (xs : List Fv) : Prop where
  own : ∃ gs, FOwn 46 w0.heap.size wr v gs ∧ gs.map (·.x) = xs
  bel : Below w0.heap.size w0 wr
theorem JIn.nil (w0 : World) : JIn w0 w0 (.slice none 0 0) [] := ⟨⟨[], FOwn.nil _ _ _, rfl⟩, Below.refl _ _⟩
theorem chk_nil : (chkAll []).2 ≠ 0 := by simp [chkAll]
theorem legS_nil (js : List Fv) : legS [] js = false := by
  rw [legS]
  have : decide ((chkAll []).2 = 0 ∧ js.length ≤ 4096) = false := decide_eq_false (fun h => chk_nil h.1)
  rw [this]; rfl
end Go.Proofs.YtkpackbbahodcaaGreat
/- Nobody waits for a less urgent one, but for the rest of a section. -/
namespace Go.Proofs.YtkpackbbahodcaaGreat
set_option linter.unusedVariables false
set_option linter.unusedSimpArgs false
/-- Ticks within sections, one behind the other, are within one. -/
theorem wth_row (q : Int) : ∀ (c : List Int) (lo hi : Int), Pos1 c → (∀ y ∈ c, y ≤ q) → lo ≤ hi → (∀ d, lo ≤ d → d ≤ hi → wthS c d = true) → hi - lo + 1 ≤ q - 1
  | [], lo, hi, _, _, h, hw => by have := hw lo (Int.le_refl _) h; simp [wthS] at this
  | a :: c, lo, hi, hp, hq, h, hw => by
    have ha := hp.head
    have haq := hq a (by simp)
    have hlo := (wthS_lt hp (hw lo (Int.le_refl _) h)).1
    rcases Int.lt_or_le hi a with h1 | h1
    · omega
    · rcases Int.lt_or_le lo a with h2 | h2
      · exfalso
        have := hw a (by omega) h1
        rw [wthS, Int.sub_self, wthS_neg c 0 hp.tail (Int.le_refl _), decide_eq_false (show ¬ a < a by omega)] at this
        simp at this
      · have := wth_row q c (lo - a) (hi - a) hp.tail (fun y hy => hq y (List.mem_cons_of_mem _ hy)) (by omega) (fun d hd1 hd2 => by
          have := hw (d + a) (by omega) (by omega)
          rw [wthS, decide_eq_false (show ¬ d + a < a by omega), Bool.and_false, Bool.false_or, show d + a - a = d by omega] at this
          exact this)
        omega
structure Ug (ts : List Ts) (js : List Fv) (q : Nat → Int) (n : Int) (s : TSt) : Prop where
  ru : ∀ i, s.ru = some i → ∃ l x, s.sp = l ++ [x] ∧ x.j = i ∧ x.t = n
  la : ∀ x, s.sp.getLast? = some x → ∀ k, k < js.length → k ≠ x.j → kO s.en k ≤ x.f
  se : ∀ x, s.sp.getLast? = some x → ∀ k, k < js.length → prO ts js k < prO ts js x.j → kO s.en k = -1 → (jb js k).r < x.t → ∀ u, (jb js k).r ≤ u → u < x.t → wthS (jb js x.j).c (kO s.dn x.j - (x.t - u)) = true
  sp : ∀ x ∈ s.sp, ∀ k, k < js.length → prO ts js k < prO ts js x.j → (kO s.en k = -1 ∨ x.f < kO s.en k) → (jb js k).r < x.t → x.f < (jb js k).r ∧ x.t - (jb js k).r ≤ q x.j - 1
section
variable {ts : List Ts} {js : List Fv} {q : Nat → Int}
theorem ug_all (hl : Lg js) (hq : ∀ i, ∀ y ∈ (jb js i).c, y ≤ q i) : ∀ n : Nat, Ug ts js q n (tst ts js n)
  | 0 => ⟨fun i hi => by simp [tst] at hi, fun x hx => by simp [tst] at hx, fun x hx => by simp [tst] at hx, fun x hx => by simp [tst] at hx⟩
  | n + 1 => by
    have h := ug_all hl hq n
    have hI := ti_all (ts := ts) hl n
    have hW := wk_all (ts := ts) hl n
    have hn : ((n + 1 : Nat) : Int) = (n : Int) + 1 := by omega
    rw [tst_succ]
    cases hw : whoS ts js (tst ts js n) n with
    | none =>
      rw [tstep_none hw]
      exact ⟨(fun i hi => by cases hi), h.la, h.se, h.sp⟩
    | some i =>
      rw [tstep_some hw]
      obtain ⟨h1, h2, h3⟩ := hI.who_some hl hw
      have hid : i < (tst ts js n).dn.length := by rw [hI.ld]; exact h1
      have hie : i < (tst ts js n).en.length := by rw [hI.le]; exact h1
      have hdn : kO (runM js (tst ts js n) n i 1).dn i = kO (tst ts js n).dn i + 1 := by simp only [runM]; rw [kO_set _ _ hid, if_pos rfl]
      have hen : ∀ k, k ≠ i → kO (runM js (tst ts js n) n i 1).en k = kO (tst ts js n).en k := by
        intro k hk
        simp only [runM]
        split
        · rw [kO_set _ _ hie, if_neg hk]
        · rfl
      have hei : kO (runM js (tst ts js n) n i 1).en i = kO (tst ts js n).en i ∨ kO (runM js (tst ts js n) n i 1).en i = (n : Int) + 1 := by
        simp only [runM]
        split
        · rw [kO_set _ _ hie, if_pos rfl]; exact .inr rfl
        · exact .inl rfl
      -- a more urgent one that waits: then it is within a section
      have hwait : ∀ k, k < js.length → prO ts js k < prO ts js i → kO (tst ts js n).en k = -1 → (jb js k).r ≤ n → (tst ts js n).ru = some i ∧ wthS (jb js i).c (kO (tst ts js n).dn i) = true := by
        intro k hk hp hek hr
        have hkd : kO (tst ts js n).dn k < (jb js k).k := by
          rcases hI.en k hk with he | he
          · exact he.1
          · omega
        have hnp : pkN ts js (tst ts js n).dn n js.length ≠ some i := by
          intro hpk
          have := ((pkN_spec _).2 i hpk).2.2 k hk (rdy_iff.2 ⟨hr, hkd⟩)
          omega
        unfold whoS at hw
        cases hru : (tst ts js n).ru with
        | none => rw [hru] at hw; exact absurd hw hnp
        | some c =>
          rw [hru] at hw
          simp only at hw
          split at hw
          · rename_i hwt
            injection hw with hw
            subst hw
            exact ⟨rfl, hwt⟩
          · exact absurd hw hnp
      obtain ⟨sp', hsp⟩ : ∃ sp', (runM js (tst ts js n) n i 1).sp = sp' := ⟨_, rfl⟩
      have hsp2 : addN (tst ts js n).sp i n 1 = sp' := hsp
      -- of spans ahead
      have old : ∀ x ∈ (tst ts js n).sp, ∀ k, k < js.length → prO ts js k < prO ts js x.j → (kO (runM js (tst ts js n) n i 1).en k = -1 ∨ x.f < kO (runM js (tst ts js n) n i 1).en k) → (jb js k).r < x.t → x.f < (jb js k).r ∧ x.t - (jb js k).r ≤ q x.j - 1 := by
        intro x hx k hk hp he hr
        refine h.sp x hx k hk hp ?_ hr
        by_cases e : k = i
        · subst e
          have := hI.en k hk
          rcases this with h5 | h5
          · exact .inl h5.2
          · omega
        · rw [hen k e] at he
          exact he
      cases hx : exS0 (tst ts js n).sp i n with
      | false =>
        have e : sp' = (tst ts js n).sp ++ [⟨i, n, (n : Int) + 1⟩] := by rw [← hsp2]; exact ex0_no hx
        have no : ∀ k, k < js.length → prO ts js k < prO ts js i → kO (tst ts js n).en k = -1 → ¬ (jb js k).r ≤ n := by
          intro k hk hp hek hr
          obtain ⟨hru, _⟩ := hwait k hk hp hek hr
          obtain ⟨l, x, g1, g2, g3⟩ := h.ru i hru
          unfold exS0 at hx
          rw [g1] at hx
          simp [g2, g3] at hx
        have hne : ∀ k, prO ts js k < prO ts js i → k ≠ i := fun k hp e => by rw [e] at hp; omega
        refine ⟨fun j hj => ?_, fun x hx k hk hne => ?_, fun x hx k hk hp hek hr u hu1 hu2 => ?_, fun x hx k hk hp he hr => ?_⟩
        · simp only [runM, Option.some.injEq] at hj
          exact ⟨_, _, by rw [hsp, e], hj, rfl⟩
        · rw [hsp, e, List.getLast?_concat] at hx
          injection hx with hx
          subst hx
          simp only at hne ⊢
          rw [hen k hne]
          rcases hI.en k hk with h5 | h5 <;> omega
        · rw [hsp, e, List.getLast?_concat] at hx
          injection hx with hx
          subst hx
          simp only at hp hr
          rw [hen k (hne k hp)] at hek
          exact absurd (show (jb js k).r ≤ n by omega) (no k hk hp hek)
        · rw [hsp, e] at hx
          rcases List.mem_append.1 hx with hx | hx
          · exact old x hx k hk hp he hr
          · rw [List.mem_singleton.1 hx] at hp he hr ⊢
            simp only at hp he hr ⊢
            rw [hen k (hne k hp)] at he
            exfalso
            rcases hI.en k hk with h5 | h5
            · exact no k hk hp h5.2 (by omega)
            · omega
      | true =>
        obtain ⟨l, x, e1, e2, e3, e4⟩ := ex0_yes (m := 1) hx
        rw [hsp2] at e4
        have hlast : (tst ts js n).sp.getLast? = some x := by rw [e1]; simp
        have hne : ∀ k, prO ts js k < prO ts js i → k ≠ i := fun k hp e => by rw [e] at hp; omega
        have hft : x.f < x.t := (chn_mem hW.ch x (by rw [e1]; simp)).2.1.2
        have hse : ∀ k, k < js.length → prO ts js k < prO ts js i → kO (tst ts js n).en k = -1 → (jb js k).r < (n : Int) + 1 → ∀ u, (jb js k).r ≤ u → u < (n : Int) + 1 → wthS (jb js i).c (kO (tst ts js n).dn i + 1 - ((n : Int) + 1 - u)) = true := by
          intro k hk hp hek hr u hu1 hu2
          obtain ⟨hru, hwt⟩ := hwait k hk hp hek (by omega)
          by_cases hu : u = n
          · subst hu
            rw [show kO (tst ts js n).dn i + 1 - ((n : Int) + 1 - n) = kO (tst ts js n).dn i by omega]
            exact hwt
          · have := h.se x hlast k hk (by rw [e2]; exact hp) hek (by omega) u hu1 (by omega)
            rw [e2, e3] at this
            rw [show kO (tst ts js n).dn i + 1 - ((n : Int) + 1 - u) = kO (tst ts js n).dn i - ((n : Int) - u) by omega]
            exact this
        refine ⟨fun j hj => ?_, fun y hy k hk hkne => ?_, fun y hy k hk hp hek hr u hu1 hu2 => ?_, fun y hy k hk hp he hr => ?_⟩
        · simp only [runM, Option.some.injEq] at hj
          exact ⟨_, _, by rw [hsp, e4], by rw [← hj]; exact e2, rfl⟩
        · rw [hsp, e4, List.getLast?_concat] at hy
          injection hy with hy
          subst hy
          simp only at hkne ⊢
          rw [hen k (by rw [← e2]; exact hkne)]
          exact h.la x hlast k hk hkne
        · rw [hsp, e4, List.getLast?_concat] at hy
          injection hy with hy
          subst hy
          simp only at hp hr hu2 ⊢
          rw [e2] at hp ⊢
          rw [hen k (hne k hp)] at hek
          rw [hdn]
          exact hse k hk hp hek hr u hu1 hu2
        · rw [hsp, e4] at hy
          rcases List.mem_append.1 hy with hy | hy
          · exact old y (by rw [e1]; simp [hy]) k hk hp he hr
          · rw [List.mem_singleton.1 hy] at hp he hr ⊢
            simp only at hp he hr ⊢
            rw [e2] at hp ⊢
            rw [hen k (hne k hp)] at he
            have hlk := h.la x hlast k hk (by rw [e2]; exact hne k hp)
            have hek : kO (tst ts js n).en k = -1 := by rcases he with he | he <;> omega
            refine ⟨?_, ?_⟩
            · rcases Int.lt_or_le (jb js k).r n with hr2 | hr2
              · exact (h.sp x (by rw [e1]; simp) k hk (by rw [e2]; exact hp) (.inl hek) (by omega)).1
              · omega
            · have hse' := hse k hk hp hek hr
              have := wth_row (q i) (jb js i).c (kO (tst ts js n).dn i + 1 - ((n : Int) + 1 - (jb js k).r)) (kO (tst ts js n).dn i) (hl.pos i) (hq i) (by omega) (fun d hd1 hd2 => by
                have := hse' (d - (kO (tst ts js n).dn i + 1) + ((n : Int) + 1)) (by omega) (by omega)
                rw [show kO (tst ts js n).dn i + 1 - ((n : Int) + 1 - (d - (kO (tst ts js n).dn i + 1) + ((n : Int) + 1))) = d by omega] at this
                exact this)
              omega
end
end Go.Proofs.YtkpackbbahodcaaGreat
/- All times so many times as great. -/
namespace Go.Proofs.YtkpackbbahodcaaGreat
set_option linter.unusedVariables false
set_option linter.unusedSimpArgs false
/-- All work in sections: what is in none, tick by tick. -/
def sclC (k : Int) (c : List Int) (w : Int) : List Int := c.map (· * k) ++ List.replicate (w - c.sum).toNat k
def sclJ (k : Int) (j : Fv) : Fv := ⟨j.t, j.a * k, j.r * k, j.k * k, sclC k j.c j.k⟩
def sclT (k : Int) (x : Ts) : Ts := ⟨x.n, x.c * k, x.t * k, x.d * k, x.j * k, x.q * k, x.p⟩
def sclP (k : Int) (x : Spn) : Spn := ⟨x.j, x.f * k, x.t * k⟩
def sclE (k e : Int) : Int := if e = -1 then -1 else e * k
def sclS (k : Int) (s : TSt) : TSt := ⟨s.dn.map (· * k), s.ru, s.sp.map (sclP k), s.en.map (sclE k)⟩
theorem mul_lt_iff {a b k : Int} (hk : 1 ≤ k) : a * k < b * k ↔ a < b := ⟨fun h => Int.lt_of_mul_lt_mul_right h (by omega), fun h => Int.mul_lt_mul_of_pos_right h (by omega)⟩
theorem mul_le_iff {a b k : Int} (hk : 1 ≤ k) : a * k ≤ b * k ↔ a ≤ b := ⟨fun h => Int.le_of_mul_le_mul_right h (by omega), fun h => Int.mul_le_mul_of_nonneg_right h (by omega)⟩
theorem mul_inj {a b k : Int} (hk : 1 ≤ k) : a * k = b * k ↔ a = b := by
  constructor
  · intro h
    have h1 := (mul_le_iff (a := a) (b := b) hk).1 (by omega)
    have h2 := (mul_le_iff (a := b) (b := a) hk).1 (by omega)
    omega
  · intro h; rw [h]
theorem rep_sum (n : Nat) (k : Int) : (List.replicate n k).sum = n * k := by
  induction n with
  | zero => simp
  | succ n ih => rw [List.replicate_succ, List.sum_cons, ih, Int.natCast_add, Int.add_mul]; omega
theorem map_sum (k : Int) : ∀ c : List Int, (c.map (· * k)).sum = c.sum * k
  | [] => by simp
  | a :: c => by rw [List.map_cons, List.sum_cons, List.sum_cons, map_sum k c, Int.add_mul]
theorem scl_sum {k : Int} {c : List Int} {w : Int} (h : c.sum ≤ w) : (sclC k c w).sum = w * k := by
  rw [sclC, List.sum_append, map_sum, rep_sum, ← Int.add_mul]
  congr 1
  omega
theorem rep_pos {n : Nat} {k : Int} (hk : 1 ≤ k) : Pos1 (List.replicate n k) := fun x hx => by rw [(List.mem_replicate.1 hx).2]; exact hk
theorem scl_pos {k : Int} {c : List Int} {w : Int} (hk : 1 ≤ k) (h : Pos1 c) : Pos1 (sclC k c w) := by
  intro x hx
  rcases List.mem_append.1 hx with hx | hx
  · obtain ⟨y, hy, rfl⟩ := List.mem_map.1 hx
    have := (mul_le_iff (a := 1) (b := y) hk).2 (h y hy)
    omega
  · exact rep_pos hk x hx
/-- Ticks that are in no section, of so many, one behind the other. -/
theorem rep_wth {k : Int} (hk : 1 ≤ k) : ∀ (n : Nat) (d : Int), wthS (List.replicate n k) (d * k) = false
  | 0, d => rfl
  | n + 1, d => by
    rw [List.replicate_succ, wthS]
    have e : d * k - k = (d - 1) * k := by rw [Int.sub_mul]; omega
    rw [e, rep_wth hk n (d - 1), Bool.or_false, Bool.and_eq_false_iff]
    rcases Int.lt_or_le 0 d with h | h
    · right
      have := (mul_le_iff (a := 1) (b := d) hk).2 (by omega)
      exact decide_eq_false (by omega)
    · left
      have := (mul_le_iff (a := d) (b := 0) hk).2 h
      exact decide_eq_false (by omega)
theorem wth_app {k : Int} : ∀ (a b : List Int) (d : Int), wthS (a ++ b) d = (wthS a d || wthS b (d - a.sum))
  | [], b, d => by simp [wthS]
  | x :: a, b, d => by
    rw [List.cons_append, wthS, wthS, wth_app (k := k) a b, List.sum_cons, Bool.or_assoc, show d - x - a.sum = d - (x + a.sum) by omega]
theorem map_wth {k : Int} (hk : 1 ≤ k) : ∀ (c : List Int) (d : Int), wthS (c.map (· * k)) (d * k) = wthS c d
  | [], d => rfl
  | a :: c, d => by
    rw [List.map_cons, wthS, wthS, show d * k - a * k = (d - a) * k by rw [Int.sub_mul], map_wth hk c]
    congr 1
    congr 1
    · have := mul_lt_iff (a := 0) (b := d) hk
      rw [Int.zero_mul] at this
      exact decide_eq_decide.2 this
    · exact decide_eq_decide.2 (mul_lt_iff hk)
theorem scl_wth {k : Int} (hk : 1 ≤ k) (c : List Int) (w d : Int) : wthS (sclC k c w) (d * k) = wthS c d := by
  rw [sclC, wth_app (k := k), map_wth hk, map_sum, ← Int.sub_mul, rep_wth hk, Bool.or_false]
/-- Between two such ticks all work stands in a section. -/
theorem on_wth {k : Int} (hk : 1 ≤ k) {u : Int} (h0 : 0 < u) (h1 : u < k) : ∀ (l : List Int), (∀ x ∈ l, ∃ y, x = y * k ∧ 1 ≤ y) → ∀ d : Int, 0 ≤ d → d * k < l.sum → wthS l (d * k + u) = true
  | [], _, d, hd, hs => by
    have := (mul_le_iff (a := 0) (b := d) hk).2 hd
    simp at hs; omega
  | a :: l, hl, d, hd, hs => by
    obtain ⟨y, rfl, hy⟩ := hl a (by simp)
    rw [List.sum_cons] at hs
    rw [wthS]
    have hd0 := (mul_le_iff (a := 0) (b := d) hk).2 hd
    by_cases hdy : d < y
    · have := (mul_le_iff (a := d + 1) (b := y) hk).2 (by omega)
      rw [Int.add_mul] at this
      rw [decide_eq_true (show 0 < d * k + u by omega), decide_eq_true (show d * k + u < y * k by omega)]
      rfl
    · have := on_wth hk h0 h1 l (fun x hx => hl x (List.mem_cons_of_mem _ hx)) (d - y) (by omega) (by rw [Int.sub_mul]; omega)
      rw [show d * k + u - y * k = (d - y) * k + u by rw [Int.sub_mul]; omega, this, Bool.or_true]
theorem scl_on {k : Int} (hk : 1 ≤ k) {u : Int} (h0 : 0 < u) (h1 : u < k) {c : List Int} {w d : Int} (hc : Pos1 c) (hs : c.sum ≤ w) (hd : 0 ≤ d) (hw : d < w) : wthS (sclC k c w) (d * k + u) = true := by
  refine on_wth hk h0 h1 _ (fun x hx => ?_) d hd (by rw [scl_sum hs]; exact (mul_lt_iff hk).2 hw)
  rcases List.mem_append.1 hx with hx | hx
  · obtain ⟨y, hy, rfl⟩ := List.mem_map.1 hx
    exact ⟨y, rfl, hc y hy⟩
  · exact ⟨1, by rw [(List.mem_replicate.1 hx).2, Int.one_mul], Int.le_refl _⟩
section
variable {ts : List Ts} {js : List Fv} {k : Int}
theorem scl_lg (hk : 1 ≤ k) (h : Lg js) : Lg (js.map (sclJ k)) := by
  refine ⟨fun i hi => ?_, fun i hi => ?_, fun i => ?_, fun i hi => ?_⟩
  · rw [List.length_map] at hi
    rw [jb_map hi]; have := (mul_le_iff (a := 0) (b := (jb js i).r) hk).2 (h.r0 i hi); simp only [sclJ]; omega
  · rw [List.length_map] at hi
    rw [jb_map hi]; have := (mul_le_iff (a := 1) (b := (jb js i).k) hk).2 (h.k1 i hi); simp only [sclJ]; omega
  · by_cases hi : i < js.length
    · rw [jb_map hi]; exact scl_pos hk (h.pos i)
    · rw [jb_out (by simpa using hi)]; exact fun x hx => by cases hx
  · rw [List.length_map] at hi
    rw [jb_map hi]; simp only [sclJ]; rw [scl_sum (h.fit i hi)]; exact Int.le_refl _
theorem tk_map (p : Int) (h0 : 0 ≤ p) (h1 : p < ts.length) : tk (ts.map (sclT k)) p = sclT k (tk ts p) := by
  obtain ⟨q, rfl⟩ : ∃ q : Nat, p = (q : Int) := ⟨p.toNat, by omega⟩
  have e : ts[q]? = some (ts[q]'(by omega)) := List.getElem?_eq_getElem (by omega)
  rw [tk_get e, tk_get (x := sclT k (ts[q]'(by omega))) (by rw [List.getElem?_map, e]; rfl)]
theorem scl_pk (hk : 1 ≤ k) (ht : ∀ i, i < js.length → 0 ≤ (jb js i).t ∧ (jb js i).t < ts.length) {dn : List Int} (hd : dn.length = js.length) (t : Int) : pkN (ts.map (sclT k)) (js.map (sclJ k)) (dn.map (· * k)) (t * k) js.length = pkN ts js dn t js.length := by
  refine pkN_congr _ (fun i hi => ?_) (fun i j hi hj => ?_)
  · unfold rdy
    rw [jb_map hi, kO_map (by omega)]
    simp only [sclJ]
    congr 1
    · exact decide_eq_decide.2 (mul_le_iff hk)
    · exact decide_eq_decide.2 (mul_lt_iff hk)
  · have e : ∀ i, i < js.length → prO (ts.map (sclT k)) (js.map (sclJ k)) i = prO ts js i := fun i hi => by
      unfold prO
      rw [jb_map hi, show (sclJ k (jb js i)).t = (jb js i).t from rfl, tk_map _ (ht i hi).1 (ht i hi).2]
      rfl
    rw [e i hi, e j hj]
theorem scl_who (hk : 1 ≤ k) (ht : ∀ i, i < js.length → 0 ≤ (jb js i).t ∧ (jb js i).t < ts.length) {n : Int} {s : TSt} (hI : TI js n s) (t : Int) : whoS (ts.map (sclT k)) (js.map (sclJ k)) (sclS k s) (t * k) = whoS ts js s t := by
  have P := scl_pk (ts := ts) hk ht hI.ld t
  unfold whoS
  rw [List.length_map]
  show (match s.ru with | some i => if wthS (jb (js.map (sclJ k)) i).c (kO (s.dn.map (· * k)) i) then some i else pkN (ts.map (sclT k)) (js.map (sclJ k)) (s.dn.map (· * k)) (t * k) js.length | none => pkN (ts.map (sclT k)) (js.map (sclJ k)) (s.dn.map (· * k)) (t * k) js.length) = _
  rw [P]
  cases hr : s.ru with
  | none => rfl
  | some i =>
    have hi := (hI.ru i hr).1
    have e : wthS (jb (js.map (sclJ k)) i).c (kO (s.dn.map (· * k)) i) = wthS (jb js i).c (kO s.dn i) := by
      rw [jb_map hi, kO_map (by rw [hI.ld]; exact hi)]
      exact scl_wth hk _ _ _
    simp only [e]
theorem scl_run (hk : 1 ≤ k) {n : Int} {s : TSt} (hI : TI js n s) (t : Int) (i : Nat) (hi : i < js.length) (ht : 0 ≤ t) : runM (js.map (sclJ k)) (sclS k s) (t * k) i k = sclS k (runM js s t i 1) := by
  have e : addN (s.sp.map (sclP k)) i (t * k) k = (addN s.sp i t 1).map (sclP k) := addN_map (fun x => x * k) (fun a b h => (mul_inj hk).1 h) s.sp i t (t * k) 1 k rfl (by rw [Int.add_mul]; omega)
  have hid : i < s.dn.length := by rw [hI.ld]; exact hi
  unfold runM
  simp only [sclS, e, jb_map hi, sclJ, kO_map hid]
  congr 1
  · rw [List.map_set]
    congr 1
    rw [Int.add_mul]; omega
  · have e2 : (kO s.dn i * k + k = (jb js i).k * k) ↔ (kO s.dn i + 1 = (jb js i).k) := by
      have h := mul_inj (a := kO s.dn i + 1) (b := (jb js i).k) hk
      rw [Int.add_mul, Int.one_mul] at h
      exact h
    by_cases h : kO s.dn i + 1 = (jb js i).k
    · rw [if_pos h, if_pos (e2.2 h), List.map_set, sclE, if_neg (by omega), Int.add_mul, Int.one_mul]
    · rw [if_neg h, if_neg (fun h' => h (e2.1 h'))]
theorem scl_all {K : Nat} (hK : 1 ≤ K) (hl : Lg js) (ht : ∀ i, i < js.length → 0 ≤ (jb js i).t ∧ (jb js i).t < ts.length) : ∀ n : Nat, tst (ts.map (sclT (K : Int))) (js.map (sclJ (K : Int))) (n * K) = sclS (K : Int) (tst ts js n)
  | 0 => by
    rw [Nat.zero_mul]
    simp [tst, sclS, sclE]
  | n + 1 => by
    have hk : (1 : Int) ≤ (K : Int) := by omega
    have ih := scl_all hK hl ht n
    have hI := ti_all (ts := ts) hl n
    have hl' := scl_lg hk hl
    have hw := scl_who (ts := ts) hk ht hI (n : Int)
    have hc : ((n * K : Nat) : Int) = (n : Int) * (K : Int) := Int.natCast_mul n K
    have hw' : who (ts.map (sclT (K : Int))) (js.map (sclJ (K : Int))) (n * K) = whoS ts js (tst ts js n) n := by
      unfold who; rw [ih, hc]; exact hw
    rw [Nat.add_mul, Nat.one_mul]
    cases hx : whoS ts js (tst ts js n) n with
    | none =>
      rw [hx] at hw'
      have hno := hI.who_none hl hx
      have := run_idle (m := K) hw' hl' (fun j hj => by
        rw [List.length_map] at hj
        rw [jb_map hj, hc]
        simp only [sclJ]
        rcases Int.lt_or_le (n : Int) (jb js j).r with h | h
        · right
          have := (mul_le_iff (a := (n : Int) + 1) (b := (jb js j).r) hk).2 (by omega)
          rw [Int.add_mul] at this
          omega
        · left; exact (mul_le_iff hk).2 h) K (by omega) (Nat.le_refl _)
      rw [this, ih, tst_succ, tstep_none hx]
      rfl
    | some i =>
      rw [hx] at hw'
      obtain ⟨h1, h2, h3⟩ := hI.who_some hl hx
      have hid : i < (tst ts js n).dn.length := by rw [hI.ld]; exact h1
      have hdk : kO (tst (ts.map (sclT (K : Int))) (js.map (sclJ (K : Int))) (n * K)).dn i = kO (tst ts js n).dn i * (K : Int) := by
        rw [ih]; exact kO_map hid
      have hil : i < (tst (ts.map (sclT (K : Int))) (js.map (sclJ (K : Int))) (n * K)).dn.length := by rw [ih]; simpa [sclS] using hid
      have hmul := (mul_le_iff (a := kO (tst ts js n).dn i + 1) (b := (jb js i).k) hk).2 (by omega)
      rw [Int.add_mul, Int.one_mul] at hmul
      have := run_on (m := K) hil hw' (by rw [hdk, jb_map h1]; exact hmul) (fun u hu1 hu2 => by
        unfold whoS
        have e1 : kO ((tst (ts.map (sclT (K : Int))) (js.map (sclJ (K : Int))) (n * K)).dn.set i (kO (tst (ts.map (sclT (K : Int))) (js.map (sclJ (K : Int))) (n * K)).dn i + (u : Int))) i = kO (tst ts js n).dn i * (K : Int) + u := by
          rw [kO_set _ _ hil, if_pos rfl, hdk]
        have e2 : wthS (jb (js.map (sclJ (K : Int))) i).c (kO (tst ts js n).dn i * (K : Int) + u) = true := by
          rw [jb_map h1]
          exact scl_on hk (by omega) (by omega) (hl.pos i) (hl.fit i h1) (hI.d0 i h1).1 h3
        simp only [runM, e1, e2, if_true]) K hK (Nat.le_refl _)
      rw [this, ih, tst_succ, tstep_some hx, hc]
      exact scl_run hk hI _ i h1 (by omega)
theorem scl_end {K : Nat} (hK : 1 ≤ K) (hl : Lg js) (ht : ∀ i, i < js.length → 0 ≤ (jb js i).t ∧ (jb js i).t < ts.length) {N T : Nat} (hd : ∀ i, i < js.length → kO (tst ts js N).dn i = (jb js i).k) (hT : N * K ≤ T) :
    (tst (ts.map (sclT (K : Int))) (js.map (sclJ (K : Int))) T).sp = (tst ts js T).sp.map (sclP (K : Int)) ∧ (tst (ts.map (sclT (K : Int))) (js.map (sclJ (K : Int))) T).en = (tst ts js T).en.map (· * (K : Int)) := by
  have hNT : N ≤ T := Nat.le_trans (Nat.le_mul_of_pos_right N (by omega)) hT
  have hk : (1 : Int) ≤ (K : Int) := by omega
  have h1 := done_later (ts := ts) hl (a := N) (b := T) hNT hd
  have h3 := scl_all (ts := ts) hK hl ht N
  have hI := ti_all (ts := ts) hl N
  have h2 := done_later (ts := ts.map (sclT (K : Int))) (scl_lg hk hl) (a := N * K) (b := T) hT (fun i hi => by
    rw [List.length_map] at hi
    rw [h3]
    simp only [sclS]
    rw [kO_map (by rw [hI.ld]; exact hi), hd i hi, jb_map hi]
    rfl)
  rw [h2.2.1, h2.2.2, h3, h1.2.1, h1.2.2]
  refine ⟨rfl, ?_⟩
  simp only [sclS]
  refine List.map_congr_left fun e he => ?_
  obtain ⟨i, hi, rfl⟩ := List.getElem_of_mem he
  have hi' : i < js.length := by rw [← hI.le]; exact hi
  have hk : kO (tst ts js N).en i = (tst ts js N).en[i] := by simp [kO, hi]
  have := hd i hi'
  rcases hI.en i hi' with h | h
  · omega
  · rw [hk] at h
    rw [sclE, if_neg (by omega)]
end
/-- They are legal. -/
theorem scl_leg {ts : List Ts} {js : List Fv} {k : Int} (hk : 1 ≤ k) (h : legS ts js = true) (hc : (chkAll (ts.map (sclT k))).2 = 0) (ha : ∀ j ∈ js, j.a * k ≤ 17592186044416) : legS (ts.map (sclT k)) (js.map (sclJ k)) = true := by
  obtain ⟨h1, h2, h3⟩ := legS_parts h
  have L := ljs_of (vs_of h1) js h3
  have hv := vs_of h1
  refine legS_of hc (by rw [List.length_map]; exact h2) (fun j hj => ?_) (List.pairwise_map.2 (L.pw.imp_of_mem fun {x y} hx hy h e => ?_))
  · obtain ⟨x, hx, rfl⟩ := List.mem_map.1 hj
    have l := L.all x hx
    have m0 : ∀ {a b : Int}, a ≤ b → a * k ≤ b * k := fun h => (mul_le_iff hk).2 h
    have hq := (hv.tk x.t).q0
    have e := tk_map (ts := ts) (k := k) x.t l.t0 l.t1
    refine ⟨l.t0, by rw [List.length_map]; exact l.t1, ?_, ha x hx, m0 l.r0, ?_, ?_, ?_, scl_pos hk l.pos, ?_, fun y hy => ?_⟩
    · have := m0 l.a0; simp only [sclJ]; omega
    · have := m0 l.r1
      show x.r * k ≤ x.a * k + (tk (ts.map (sclT k)) x.t).j
      rw [e]
      simp only [sclT]
      rw [Int.add_mul] at this
      omega
    · have := m0 l.k0; simp only [sclJ]; omega
    · show x.k * k ≤ (tk (ts.map (sclT k)) x.t).c
      rw [e]
      exact m0 l.k1
    · show (sclC k x.c x.k).sum ≤ x.k * k
      rw [scl_sum l.fit]; exact Int.le_refl _
    · show y ≤ (tk (ts.map (sclT k)) x.t).q
      rw [e]
      rcases List.mem_append.1 hy with hy | hy
      · obtain ⟨z, hz, rfl⟩ := List.mem_map.1 hy
        exact m0 (l.q z hz)
      · rw [(List.mem_replicate.1 hy).2]
        have := m0 hq
        simp only [sclT]; omega
  · have l := L.all x hx
    have := (mul_le_iff (k := k) hk).2 (h e)
    show x.a * k + (tk (ts.map (sclT k)) x.t).t ≤ y.a * k
    rw [tk_map (ts := ts) (k := k) x.t l.t0 l.t1]
    rw [Int.add_mul] at this
    exact this
end Go.Proofs.YtkpackbbahodcaaGreat
/- With sections, or without any: when something runs. -/
namespace Go.Proofs.YtkpackbbahodcaaGreat
set_option linter.unusedVariables false
set_option linter.unusedSimpArgs false
def sftJ (j : Fv) : Fv := { j with c := [] }
section
variable {ts : List Ts} {js : List Fv}
theorem sft_p (i : Nat) : (jb (js.map sftJ) i).c = [] ∧ (jb (js.map sftJ) i).k = (jb js i).k ∧ (jb (js.map sftJ) i).r = (jb js i).r ∧ (jb (js.map sftJ) i).t = (jb js i).t := by
  by_cases hi : i < js.length
  · rw [jb_map hi]; exact ⟨rfl, rfl, rfl, rfl⟩
  · rw [jb_out (by simpa using hi), jb_out (js := js) (by omega)]; exact ⟨rfl, rfl, rfl, rfl⟩
theorem sft_lg (h : Lg js) : Lg (js.map sftJ) := by
  refine ⟨fun i hi => ?_, fun i hi => ?_, fun i => ?_, fun i hi => ?_⟩
  · rw [List.length_map] at hi
    rw [(sft_p i).2.2.1]; exact h.r0 i hi
  · rw [List.length_map] at hi
    rw [(sft_p i).2.1]; exact h.k1 i hi
  · rw [(sft_p i).1]; exact fun x hx => by cases hx
  · rw [List.length_map] at hi
    rw [(sft_p i).1, (sft_p i).2.1]
    have := h.k1 i hi
    simp; omega
/-- All work that has come by then. -/
def comeS (js : List Fv) (n : Int) : List Int := js.map fun j => if j.r ≤ n then j.k else 0
theorem come_at {n : Int} {i : Nat} (hi : i < js.length) : kO (comeS js n) i = if (jb js i).r ≤ n then (jb js i).k else 0 := by
  unfold comeS
  have e : js[i]? = some js[i] := List.getElem?_eq_getElem hi
  rw [jb_get e]
  simp [kO, hi]
theorem come_sft (n : Int) : comeS (js.map sftJ) n = comeS js n := by
  unfold comeS
  rw [List.map_map]
  rfl
theorem sum_lt' : ∀ (a b : List Int), a.length = b.length → (∀ i, i < a.length → kO a i ≤ kO b i) → ∀ i, i < a.length → kO a i < kO b i → a.sum < b.sum
  | [], b, _, _, i, hi, _ => by simp at hi
  | x :: a, [], h, _, _, _, _ => by simp at h
  | x :: a, y :: b, h, hle, 0, _, hlt => by
    have h1 := sum_le a b (by simpa using h) (fun i hi => by have := hle (i + 1) (by simp; omega); simpa [kO] using this)
    have h2 : x < y := by simpa [kO] using hlt
    rw [List.sum_cons, List.sum_cons]
    omega
  | x :: a, y :: b, h, hle, i + 1, hi, hlt => by
    have h1 := sum_lt' a b (by simpa using h) (fun i hi => by have := hle (i + 1) (by simp; omega); simpa [kO] using this) i (by simpa using hi) (by simpa [kO] using hlt)
    have h2 : x ≤ y := by have := hle 0 (by simp); simpa [kO] using this
    rw [List.sum_cons, List.sum_cons]
    omega
theorem TI.come {n : Nat} {s : TSt} (h : TI js n s) : ∀ i, i < js.length → kO s.dn i ≤ kO (comeS js n) i := by
  intro i hi
  rw [come_at hi]
  have := h.d0 i hi
  split
  · omega
  · rename_i hr
    rcases Int.lt_or_le 0 (kO s.dn i) with h1 | h1
    · have := h.dr i hi h1; omega
    · omega
/-- Nobody runs just if all is done that has come. -/
theorem idle_iff {n : Nat} {s : TSt} (hl : Lg js) (h : TI js n s) : whoS ts js s n = none ↔ s.dn.sum = (comeS js n).sum := by
  have hlen : s.dn.length = (comeS js n).length := by rw [h.ld, comeS, List.length_map]
  constructor
  · intro hw
    have hno := h.who_none hl hw
    refine Int.le_antisymm (sum_le _ _ hlen (fun i hi => h.come i (by rw [← h.ld]; exact hi))) (sum_le _ _ hlen.symm (fun i hi => ?_))
    have hi' : i < js.length := by simpa [comeS] using hi
    rw [come_at hi']
    have h0 := h.d0 i hi'
    split
    · rename_i hr
      have := not_rdy h0.2 (hno i hi') hr
      omega
    · omega
  · intro hs
    cases hw : whoS ts js s n with
    | none => rfl
    | some i =>
      exfalso
      obtain ⟨h1, h2, h3⟩ := h.who_some hl hw
      have := sum_lt' _ _ hlen (fun i hi => h.come i (by rw [← h.ld]; exact hi)) i (by rw [h.ld]; exact h1) (by rw [come_at h1, if_pos h2]; exact h3)
      omega
theorem sum_step {n : Nat} (hl : Lg js) : (tst ts js (n + 1)).dn.sum = (tst ts js n).dn.sum + (if whoS ts js (tst ts js n) n = none then 0 else 1) := by
  have hI := ti_all (ts := ts) hl n
  rw [tst_succ]
  cases hw : whoS ts js (tst ts js n) n with
  | none => rw [tstep_none hw]; simp
  | some i =>
    rw [tstep_some hw]
    simp only [runM]
    rw [sum_set _ _ _ (by rw [hI.ld]; exact (hI.who_some hl hw).1)]
    simp
theorem addN_head (sp : List Spn) (i : Nat) (t m : Int) : (addN sp i t m).head?.map (·.f) = some ((sp.head?.map (·.f)).getD t) := by
  rcases List.eq_nil_or_concat sp with h | ⟨l, x, h⟩
  · subst h; rfl
  · rw [List.concat_eq_append] at h
    subst h
    unfold addN
    simp only [List.getLast?_concat, List.dropLast_concat]
    by_cases hc : x.j = i ∧ x.t = t
    · rw [if_pos hc]
      cases l with
      | nil => rfl
      | cons a l => rfl
    · rw [if_neg hc]
      cases l with
      | nil => rfl
      | cons a l => rfl
/-- What two machines share. -/
structure Sh (s s' : TSt) : Prop where
  sum : s.dn.sum = s'.dn.sum
  hd : s.sp.head?.map (·.f) = s'.sp.head?.map (·.f)
  la : s.sp.getLast?.map (·.t) = s'.sp.getLast?.map (·.t)
theorem sh_all (hl : Lg js) : ∀ n : Nat, Sh (tst ts js n) (tst ts (js.map sftJ) n)
  | 0 => ⟨by simp [tst], rfl, rfl⟩
  | n + 1 => by
    have h := sh_all hl n
    have hl' := sft_lg hl
    have hI := ti_all (ts := ts) hl n
    have hI' := ti_all (ts := ts) hl' n
    have e1 := idle_iff (ts := ts) hl hI
    have e2 := idle_iff (ts := ts) hl' hI'
    rw [come_sft, ← h.sum, ← e1] at e2
    have s1 := sum_step (ts := ts) (n := n) hl
    have s2 := sum_step (ts := ts) (n := n) hl'
    cases hw : whoS ts js (tst ts js n) n with
    | none =>
      have hw' := e2.2 hw
      rw [hw] at s1
      rw [hw'] at s2
      rw [tst_succ, tst_succ, tstep_none hw, tstep_none hw'] at *
      exact ⟨h.sum, h.hd, h.la⟩
    | some i =>
      obtain ⟨i', hw'⟩ : ∃ i', whoS ts (js.map sftJ) (tst ts (js.map sftJ) n) n = some i' := by
        cases hx : whoS ts (js.map sftJ) (tst ts (js.map sftJ) n) n with
        | none => rw [e2.1 hx] at hw; cases hw
        | some i' => exact ⟨i', rfl⟩
      rw [hw] at s1
      rw [hw'] at s2
      refine ⟨by rw [s1, s2, h.sum]; simp, ?_, ?_⟩
      · rw [tst_succ, tst_succ, tstep_some hw, tstep_some hw']
        simp only [runM]
        rw [addN_head, addN_head, h.hd]
      · rw [tst_succ, tst_succ, tstep_some hw, tstep_some hw']
        simp only [runM]
        obtain ⟨f, hf⟩ := addN_last (tst ts js n).sp i n 1
        obtain ⟨f', hf'⟩ := addN_last (tst ts (js.map sftJ) n).sp i' n 1
        rw [hf, hf']
        rfl
/-- The last span goes on to the last end. -/
structure LaE (js : List Fv) (n : Int) (s : TSt) : Prop where
  no : s.sp = [] → ∀ i, i < js.length → kO s.dn i = 0
  la : ∀ x, s.sp.getLast? = some x → 0 < x.t ∧ (kO s.dn x.j = (jb js x.j).k → kO s.en x.j = x.t) ∧ ∀ i, i < js.length → kO s.en i ≤ x.t
theorem lae_all (hl : Lg js) : ∀ n : Nat, LaE js n (tst ts js n)
  | 0 => ⟨fun _ i hi => kO_rep _ _ _ hi, fun x hx => by simp [tst] at hx⟩
  | n + 1 => by
    have h := lae_all hl n
    have hI := ti_all (ts := ts) hl n
    rw [tst_succ]
    cases hw : whoS ts js (tst ts js n) n with
    | none => rw [tstep_none hw]; exact ⟨h.no, h.la⟩
    | some i =>
      rw [tstep_some hw]
      obtain ⟨h1, h2, h3⟩ := hI.who_some hl hw
      have hid : i < (tst ts js n).dn.length := by rw [hI.ld]; exact h1
      have hie : i < (tst ts js n).en.length := by rw [hI.le]; exact h1
      have h0 := hl.r0 i h1
      obtain ⟨f, hf⟩ := addN_last (tst ts js n).sp i n 1
      refine ⟨fun hs => ?_, fun x hx => ?_⟩
      · simp only [runM] at hs
        rw [hs] at hf
        cases hf
      · simp only [runM] at hx ⊢
        rw [hf] at hx
        injection hx with hx
        subst hx
        simp only
        refine ⟨by omega, fun hk => ?_, fun j hj => ?_⟩
        · rw [kO_set _ _ hid, if_pos rfl] at hk
          rw [if_pos hk, kO_set _ _ hie, if_pos rfl]
        · have hen := hI.en j hj
          split
          · rw [kO_set _ _ hie]
            split
            · omega
            · rcases hen with h | h <;> omega
          · rcases hen with h | h <;> omega
theorem ends_max (hl : Lg js) {n : Nat} (hd : ∀ i, i < js.length → kO (tst ts js n).dn i = (jb js i).k) :
    (js = [] ∧ (tst ts js n).sp = []) ∨ ∃ x, (tst ts js n).sp.getLast? = some x ∧ 0 < x.t ∧ (∀ e ∈ (tst ts js n).en, e ≤ x.t) ∧ x.t ∈ (tst ts js n).en := by
  have hI := ti_all (ts := ts) hl n
  have h := lae_all (ts := ts) hl n
  cases hs : (tst ts js n).sp.getLast? with
  | none =>
    have hs := List.getLast?_eq_none_iff.1 hs
    left
    refine ⟨?_, hs⟩
    rcases List.eq_nil_or_concat js with h1 | ⟨l, x, h1⟩
    · exact h1
    · exfalso
      have hp : 0 < js.length := by rw [h1]; simp
      have := h.no hs 0 hp
      have := hd 0 hp
      have := hl.k1 0 hp
      omega
  | some x =>
    right
    obtain ⟨h0, h1, h2⟩ := h.la x hs
    obtain ⟨q1, q2, q3, q4⟩ := hI.sp x hs
    refine ⟨x, rfl, h0, fun e he => ?_, ?_⟩
    · obtain ⟨i, hi, rfl⟩ := List.getElem_of_mem he
      have := h2 i (by rw [← hI.le]; exact hi)
      have e : kO (tst ts js n).en i = (tst ts js n).en[i] := by simp [kO, hi]
      omega
    · have hx : x.j < (tst ts js n).en.length := by rw [hI.le]; exact q1
      have e : kO (tst ts js n).en x.j = (tst ts js n).en[x.j] := by simp [kO, hx]
      rw [← h1 (hd _ q1), e]
      exact List.getElem_mem hx
end
/-- They are legal. -/
theorem sft_leg {ts : List Ts} {js : List Fv} (h : legS ts js = true) : legS ts (js.map sftJ) = true := by
  obtain ⟨h1, h2, h3⟩ := legS_parts h
  have L := ljs_of (vs_of h1) js h3
  refine legS_of h1 (by rw [List.length_map]; exact h2) (fun j hj => ?_) (List.pairwise_map.2 L.pw)
  obtain ⟨x, hx, rfl⟩ := List.mem_map.1 hj
  have l := L.all x hx
  exact ⟨l.t0, l.t1, l.a0, l.a1, l.r0, l.r1, l.k0, l.k1, (fun x hx => by cases hx), by have := l.k0; simp [sftJ]; omega, fun x hx => by cases hx⟩
end Go.Proofs.YtkpackbbahodcaaGreat
/- All jobs so much later. -/
namespace Go.Proofs.YtkpackbbahodcaaGreat
set_option linter.unusedVariables false
set_option linter.unusedSimpArgs false
def shfJ (k : Int) (j : Fv) : Fv := { j with a := j.a + k, r := j.r + k }
def shfP (k : Int) (x : Spn) : Spn := ⟨x.j, x.f + k, x.t + k⟩
def shfE (k e : Int) : Int := if e = -1 then -1 else e + k
def shfS (k : Int) (s : TSt) : TSt := ⟨s.dn, s.ru, s.sp.map (shfP k), s.en.map (shfE k)⟩
section
variable {ts : List Ts} {js : List Fv} {k : Int}
theorem shf_c (i : Nat) : (jb (js.map (shfJ k)) i).c = (jb js i).c ∧ (jb (js.map (shfJ k)) i).k = (jb js i).k ∧ (jb (js.map (shfJ k)) i).t = (jb js i).t := by
  by_cases hi : i < js.length
  · rw [jb_map hi]; exact ⟨rfl, rfl, rfl⟩
  · rw [jb_out (by simpa using hi), jb_out (js := js) (by omega)]; exact ⟨rfl, rfl, rfl⟩
theorem shf_r {i : Nat} (hi : i < js.length) : (jb (js.map (shfJ k)) i).r = (jb js i).r + k := by rw [jb_map hi]; rfl
theorem shf_lg (hk : 0 ≤ k) (h : Lg js) : Lg (js.map (shfJ k)) := by
  refine ⟨fun i hi => ?_, fun i hi => ?_, fun i => ?_, fun i hi => ?_⟩
  · rw [List.length_map] at hi
    rw [shf_r hi]; have := h.r0 i hi; omega
  · rw [List.length_map] at hi
    rw [(shf_c i).2.1]; exact h.k1 i hi
  · rw [(shf_c i).1]; exact h.pos i
  · rw [List.length_map] at hi
    rw [(shf_c i).1, (shf_c i).2.1]; exact h.fit i hi
theorem shf_pk (dn : List Int) (t : Int) : pkN ts (js.map (shfJ k)) dn (t + k) js.length = pkN ts js dn t js.length := by
  refine pkN_congr _ (fun i hi => ?_) (fun i j _ _ => ?_)
  · unfold rdy
    rw [shf_r hi, (shf_c i).2.1]
    congr 1
    exact decide_eq_decide.2 (by omega)
  · unfold prO
    rw [(shf_c i).2.2, (shf_c j).2.2]
theorem shf_who (s : TSt) (t : Int) : whoS ts (js.map (shfJ k)) (shfS k s) (t + k) = whoS ts js s t := by
  unfold whoS
  rw [List.length_map]
  show (match s.ru with | some i => if wthS (jb (js.map (shfJ k)) i).c (kO s.dn i) then some i else pkN ts (js.map (shfJ k)) s.dn (t + k) js.length | none => pkN ts (js.map (shfJ k)) s.dn (t + k) js.length) = _
  rw [shf_pk]
  cases s.ru with
  | none => rfl
  | some i => simp only [(shf_c i).1]
theorem shf_run (s : TSt) (t : Int) (i : Nat) (ht : 0 ≤ t) : runM (js.map (shfJ k)) (shfS k s) (t + k) i 1 = shfS k (runM js s t i 1) := by
  have e : addN (s.sp.map (shfP k)) i (t + k) 1 = (addN s.sp i t 1).map (shfP k) := addN_map (fun x => x + k) (fun a b h => by simpa using h) s.sp i t (t + k) 1 1 rfl (by omega)
  show (⟨s.dn.set i (kO s.dn i + 1), some i, addN (s.sp.map (shfP k)) i (t + k) 1, if kO s.dn i + 1 = (jb (js.map (shfJ k)) i).k then (s.en.map (shfE k)).set i (t + k + 1) else s.en.map (shfE k)⟩ : TSt) =
    ⟨s.dn.set i (kO s.dn i + 1), some i, (addN s.sp i t 1).map (shfP k), (if kO s.dn i + 1 = (jb js i).k then s.en.set i (t + 1) else s.en).map (shfE k)⟩
  rw [e, (shf_c i).2.1]
  congr 1
  by_cases h : kO s.dn i + 1 = (jb js i).k
  · rw [if_pos h, if_pos h, List.map_set, shfE, if_neg (by omega)]
    congr 1
    omega
  · rw [if_neg h, if_neg h]
theorem shf_step (s : TSt) (t : Int) (ht : 0 ≤ t) : tstep ts (js.map (shfJ k)) (shfS k s) (t + k) = shfS k (tstep ts js s t) := by
  unfold tstep
  rw [shf_who]
  cases whoS ts js s t with
  | none => rfl
  | some i => exact shf_run s t i ht
theorem shf_all {K : Nat} (hl : Lg js) : ∀ n : Nat, tst ts (js.map (shfJ (K : Int))) (n + K) = shfS (K : Int) (tst ts js n)
  | 0 => by
    have h0 : tst ts (js.map (shfJ (K : Int))) 0 = shfS (K : Int) (tst ts js 0) := by
      simp [tst, shfS, shfE]
    rw [Nat.zero_add]
    by_cases hK : K = 0
    · subst hK; exact h0
    · have hw : who ts (js.map (shfJ (K : Int))) 0 = none := by
        unfold who whoS
        refine pkN_no fun i hi => ?_
        rw [List.length_map] at hi
        rw [← Bool.not_eq_true, rdy_iff, shf_r hi]
        have := hl.r0 i hi
        omega
      have := run_idle (m := K) hw (shf_lg (by omega) hl) (fun j hj => by
        rw [List.length_map] at hj
        have := hl.r0 j hj
        rw [shf_r hj]; right; omega) K (by omega) (Nat.le_refl _)
      rw [Nat.zero_add] at this
      rw [this, h0]
      rfl
  | n + 1 => by
    rw [show n + 1 + K = (n + K) + 1 by omega, tst_succ, shf_all hl n, tst_succ, ← shf_step (k := (K : Int)) _ _ (by omega)]
    congr 1
theorem shf_end {K : Nat} (hl : Lg js) {N T : Nat} (hd : ∀ i, i < js.length → kO (tst ts js N).dn i = (jb js i).k) (hT : N + K ≤ T) :
    (tst ts (js.map (shfJ (K : Int))) T).sp = (tst ts js T).sp.map (shfP (K : Int)) ∧ (tst ts (js.map (shfJ (K : Int))) T).en = (tst ts js T).en.map (· + (K : Int)) := by
  have h1 := done_later (ts := ts) hl (a := N) (b := T) (by omega) hd
  have h2 := done_later (ts := ts) hl (a := N) (b := T - K) (by omega) hd
  have h3 := shf_all (ts := ts) (K := K) hl (T - K)
  rw [show T - K + K = T by omega] at h3
  rw [h3]
  refine ⟨by simp only [shfS]; rw [h2.2.1, h1.2.1], ?_⟩
  simp only [shfS]
  rw [h2.2.2, h1.2.2]
  refine List.map_congr_left fun e he => ?_
  obtain ⟨i, hi, rfl⟩ := List.getElem_of_mem he
  have hI := ti_all (ts := ts) hl N
  have hi' : i < js.length := by rw [← hI.le]; exact hi
  have hk : kO (tst ts js N).en i = (tst ts js N).en[i] := by simp [kO, hi]
  have := hd i hi'
  rcases hI.en i hi' with h | h
  · omega
  · rw [hk] at h
    rw [shfE, if_neg (by omega)]
end
/-- They are legal. -/
theorem shf_leg {ts : List Ts} {js : List Fv} {k : Int} (h : legS ts js = true) (hk : 0 ≤ k) (ha : ∀ j ∈ js, j.a + k ≤ 17592186044416) : legS ts (js.map (shfJ k)) = true := by
  obtain ⟨h1, h2, h3⟩ := legS_parts h
  have L := ljs_of (vs_of h1) js h3
  refine legS_of h1 (by rw [List.length_map]; exact h2) (fun j hj => ?_) (List.pairwise_map.2 (L.pw.imp fun {x y} h e => ?_))
  · obtain ⟨x, hx, rfl⟩ := List.mem_map.1 hj
    have l := L.all x hx
    have := ha x hx
    exact ⟨l.t0, l.t1, by have := l.a0; simp only [shfJ]; omega, by simp only [shfJ]; omega, by have := l.r0; simp only [shfJ]; omega, by have := l.r1; simp only [shfJ]; omega, l.k0, l.k1, l.pos, l.fit, l.q⟩
  · have := h e
    simp only [shfJ] at *
    omega
end Go.Proofs.YtkpackbbahodcaaGreat
