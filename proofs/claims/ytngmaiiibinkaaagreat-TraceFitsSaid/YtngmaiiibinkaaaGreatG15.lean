/- Texts about the program, one after the other: EUnt, EPre, ERnf, ERow, KLw, ERf, ERs. -/
import Derived.Test.YtngmaiiibinkaaaGreatG14
import Derived.Test.YtngmaiiibinkaaaGreatG7
import Derived.Test.YtngmaiiibinkaaaGreatG9
import Derived.Test.YtngmaiiibinkaaaGreatG8
import Derived.Test.YtngmaiiibinkaaaGreatG10
import Derived.Laws.OwnMore
/- Until, Run: what the program tells. -/
namespace Go.Proofs.YtngmaiiibinkaaaGreat
open Go.RowKit
set_option linter.unusedVariables false
set_option linter.unusedSimpArgs false
attribute [local go_sem ↓] Go.wp_at_zero Go.wp_at_succ
/-- Spans, and ends, up to a tick. -/
def untS (ts : List Ts) (js : List Fv) (T : Nat) : List Spn × List Int := if legS ts js then ((tst ts js T).sp, (tst ts js T).en) else ([], [])
def UntP (r : List Spn × List Int) (w : World) (e : Ending) (w' : World) : Prop := ∃ vs ve, e = .returned (.tuple #[vs, ve]) ∧ w'.ownsRow w.heap.size TSp 3 vs r.1.length (spC r.1) ∧ w'.ownsRow w.heap.size T64 1 ve r.2.length (numL r.2) ∧ Below w.heap.size w w'
theorem jh_of {ts : List Ts} {js : List Fv} (h : legS ts js = true) (hD : Dist ts) (ft : ts.length ≤ 1000) (fj : js.length ≤ 1000) : JH ts js := by
  obtain ⟨h1, h2, h3⟩ := legS_parts h
  have hv := vs_of h1
  have L := ljs_of hv js h3
  refine ⟨lg_of L, seq_of h1 L, hD, fun i hi => ⟨(jb_lj L hi).t0, (jb_lj L hi).t1⟩, fun i hi => ?_, by have := hv.n0; omega, ft, fj⟩
  have l := jb_lj L hi
  have := l.a1
  have := l.r1
  have := l.k1
  have := (hv.tk (jb js i).t).j1
  have := (hv.tk (jb js i).t).c1
  omega
set_option maxRecDepth 100000 in
set_option maxHeartbeats 8000000 in
theorem until_any {A R : Option Addr} {cap rc : Nat} {ts : List Ts} {js : List Fv} {en : Int} {T : Nat} (w : World) (hT : Row w A cap ts) (hR : FRow w R rc js) (hD : Dist ts) (ft : ts.length ≤ 1000) (fj : js.length ≤ 1000) (htot : (js.map (·.k)).sum ≤ 1000000000) (hen : en.toNat = T) (he : en ≤ 9223372036854775807) :
    Calls Tryz.prog 22 #[.slice A ts.length cap, .slice R js.length rc, .int .i64 en] w (UntP (untS ts js T) w) := by
  have LG := legal_any A R cap rc ts js w hT hR
  unfold untS
  cases hl : legS ts js with
  | false =>
    rw [hl] at LG
    have LG := Lib.hid LG
    clear hT hR hD htot hl
    go_enter Tryz.func22, Tryz.ntmps22
    go_wp2_with (go_at_call 34; (with_reducible refine LG.out.mono ?_); rintro e w1 ⟨rfl, hB1⟩)
    refine bodyPost_ret (results_tmp2 rfl _ _ _) rfl ?_
    exact ⟨_, _, rfl, World.ownsRow_nil _ _ _ _, World.ownsRow_nil _ _ _ _, hB1⟩
  | true =>
    rw [hl] at LG
    have LG := Lib.hid LG
    have H := jh_of hl hD ft fj
    have NW := Lib.hid (fun W (hB : Below w.heap.size w W) => newX_any W (hT.later hB) (hR.later hB) H)
    have HT := Lib.hid htot
    have HE := Lib.hid hen
    clear hT hR hD htot hl H hen
    go_enter Tryz.func22, Tryz.ntmps22
    go_upto_region 3 with (go_at_call 34; (with_reducible refine LG.out.mono ?_); rintro e w1 ⟨rfl, hB1⟩)
    have N1 := Lib.hid (NW.out _ hB1)
    go_upto_region 4 with (go_at_call 37; (with_reducible refine N1.out.mono ?_); rintro e w2 ⟨C, rfl, hC, rfl, rfl, rfl, hP0, hP⟩)
    have PL := Lib.hid (play_any hC (hP T) HE.out he HT.out)
    clear hP hP0 N1
    go_upto_region 5 with (go_at_call 38; (with_reducible refine PL.out.mono ?_); rintro e w3 ⟨rfl, M, lf, vc, vs, ve, rb, rv, hX, hs, hee⟩)
    have c5 := hX.c5
    have c6 := hX.c6
    have HX := Lib.hid hX
    have HS := Lib.hid hs
    have HEE := Lib.hid hee
    clear hX hs hee
    go_quiet (fail)
    go_wp2
    refine bodyPost_ret (results_tmp2 rfl _ _ _) rfl ?_
    have hw0 := hB1.size
    have hin := (hC.ti T).le
    refine ⟨_, _, rfl, ?_, ?_, ?_⟩
    · simp only [if_true]
      have := HX.out.spn
      rw [HS.out] at this
      exact own_mono this hw0
    · simp only [if_true]
      have := HX.out.ens
      rw [HEE.out] at this
      rw [show (tst C.ts C.js T).en.length = C.js.length from hin]
      exact own_mono this hw0
    · exact (hB1.trans (HX.out.bel.mono hw0)).trans ((below_drewN2 w3 _).mono (by have := HX.out.bel.size; omega))
set_option maxRecDepth 100000 in
set_option maxHeartbeats 8000000 in
theorem run_any {A R : Option Addr} {cap rc : Nat} {ts : List Ts} {js : List Fv} (w : World) (hT : Row w A cap ts) (hR : FRow w R rc js) (hD : Dist ts) (ft : ts.length ≤ 1000) (fj : js.length ≤ 1000) (htot : (js.map (·.k)).sum ≤ 1000000000) :
    Calls Tryz.prog 11 #[.slice A ts.length cap, .slice R js.length rc] w (UntP (untS ts js 9223372036854775807) w) := by
  have UN := Lib.hid (until_any (en := 9223372036854775807) (T := 9223372036854775807) w hT hR hD ft fj htot (by decide) (Int.le_refl _))
  clear hT hR hD htot
  go_enter Tryz.func11, Tryz.ntmps11
  go_wp2_with (go_at_call 22; (with_reducible refine UN.out.mono ?_); rintro e w1 ⟨vs, ve, rfl, h1, h2, h3⟩)
  refine bodyPost_ret (results_tmp2 rfl _ _ _) rfl ?_
  exact ⟨vs, ve, rfl, h1, h2, h3⟩
end Go.Proofs.YtngmaiiibinkaaaGreat
/- What the laws call. -/
namespace Go.Proofs.YtngmaiiibinkaaaGreat
open Go.RowKit
set_option linter.unusedVariables false
set_option linter.unusedSimpArgs false
/-- Spans, and ends. -/
def RunJ (sp : List Spn) (en : List Int) (w : World) (e : Ending) (w' : World) : Prop := ∃ A c B d, e = .returned (.tuple #[.slice A sp.length c, .slice B en.length d]) ∧ SpR w' A c sp ∧ CRow w' B d en ∧ Below w.heap.size w w'
theorem untp_run {sp : List Spn} {en : List Int} {w : World} (he : ∀ x ∈ en, in64 x) (e : Ending) (w' : World) (h : UntP (sp, en) w e w') : RunJ sp en w e w' := by
  obtain ⟨vs, ve, rfl, h1, h2, h3⟩ := h
  obtain ⟨A, c, rfl, F⟩ := spr_own h1
  obtain ⟨B, d, rfl, hn, G, _⟩ := crow_own h2 he
  exact ⟨A, c, B, d, rfl, F, G, h3⟩
/-- Any legal jobs, run. -/
theorem run_leg {A R : Option Addr} {cap rc : Nat} {ts : List Ts} {js : List Fv} (w : World) (hT : Row w A cap ts) (hR : FRow w R rc js) (hD : Dist ts) (ft : ts.length ≤ 1000) (fj : js.length ≤ 1000) (htot : (js.map (·.k)).sum ≤ 1000000000) (hl : legS ts js = true) :
    Calls Tryz.prog 11 #[.slice A ts.length cap, .slice R js.length rc] w (RunJ (tst ts js 9223372036854775807).sp (tst ts js 9223372036854775807).en w) := by
  have h := run_any w hT hR hD ft fj htot
  rw [untS, if_pos hl] at h
  obtain ⟨h1, h2, h3⟩ := legS_parts hl
  exact h.mono (untp_run (en_bd (lg_of (ljs_of (vs_of h1) js h3)) (Nat.le_refl _)))
/-- What isn't legal. -/
theorem run_not {A R : Option Addr} {cap rc : Nat} {ts : List Ts} {js : List Fv} (w : World) (hT : Row w A cap ts) (hR : FRow w R rc js) (hD : Dist ts) (ft : ts.length ≤ 1000) (fj : js.length ≤ 1000) (htot : (js.map (·.k)).sum ≤ 1000000000) (hl : legS ts js = false) :
    Calls Tryz.prog 11 #[.slice A ts.length cap, .slice R js.length rc] w (RunJ [] [] w) := by
  have h := run_any w hT hR hD ft fj htot
  rw [untS, hl] at h
  exact h.mono (untp_run (by simp))
theorem until_leg {A R : Option Addr} {cap rc : Nat} {ts : List Ts} {js : List Fv} {en : Int} {T : Nat} (w : World) (hT : Row w A cap ts) (hR : FRow w R rc js) (hD : Dist ts) (ft : ts.length ≤ 1000) (fj : js.length ≤ 1000) (htot : (js.map (·.k)).sum ≤ 1000000000) (hl : legS ts js = true) (hen : en.toNat = T) (he : en ≤ 9223372036854775807) :
    Calls Tryz.prog 22 #[.slice A ts.length cap, .slice R js.length rc, .int .i64 en] w (RunJ (tst ts js T).sp (tst ts js T).en w) := by
  have h := until_any w hT hR hD ft fj htot hen he
  rw [untS, if_pos hl] at h
  obtain ⟨h1, h2, h3⟩ := legS_parts hl
  exact h.mono (untp_run (en_bd (lg_of (ljs_of (vs_of h1) js h3)) (by omega)))
theorem until_not {A R : Option Addr} {cap rc : Nat} {ts : List Ts} {js : List Fv} {en : Int} (w : World) (hT : Row w A cap ts) (hR : FRow w R rc js) (hD : Dist ts) (ft : ts.length ≤ 1000) (fj : js.length ≤ 1000) (htot : (js.map (·.k)).sum ≤ 1000000000) (hl : legS ts js = false) (he : en ≤ 9223372036854775807) :
    Calls Tryz.prog 22 #[.slice A ts.length cap, .slice R js.length rc, .int .i64 en] w (RunJ [] [] w) := by
  have h := until_any (T := en.toNat) w hT hR hD ft fj htot rfl he
  rw [untS, hl] at h
  exact h.mono (untp_run (by simp))
section
variable {ss : List Ts} {js : List Fv} {M n : Nat} {A R : Option Addr} {cap rc : Nat}
theorem run_sm (h : Sm ss js M n) (hn : n ≤ 10) (w : World) (hT : Row w A cap ss) (hR : FRow w R rc js) : Calls Tryz.prog 11 #[.slice A ss.length cap, .slice R js.length rc] w (RunJ (tst ss js 9223372036854775807).sp (tst ss js 9223372036854775807).en w) :=
  run_leg w hT hR h.di (by have := h.sM; have := h.M8; omega) (by have := h.le; omega) (by have := h.tot hn; omega) h.lg
theorem until_sm (h : Sm ss js M n) (hn : n ≤ 10) (en : Int) (he : en ≤ 9223372036854775807) (w : World) (hT : Row w A cap ss) (hR : FRow w R rc js) : Calls Tryz.prog 22 #[.slice A ss.length cap, .slice R js.length rc, .int .i64 en] w (RunJ (tst ss js en.toNat).sp (tst ss js en.toNat).en w) :=
  until_leg w hT hR h.di (by have := h.sM; have := h.M8; omega) (by have := h.le; omega) (by have := h.tot hn; omega) h.lg rfl he
end
end Go.Proofs.YtngmaiiibinkaaaGreat
/- What a law knows of a run. -/
namespace Go.Proofs.YtngmaiiibinkaaaGreat
open Go.RowKit
set_option linter.unusedVariables false
set_option linter.unusedSimpArgs false
structure RnF (b : Int) (ss : List Ts) (js : List Fv) (sp : List Spn) (es : List Int) : Prop where
  le : es.length = js.length
  sj : ∀ x ∈ sp, x.j < js.length ∧ 0 ≤ x.f ∧ x.f < x.t ∧ x.t ≤ b
  en : ∀ i, i < js.length → 0 < kO es i ∧ kO es i ≤ b
  no : js.length = 0 → sp = []
theorem rnf_gen {ss : List Ts} {js : List Fv} (hl : Lg js) {T : Nat} {b : Int} (hT : (T : Int) ≤ b) (hd : ∀ i, i < js.length → kO (tst ss js T).dn i = (jb js i).k) : RnF b ss js (tst ss js T).sp (tst ss js T).en := by
  have hI := ti_all (ts := ss) hl T
  have hW := wk_all (ts := ss) hl T
  have sj : ∀ x ∈ (tst ss js T).sp, x.j < js.length ∧ 0 ≤ x.f ∧ x.f < x.t ∧ x.t ≤ b := fun x hx => by
    have h1 := chn_mem hW.ch x hx
    have h2 := hW.la
    unfold lastA at h2
    exact ⟨h1.1, h1.2.1.1, h1.2.1.2, by omega⟩
  refine ⟨hI.le, sj, fun i hi => ?_, fun h0 => ?_⟩
  · have := hd i hi
    rcases hI.en i hi with h1 | h1
    · omega
    · exact ⟨h1.2.1, by omega⟩
  · cases hs : (tst ss js T).sp with
    | nil => rfl
    | cons x l => have := (sj x (by rw [hs]; simp)).1; omega
theorem rnf_sm {ss : List Ts} {js : List Fv} {M n : Nat} (h : Sm ss js M n) (hn : n ≤ 10) : RnF 381 ss js (tst ss js 9223372036854775807).sp (tst ss js 9223372036854775807).en := by
  obtain ⟨-, h2, h3⟩ := done_later (ts := ss) h.lgs (show 381 ≤ 9223372036854775807 by omega) (h.done hn)
  rw [h2, h3]
  exact rnf_gen (ss := ss) h.lgs (by omega) (h.done hn)
/-- Spans, and ends, with how many there are. -/
def RunK (m n : Nat) (sp : List Spn) (en : List Int) (w : World) (e : Ending) (w' : World) : Prop := ∃ A c B d, e = .returned (.tuple #[.slice A m c, .slice B n d]) ∧ SpR w' A c sp ∧ CRow w' B d en ∧ Below w.heap.size w w'
theorem runk_of {m n : Nat} {sp : List Spn} {en : List Int} {w : World} (hm : sp.length = m) (hn : en.length = n) (e : Ending) (w' : World) (h : RunJ sp en w e w') : RunK m n sp en w e w' := by
  subst hm; subst hn; exact h
/-- Any legal jobs, run. -/
theorem runk_leg {A R : Option Addr} {cap rc k m n : Nat} {ts : List Ts} {js : List Fv} {sp : List Spn} {en : List Int} (w : World) (hT : Row w A cap ts) (hR : FRow w R rc js) (hk : js.length = k) (hD : Dist ts) (ft : ts.length ≤ 1000) (fj : js.length ≤ 1000) (htot : (js.map (·.k)).sum ≤ 1000000000) (hl : legS ts js = true)
    (hs : (tst ts js 9223372036854775807).sp = sp) (he : (tst ts js 9223372036854775807).en = en) (hm : sp.length = m) (hn : en.length = n) :
    Calls Tryz.prog 11 #[.slice A ts.length cap, .slice R k rc] w (RunK m n sp en w) := by
  subst hk; subst hs; subst he
  exact (run_leg w hT hR hD ft fj htot hl).mono (runk_of hm hn)
theorem runk_sm {ss : List Ts} {js : List Fv} {M l m n k : Nat} {A R : Option Addr} {cap rc : Nat} {sp : List Spn} {en : List Int} (h : Sm ss js M l) (hn : l ≤ 10) (w : World) (hT : Row w A cap ss) (hR : FRow w R rc js) (hk : js.length = k)
    (hs : (tst ss js 9223372036854775807).sp = sp) (he : (tst ss js 9223372036854775807).en = en) (hm : sp.length = m) (hnn : en.length = n) : Calls Tryz.prog 11 #[.slice A ss.length cap, .slice R k rc] w (RunK m n sp en w) :=
  runk_leg w hT hR hk h.di (by have := h.sM; have := h.M8; omega) (by have := h.le; omega) (by have := h.tot hn; omega) h.lg hs he hm hnn
/-- The low bits. -/
theorem low40 (n : Int) : ∃ m : Nat, m < 1099511627776 ∧ bits .and .i64 n 1099511627775 = (m : Int) := by
  have h : (BitVec.ofInt 64 n &&& BitVec.ofInt 64 1099511627775).toNat ≤ 1099511627775 := by
    rw [BitVec.toNat_and]
    exact Nat.and_le_right
  have e : bits .and .i64 n 1099511627775 = IntKind.i64.wrap (((BitVec.ofInt 64 n &&& BitVec.ofInt 64 1099511627775).toNat : Nat) : Int) := rfl
  rw [e]
  generalize (BitVec.ofInt 64 n &&& BitVec.ofInt 64 1099511627775).toNat = z at *
  exact ⟨z, by omega, IntWalk.i64_in _ (by omega)⟩
theorem low20 (n : Int) : ∃ m : Nat, m < 1048576 ∧ bits .and .i64 n 1048575 = (m : Int) := by
  have h : (BitVec.ofInt 64 n &&& BitVec.ofInt 64 1048575).toNat ≤ 1048575 := by
    rw [BitVec.toNat_and]
    exact Nat.and_le_right
  have e : bits .and .i64 n 1048575 = IntKind.i64.wrap (((BitVec.ofInt 64 n &&& BitVec.ofInt 64 1048575).toNat : Nat) : Int) := rfl
  rw [e]
  generalize (BitVec.ofInt 64 n &&& BitVec.ofInt 64 1048575).toNat = z at *
  exact ⟨z, by omega, IntWalk.i64_in _ (by omega)⟩
end Go.Proofs.YtngmaiiibinkaaaGreat
/- Rows of jobs that a law makes, or turns. -/
namespace Go.Proofs.YtngmaiiibinkaaaGreat
open Go.RowKit
set_option linter.unusedVariables false
set_option linter.unusedSimpArgs false
theorem gvC_set : ∀ (gs : List Gv) (i : Nat) (g g' : Gv), gs[i]? = some g → ∀ (j : Nat) (u : Value), j < 5 → fvL g'.x g'.A g'.cap = (fvL g.x g.A g.cap).set j u → gvC (gs.set i g') = (gvC gs).set (i * 5 + j) u
  | [], i, g, g', h, j, u, hj, he => by simp at h
  | a :: r, 0, g, g', h, j, u, hj, he => by
    simp at h
    subst h
    have hl : j < (fvL a.x a.A a.cap).length := by simp [fvL]; omega
    simp only [List.set_cons_zero, gvC, List.flatMap_cons, he, Nat.zero_mul, Nat.zero_add]
    rw [List.set_append, if_pos hl]
  | a :: r, i + 1, g, g', h, j, u, hj, he => by
    simp only [List.getElem?_cons_succ] at h
    have ih := gvC_set r i g g' h j u hj he
    have hl : (fvL a.x a.A a.cap).length = 5 := rfl
    simp only [List.set_cons_succ, gvC, List.flatMap_cons] at ih ⊢
    rw [ih, List.set_append, if_neg (by rw [hl]; omega)]
    congr 2
    rw [hl]
    omega
theorem FOwn.setI {e : TypeId} {B : Nat} {w : World} {q n cap : Nat} {gs : List Gv} {i : Nat} {g g' : Gv} (h : FOwn e B w (.slice (some ⟨q, 0, none⟩) n cap) gs) (hi : gs[i]? = some g) (j : Nat) (hj : j < 5) (u : Value)
    (he : fvL g'.x g'.A g'.cap = (fvL g.x g.A g.cap).set j u) (hg : GOk e B w g') : FOwn e B (w.setCell ⟨q, i * 5 + j, none⟩ u) (.slice (some ⟨q, 0, none⟩) n cap) (gs.set i g') := by
  have hil := (List.getElem?_eq_some_iff.1 hi).1
  have hk : ∀ b, b < w.heap.size → b < B ∨ (∃ cs T fr, w.heap[b]? = some (.cells cs T fr) ∧ T ≠ e) → (w.setCell ⟨q, i * 5 + j, none⟩ u).heap[b]? = w.heap[b]? := fun b hb hs => Below.heap_setCell _ _ _ _ (fun hq => by
    have hq' : b = q := hq
    subst hq'
    rcases hs with hs | ⟨cs, T, fr, hs, hT⟩
    · have := (h.row.lt b rfl).1; omega
    · exact own_ne h.row hs hT rfl)
  refine ⟨?_, fun y hy => ?_⟩
  · rw [List.length_set, gvC_set gs i g g' hi j u hj he]
    exact own_set h.row rfl (by omega) u
  · rcases List.mem_or_eq_of_mem_set hy with hy | rfl
    · exact (h.each y hy).kept hk
    · exact hg.kept hk
/-- What is known of a row's own place. -/
theorem FOwn.at_ {e : TypeId} {B : Nat} {w : World} {q n cap : Nat} {gs : List Gv} {i : Nat} {g : Gv} (h : FOwn e B w (.slice (some ⟨q, 0, none⟩) n cap) gs) (hi : gs[i]? = some g) : ∀ j u, (fvL g.x g.A g.cap)[j]? = some u → w.cell? ⟨q, i * 5 + j, none⟩ = some u := fun j u hu => own_cell h.row rfl (gvC_get gs i g hi j u hu)
theorem FOwn.old {e e' : TypeId} {B : Nat} {w : World} {v : Value} {gs : List Gv} (h : FOwn e B w v gs) : ∀ g ∈ gs, GOk e' w.heap.size w g := fun g hg => by
  have ho := h.each g hg
  refine ⟨ho.wf, ho.s, fun hne a ha => .inl ?_⟩
  obtain ⟨b, o, x, hA, _, _, hlt, _⟩ := ho.s.get (k := 0) (by rcases Nat.eq_zero_or_pos g.x.c.length with h0 | h0; exact absurd (List.length_eq_zero_iff.1 h0) hne; exact h0)
  rw [ha] at hA
  cases hA
  exact hlt
abbrev Q2 (N : Nat) (a b : Int) (W : World) : Prop := W.cell? ⟨N, 0, none⟩ = some (.int .i64 a) ∧ W.cell? ⟨N, 1, none⟩ = some (.int .i64 b)
theorem Q2.step {N : Nat} {a b : Int} {W W' : World} (h : Q2 N a b W) (hb : Below W.heap.size W W') : Q2 N a b W' := ⟨cells_below hb _ _ _ h.1, cells_below hb _ _ _ h.2⟩
theorem arr2 {w w1 : World} {t : TypeId} {v0 v1 : Int} (h : Below (w.alloc (.cells #[.int .i64 v0, .int .i64 v1] t)).heap.size (w.alloc (.cells #[.int .i64 v0, .int .i64 v1] t)) w1) :
    Q2 w.heap.size v0 v1 w1 ∧ Below w.heap.size w w1 := by
  have hs := h.size
  simp only [World.size_alloc] at hs
  have hc : ∀ i, w1.cell? ⟨w.heap.size, i, none⟩ = (#[.int .i64 v0, .int .i64 v1] : Array Value)[i]? := fun i => by
    rw [h.cell (p := ⟨w.heap.size, i, none⟩) (by simp), cell_of_row _ _ i _ _ _ (heap_alloc_new w _)]
  exact ⟨⟨hc 0, hc 1⟩, ((Below.refl w.heap.size w).alloc (Nat.le_refl _) _).trans (h.mono (by simp))⟩
/-- One more thing, by what append tells. -/
theorem push_step {e : TypeId} {w0 W1 W2 w8 : World} {v v' : Value} {gs : List Gv} {g : Gv} (h : FOwn e w0.heap.size W1 v gs) (hg : GOk e w0.heap.size W1 g) (hb : Below w0.heap.size w0 W1) (ba : Below W1.heap.size W1 W2)
    (hown : w8.ownsRow w0.heap.size e 5 v' (gs.length + 1) (gvC gs ++ fvL g.x g.A g.cap)) (hgr : W2.grownBy w8 v.ownBlock) : FOwn e w0.heap.size w8 v' (gs ++ [g]) ∧ Below w0.heap.size w0 w8 :=
  ⟨(h.later ba).push (hg.kept fun b hl _ => ba.block b hl) hown hgr, (hb.trans (ba.mono hb.size)).grown hgr (by have := hb.size; have := ba.size; omega) (fun q hq => (h.row.lt q hq).1)⟩
/-- A row of jobs that is being made. -/
structure JIn (w0 wr : World) (v : Value) (xs : List Fv) : Prop where
  own : ∃ gs, FOwn 43 w0.heap.size wr v gs ∧ gs.map (·.x) = xs
  bel : Below w0.heap.size w0 wr
theorem JIn.nil (w0 : World) : JIn w0 w0 (.slice none 0 0) [] := ⟨⟨[], FOwn.nil _ _ _, rfl⟩, Below.refl _ _⟩
theorem chk_nil : (chkAll []).2 ≠ 0 := by simp [chkAll]
theorem legS_nil (js : List Fv) : legS [] js = false := by
  rw [legS]
  have : decide ((chkAll []).2 = 0 ∧ js.length ≤ 4096) = false := decide_eq_false (fun h => chk_nil h.1)
  rw [this]; rfl
end Go.Proofs.YtngmaiiibinkaaaGreat
/- What the laws of this stage lean on. -/
namespace Go.Proofs.YtngmaiiibinkaaaGreat
open Go.RowKit
set_option linter.unusedVariables false
set_option linter.unusedSimpArgs false
/-- What the law asks of each job. -/
structure RuF (ss : List Ts) (js : List Fv) (es : List Int) (q : Nat) : Prop where
  rs : respS js es (q : Int) = some (kO es q - (jb js q).a)
  ge : (jb js q).k ≤ kO es q - (jb js q).a
  ms : missB ss js es q = decide ((tk ss (jb js q).t).d < kO es q - (jb js q).a)
  wo : ∃ g p, worstS js es (jb js q).t js.length = some (g, p) ∧ kO es q - (jb js q).a ≤ g ∧ p < js.length ∧ (jb js p).t = (jb js q).t
theorem ru_gen {ss : List Ts} {js : List Fv} {es : List Int} {q : Nat} (hle : es.length = js.length) (hq : q < js.length) (hg : (jb js q).r + (jb js q).k ≤ kO es q) (ha : (jb js q).a ≤ (jb js q).r ∧ 0 ≤ (jb js q).a ∧ 1 ≤ (jb js q).k) (ht : 0 ≤ (jb js q).t ∧ (jb js q).t < ss.length) : RuF ss js es q := by
  have hr : respS js es (q : Int) = some (kO es q - (jb js q).a) := by
    unfold respS
    simp only [Int.toNat_natCast]
    rw [if_pos (by omega)]
  obtain ⟨g, p, h1, h2⟩ := worst_ge js es (jb js q).t js.length q _ hq rfl hr
  have h3 := worst_some js _ _ _ g p h1
  refine ⟨hr, by omega, ?_, g, p, h1, h2, h3.1, h3.2⟩
  unfold missB
  rw [hr, decide_eq_true ht.1, decide_eq_true ht.2]
  rfl
theorem ru_fact {ss : List Ts} {js : List Fv} {M n : Nat} (h : Sm ss js M n) (hn : n ≤ 10) {q : Nat} (hq : q < js.length) : RuF ss js (tst ss js 9223372036854775807).en q :=
  ru_gen (trf_sm h hn).le hq (end_ge h hn hq) (by have := h.arb hn hq; omega) (h.t q hq)
end Go.Proofs.YtngmaiiibinkaaaGreat
/- The document's within, pick. -/
namespace Go.Proofs.YtngmaiiibinkaaaGreat
open Go.RowKit
set_option linter.unusedVariables false
set_option linter.unusedSimpArgs false
attribute [local go_sem ↓] Go.wp_at_zero Go.wp_at_succ
theorem sum_take (c : List Int) (h : Pos1 c) (k : Nat) : 0 ≤ (c.take k).sum ∧ (c.take k).sum ≤ c.sum := by
  have h1 : Pos1 (c.take k) := fun x hx => h x (List.mem_of_mem_take hx)
  have h2 : Pos1 (c.drop k) := fun x hx => h x (List.mem_of_mem_drop hx)
  have := congrArg List.sum (List.take_append_drop k c)
  rw [List.sum_append] at this
  have := h1.sum
  have := h2.sum
  omega
theorem wthS_step {c : List Int} {k : Nat} {a d : Int} (hk : c[k]? = some a) : wthS (c.drop k) (d - (c.take k).sum) = ((decide (d > (c.take k).sum) && decide (d < (c.take k).sum + a)) || wthS (c.drop (k + 1)) (d - (c.take (k + 1)).sum)) := by
  have hlt := (List.getElem?_eq_some_iff.1 hk).1
  have e : c.drop k = a :: c.drop (k + 1) := by
    rw [List.drop_eq_getElem_cons hlt]
    congr 1
    have := List.getElem?_eq_getElem hlt
    rw [hk] at this
    simpa using this.symm
  rw [e, wthS, take_one hk, List.sum_append]
  congr 1
  · congr 1
    · exact decide_eq_decide.2 (by omega)
    · exact decide_eq_decide.2 (by omega)
  · congr 1
    simp; omega
set_option maxRecDepth 100000 in
set_option maxHeartbeats 8000000 in
theorem rwithin_any (x : Fv) (Cc : Option Addr) (cc : Nat) (d : Int) (w : World) (hc : CRow w Cc cc x.c) (hp : Pos1 x.c) (hs : x.c.sum ≤ 2147483647) (hd : 0 ≤ d ∧ d ≤ 2147483647) :
    Calls Tryz.prog 41 #[fvV x Cc cc, .int .i64 d] w fun e w' => e = .returned (.bool (wthS x.c d)) ∧ Below w.heap.size w w' := by
  obtain ⟨xt, xa, xr, xk, c⟩ := x
  simp only at hc hp hs
  show Calls Tryz.prog 41 #[.agg #[.int .i64 xt, .int .i64 xa, .int .i64 xr, .int .i64 xk, .slice Cc c.length cc], .int .i64 d] w fun e w' => e = .returned (.bool (wthS c d)) ∧ Below w.heap.size w w'
  have b0 : Below w.heap.size w (w.alloc (.cells #[.int .i64 xt, .int .i64 xa, .int .i64 xr, .int .i64 xk, .slice Cc c.length cc] 43)) := (Below.refl _ _).alloc (Nat.le_refl _) _
  have c4 := cell_of_row (w.alloc (.cells #[.int .i64 xt, .int .i64 xa, .int .i64 xr, .int .i64 xk, .slice Cc c.length cc] 43)) w.heap.size 4 _ _ _ (heap_alloc_new w _)
  simp only [List.getElem?_toArray, List.getElem?_cons_zero, List.getElem?_cons_succ] at c4
  have hR := hc.later b0
  have hle := hc.le
  have hmx := hc.mx
  obtain ⟨n, hn⟩ : ∃ n, c.length = n := ⟨_, rfl⟩
  obtain ⟨W1, hW1⟩ : ∃ W1, w.alloc (.cells #[.int .i64 xt, .int .i64 xa, .int .i64 xr, .int .i64 xk, .slice Cc c.length cc] 43) = W1 := ⟨_, rfl⟩
  rw [hW1] at b0 c4 hR
  rw [hn] at hW1 c4 hle ⊢
  obtain ⟨bj, hbj⟩ : ∃ bj, w.heap.size = bj := ⟨_, rfl⟩
  rw [hbj] at c4
  have HR := Lib.hid hR
  have HN := Lib.hid hn
  have HP := Lib.hid hp
  have HB0 := Lib.hid b0
  have hst := fun k => sum_take c hp k
  have HST := Lib.hid hst
  have HW := Lib.hid (show wthS (c.drop 0) (d - (c.take 0).sum) = wthS c d by simp)
  clear hc hR hn hp hst b0
  go_enter Tryz.func41, Tryz.ntmps41
  go_upto_region 1 with (fail)
  try rw [hW1]
  try rw [hbj]
  clear hW1 hbj
  go_wp2
  go_loopw [5, 6] (fun a i wr => wr = W1 ∧ ∃ k : Nat, k ≤ n ∧ i = .int .i64 (k : Int) ∧ a = .int .i64 (c.take k).sum ∧ Hid (wthS (c.drop k) (d - (c.take k).sum) = wthS c d)) (fun _ i _ => n - (intOf i).toNat)
  case atStart => exact ⟨rfl, 0, Nat.zero_le _, rfl, by simp, HW⟩
  case round =>
    obtain ⟨hwr, k, hk, rfl, rfl, hI⟩ := hrel
    obtain rfl : W1 = wr := hwr.symm
    clear HW
    by_cases hlt : k < n
    · obtain ⟨b, o, a, rfl, hx, hwf, hbl, hcl⟩ := HR.out.get (k := k) (by rw [HN.out]; exact hlt)
      have hstep := wthS_step (d := d) hx
      rw [hI.out] at hstep
      have t1 := (HST.out k)
      have t2 := (HST.out (k + 1))
      have ht : (c.take (k + 1)).sum = (c.take k).sum + a := by rw [take_one hx, List.sum_append]; simp
      have ha := HP.out a (List.mem_of_getElem? hx)
      have HT := Lib.hid ht
      have HS := Lib.hid hstep
      rw [ht] at t2
      have hi0 : (0 : Int) ≤ (k : Int) := by omega
      have hi1 : (k : Int) < (n : Int) := by omega
      generalize (c.take k).sum = s at *
      clear ht hstep hx
      obtain ⟨g, hg⟩ : ∃ g, (decide (d > s) && decide (d < s + a)) = g := ⟨_, rfl⟩
      have HG := Lib.hid hg
      cases g with
      | true =>
        obtain ⟨g1, g2⟩ : d > s ∧ d < s + a := by simpa using hg
        have e1 : decide (d > s) = true := decide_eq_true g1
        have e1' : decide (s < d) = true := decide_eq_true g1
        have e2 : decide (d < s + a) = true := decide_eq_true g2
        clear hg
        go_wp2
        go_ret
        refine ⟨?_, HB0.out⟩
        rw [HS.out, HG.out]; rfl
      | false =>
        have HNX : Hid (wthS (c.drop (k + 1)) (d - (c.take (k + 1)).sum) = wthS c d) := Lib.hid (by rw [HS.out, HG.out]; rfl)
        by_cases g1 : d > s
        · have g2 : ¬ (d < s + a) := fun h => by rw [decide_eq_true g1, decide_eq_true h] at hg; cases hg
          have e1 : decide (d > s) = true := decide_eq_true g1
          have e1' : decide (s < d) = true := decide_eq_true g1
          have e2 : decide (d < s + a) = false := decide_eq_false g2
          clear hg
          go_wp2
          go_roundw
          case rel => exact ⟨trivial, k + 1, by omega, by go_num, by rw [HT.out], HNX⟩
          case measure => simp [intOf]; omega
        · have e1 : decide (d > s) = false := decide_eq_false g1
          have e1' : decide (s < d) = false := decide_eq_false g1
          clear hg
          go_wp2
          go_roundw
          case rel => exact ⟨trivial, k + 1, by omega, by go_num, by rw [HT.out], HNX⟩
          case measure => simp [intOf]; omega
    · obtain rfl : k = n := by omega
      go_wp2
      go_ret
      refine ⟨?_, HB0.out⟩
      have := hI.out
      rw [List.drop_of_length_le (by rw [HN.out]; exact Nat.le_refl _)] at this
      rw [← this]; rfl
def pkI : Option Nat → Int | none => -1 | some b => (b : Int)
set_option maxRecDepth 100000 in
set_option maxHeartbeats 16000000 in
theorem rpick_any {A R D : Option Addr} {cap rc dc : Nat} {ts : List Ts} {js : List Fv} {dn : List Int} (t : Int) (w : World) (hT : Row w A cap ts) (hR : FRow w R rc js) (hD : CRow w D dc dn) (hl : dn.length = js.length) (ht : ∀ i, i < js.length → 0 ≤ (jb js i).t ∧ (jb js i).t < ts.length) (hn : js.length ≤ 1000) (hm : ts.length ≤ 1000) :
    Calls Tryz.prog 42 #[.slice A ts.length cap, .slice R js.length rc, .slice D js.length dc, .int .i64 t] w fun e w' => e = .returned (.int .i64 (pkI (pkN ts js dn t js.length))) ∧ Below w.heap.size w w' := by
  have HT := Lib.hid hT
  have HR := Lib.hid hR
  have HD := Lib.hid hD
  have HTT := Lib.hid ht
  have HL := Lib.hid hl
  have HB := Lib.hid (fun k => (pkN_spec (ts := ts) (js := js) (dn := dn) (t := t) k).2)
  have r1 := hR.le
  have r2 := hR.mx
  have d1 := hD.le
  have d2 := hD.mx
  have e1 := hT.le
  have e2 := hT.mx
  rw [hl] at d1
  obtain ⟨n, hn0⟩ : ∃ n, js.length = n := ⟨_, rfl⟩
  obtain ⟨m, hm0⟩ : ∃ m, ts.length = m := ⟨_, rfl⟩
  have HN := Lib.hid hn0
  have HM := Lib.hid hm0
  rw [hn0] at hn r1 d1 ⊢
  rw [hm0] at hm e1 ⊢
  clear hT hR hD ht hl hn0 hm0
  go_enter Tryz.func42, Tryz.ntmps42
  go_wp2
  go_loopw [9, 10] (fun b i wr => ∃ k : Nat, k ≤ n ∧ i = .int .i64 (k : Int) ∧ b = .int .i64 (pkI (pkN ts js dn t k)) ∧ Hid (Below w.heap.size w wr)) (fun _ i _ => n - (intOf i).toNat)
  case atStart => exact ⟨0, Nat.zero_le _, rfl, rfl, Lib.hid (Below.refl _ _)⟩
  case round =>
    obtain ⟨k, hk, rfl, rfl, hB⟩ := hrel
    by_cases hlt : k < n
    · have hkj : k < js.length := by rw [HN.out]; exact hlt
      obtain ⟨rb, ro, x, C, cc, rfl, hx, hrl, hF⟩ := (HR.out.later hB.out).get (k := k) hkj
      obtain ⟨db, d0, y, rfl, hy, hyw, hdl, hyc⟩ := (HD.out.later hB.out).get (k := k) (by rw [HL.out]; exact hkj)
      have hxe := jb_get hx
      subst hxe
      have hye : kO dn k = y := by simp [kO, hy]
      have c0 := hF.c0
      have c2 := hF.c2
      have c3 := hF.c3
      have hi0 : (0 : Int) ≤ (k : Int) := by omega
      have hi1 : (k : Int) < (n : Int) := by omega
      have hs := pkN_succ (ts := ts) (js := js) (dn := dn) (t := t) k
      unfold pk1 at hs
      have HS := Lib.hid hs
      have HY := Lib.hid hye
      clear hs hx hy hye hF
      by_cases g1 : (jb js k).r ≤ t
      · have t1 : decide ((jb js k).r ≤ t) = true := decide_eq_true g1
        by_cases g2 : y < (jb js k).k
        · have t2 : decide (y < (jb js k).k) = true := decide_eq_true g2
          have hrd : rdy js dn t k = true := rdy_iff.2 ⟨g1, by rw [HY.out]; exact g2⟩
          obtain ⟨p0, p1⟩ := HTT.out k hkj
          obtain ⟨tb, tq, z, rfl, hz, hzw, htb, hZ⟩ := (HT.out.later hB.out).get (k := (jb js k).t.toNat) (by omega)
          have hzt : tk ts (jb js k).t = z := by have := tk_get hz; rw [show (((jb js k).t.toNat : Nat) : Int) = (jb js k).t by omega] at this; exact this
          have z6 := hZ.c6
          cases hp : pkN ts js dn t k with
          | none =>
            have HNX : Hid (pkN ts js dn t (k + 1) = some k) := Lib.hid (by rw [HS.out, hrd, hp] <;> rfl)
            have t3 : decide ((-1 : Int) < 0) = true := rfl
            simp only [pkI]
            clear hZ hz hzt z6 hrd hp HS
            go_upto_region 5 with (fail)
            go_quiet (fail)
            go_wp2
            go_roundw
            case rel => exact ⟨k + 1, by omega, by go_num, by rw [HNX.out] <;> rfl, Lib.hid (hB.out.trans ((below_drewN2 wr _).mono hB.out.size))⟩
            case measure => simp [intOf]; omega
          | some b =>
            have hbs := HB.out k b hp
            have hbj : b < js.length := by have := hbs.1; omega
            obtain ⟨q0, q1⟩ := HTT.out b hbj
            obtain ⟨rb', ro', x', C', cc', hRe, hx', hrl', hF'⟩ := (HR.out.later hB.out).get (k := b) hbj
            simp only [Option.some.injEq, Addr.mk.injEq, and_true] at hRe
            obtain ⟨rfl, rfl⟩ := hRe
            have hxe' := jb_get hx'
            subst hxe'
            have b0 := hF'.c0
            obtain ⟨tb', tq', z', hTe, hz', hzw', htb', hZ'⟩ := (HT.out.later hB.out).get (k := (jb js b).t.toNat) (by omega)
            simp only [Option.some.injEq, Addr.mk.injEq, and_true] at hTe
            obtain ⟨rfl, rfl⟩ := hTe
            have hzt' : tk ts (jb js b).t = z' := by have := tk_get hz'; rw [show (((jb js b).t.toNat : Nat) : Int) = (jb js b).t by omega] at this; exact this
            have z6' := hZ'.c6
            have t3 : decide ((b : Int) < 0) = false := decide_eq_false (by omega)
            have j0 : (0 : Int) ≤ (b : Int) := by omega
            have j1 : (b : Int) < (n : Int) := by have := hbs.1; omega
            obtain ⟨u, hu⟩ : ∃ u : Nat, (jb js k).t = (u : Int) := ⟨(jb js k).t.toNat, by omega⟩
            obtain ⟨u', hu'⟩ : ∃ u' : Nat, (jb js b).t = (u' : Int) := ⟨(jb js b).t.toNat, by omega⟩
            rw [hu] at c0 z6 p1
            rw [hu'] at b0 z6' q1
            simp only [Int.toNat_natCast] at z6 z6'
            have l0 : (0 : Int) ≤ (u : Int) := by omega
            have l1 : (u : Int) < (m : Int) := by rw [← HM.out]; exact p1
            have l0' : (0 : Int) ≤ (u' : Int) := by omega
            have l1' : (u' : Int) < (m : Int) := by rw [← HM.out]; exact q1
            simp only [pkI]
            by_cases g4 : z.p < z'.p
            · have t4 : decide (z.p < z'.p) = true := decide_eq_true g4
              have HNX : Hid (pkN ts js dn t (k + 1) = some k) := Lib.hid (by
                rw [HS.out, hrd, hp]
                simp only [prO, hzt, hzt', t4, Bool.and_self, if_true])
              clear hZ hz hzt hrd hp HS hbs hF' hx' hZ' hz' hzt' hu hu' p0 p1 q0 q1
              go_upto_region 5 with (fail)
              go_quiet (fail)
              go_wp2
              go_roundw
              case rel => exact ⟨k + 1, by omega, by go_num, by rw [HNX.out] <;> rfl, Lib.hid (hB.out.trans ((below_drewN2 wr _).mono hB.out.size))⟩
              case measure => simp [intOf]; omega
            · have t4 : decide (z.p < z'.p) = false := decide_eq_false g4
              have HNX : Hid (pkN ts js dn t (k + 1) = some b) := Lib.hid (by
                rw [HS.out, hrd, hp]
                simp only [prO, hzt, hzt', t4, Bool.and_false, Bool.false_eq_true, if_false])
              clear hZ hz hzt hrd hp HS hbs hF' hx' hZ' hz' hzt' hu hu' p0 p1 q0 q1
              go_upto_region 5 with (fail)
              go_quiet (fail)
              go_wp2
              go_roundw
              case rel => exact ⟨k + 1, by omega, by go_num, by rw [HNX.out] <;> rfl, Lib.hid (hB.out.trans ((below_drewN2 wr _).mono hB.out.size))⟩
              case measure => simp [intOf]; omega
        · have t2 : decide (y < (jb js k).k) = false := decide_eq_false g2
          have HNX : Hid (pkN ts js dn t (k + 1) = pkN ts js dn t k) := Lib.hid (by
            have hrd : rdy js dn t k = false := by rw [← Bool.not_eq_true, rdy_iff]; rw [HY.out]; omega
            rw [HS.out, hrd] <;> rfl)
          clear HS
          go_upto_region 5 with (fail)
          go_quiet (fail)
          go_wp2
          go_roundw
          case rel => exact ⟨k + 1, by omega, by go_num, by rw [HNX.out], Lib.hid (hB.out.trans ((below_drewN2 wr _).mono hB.out.size))⟩
          case measure => simp [intOf]; omega
      · have t1 : decide ((jb js k).r ≤ t) = false := decide_eq_false g1
        have HNX : Hid (pkN ts js dn t (k + 1) = pkN ts js dn t k) := Lib.hid (by
          have hrd : rdy js dn t k = false := by rw [← Bool.not_eq_true, rdy_iff]; omega
          rw [HS.out, hrd] <;> rfl)
        clear HS
        go_upto_region 5 with (fail)
        go_quiet (fail)
        go_wp2
        go_roundw
        case rel => exact ⟨k + 1, by omega, by go_num, by rw [HNX.out], Lib.hid (hB.out.trans ((below_drewN2 wr _).mono hB.out.size))⟩
        case measure => simp [intOf]; omega
    · obtain rfl : k = n := by omega
      go_wp2
      go_ret
      exact ⟨rfl, hB.out⟩
end Go.Proofs.YtngmaiiibinkaaaGreat
/- The document's run in memory. -/
namespace Go.Proofs.YtngmaiiibinkaaaGreat
open Go.RowKit
set_option linter.unusedVariables false
set_option linter.unusedSimpArgs false
attribute [local go_sem ↓] Go.wp_at_zero Go.wp_at_succ
abbrev TGo : TypeId := 53
structure RfS (w0 : World) (n bg ge gd : Nat) (st : TSt) (vs : Value) (wr : World) : Prop where
  bel : Below w0.heap.size w0 wr
  box : wr.heap[bg]? = some (Obj.cells #[vs, .slice (some ⟨ge, 0, none⟩) n n, .slice (some ⟨gd, 0, none⟩) n n] TGo (0, 0))
  spn : wr.ownsRow w0.heap.size TSp 3 vs st.sp.length (spC st.sp)
  ens : wr.ownsRow w0.heap.size T64 1 (.slice (some ⟨ge, 0, none⟩) n n) n (numL st.en)
  dns : wr.ownsRow w0.heap.size T64 1 (.slice (some ⟨gd, 0, none⟩) n n) n (numL st.dn)
  ne : ge ≠ gd
  gb : w0.heap.size ≤ bg
  nb : bg ≠ w0.heap.size
  res : wr.heap[w0.heap.size]? = some (Obj.cells #[.slice none 0 0, .slice none 0 0, .slice none 0 0] TGo (0, 0))
structure RfS' (w0 : World) (n ge gd : Nat) (st : TSt) (vs : Value) (wr : World) : Prop where
  spn : wr.ownsRow w0.heap.size TSp 3 vs st.sp.length (spC st.sp)
  ens : wr.ownsRow w0.heap.size T64 1 (.slice (some ⟨ge, 0, none⟩) n n) n (numL st.en)
  bel : Below w0.heap.size w0 wr
theorem infoG10 : (Tryz.prog.info? TGo).map (·.size) = some 3 := by kernel_rfl
theorem results_got10 {fn : Func} {p : Tmp} (h : fn.results = #[.cell p TGo]) (tmps : Array Value) (w : World) (b : Nat) {x y z : Value} (hp : tmps.getD p undef = .pointer (some ⟨b, 0, none⟩)) (hb : w.heap[b]? = some (.cells #[x, y, z] TGo (0, 0))) :
    (results fn tmps).run Tryz.prog w = .ok (.agg #[x, y, z]) w :=
  results_cell_row h tmps w b _ _ _ _ hp hb Tryz.underlying53 rfl infoG10
section
variable {w0 wr : World} {n bg ge gd : Nat} {st : TSt} {vs : Value}
theorem RfS.cell (h : RfS w0 n bg ge gd st vs wr) (i : Nat) : wr.cell? ⟨bg, i, none⟩ = (#[vs, .slice (some ⟨ge, 0, none⟩) n n, .slice (some ⟨gd, 0, none⟩) n n] : Array Value)[i]? := cell_of_row wr bg i _ _ _ h.box
theorem RfS.c0 (h : RfS w0 n bg ge gd st vs wr) : wr.cell? ⟨bg, 0, none⟩ = some vs := h.cell 0
theorem RfS.c1 (h : RfS w0 n bg ge gd st vs wr) : wr.cell? ⟨bg, 1, none⟩ = some (.slice (some ⟨ge, 0, none⟩) n n) := h.cell 1
theorem RfS.c2 (h : RfS w0 n bg ge gd st vs wr) : wr.cell? ⟨bg, 2, none⟩ = some (.slice (some ⟨gd, 0, none⟩) n n) := h.cell 2
theorem RfS.fz (h : RfS w0 n bg ge gd st vs wr) (i : Nat) : wr.frozen? ⟨bg, i, none⟩ = false := by simp [World.frozen?, h.box]
theorem RfS.later {w' : World} (h : RfS w0 n bg ge gd st vs wr) (hb : Below wr.heap.size wr w') : RfS w0 n bg ge gd st vs w' := by
  have k : KT [] wr w' := KT.of hb
  exact ⟨h.bel.trans (hb.mono h.bel.size), k.blk _ _ _ h.box (by simp), k.row h.spn (by simp), k.row h.ens (by simp), k.row h.dns (by simp), h.ne, h.gb, h.nb, k.blk _ _ _ h.res (by simp)⟩
theorem RfS.ru (h : RfS w0 n bg ge gd st vs wr) (r : Option Nat) : RfS w0 n bg ge gd { st with ru := r } vs wr := ⟨h.bel, h.box, h.spn, h.ens, h.dns, h.ne, h.gb, h.nb, h.res⟩
theorem RfS.grow {l : List Spn} {x : Spn} {g cap : Nat} (h : RfS w0 n bg ge gd st (.slice (some ⟨g, 0, none⟩) (l.length + 1) cap) wr) (hsp : st.sp = l ++ [x]) (t : Int) :
    RfS w0 n bg ge gd { st with sp := l ++ [⟨x.j, x.f, t⟩] } (.slice (some ⟨g, 0, none⟩) (l.length + 1) cap) (wr.setCell ⟨g, l.length * 3 + 2, none⟩ (.int .i64 t)) := by
  have hs := h.spn
  rw [hsp] at hs
  obtain ⟨cs, hcs⟩ := own_ty hs (g := g) rfl
  have k : KT [TSp] wr (wr.setCell ⟨g, l.length * 3 + 2, none⟩ (.int .i64 t)) := KT.set hcs (by simp)
  have h2 : (l ++ [x]).length = l.length + 1 := by simp
  have h3 := own_set hs (g := g) rfl (i := l.length * 3 + 2) (by rw [h2]; omega) (.int .i64 t)
  rw [sp_set] at h3
  exact ⟨below_set h.bel (hs.lt g rfl).1 h.bel.size, k.blk _ _ _ h.box (by decide), by simpa using h3, k.row h.ens (by decide), k.row h.dns (by decide), h.ne, h.gb, h.nb, k.blk _ _ _ h.res (by decide)⟩
theorem RfS.more {vs2 : Value} {w1 w2 : World} {x : Spn} (h : RfS w0 n bg ge gd st vs wr) (hB : Below wr.heap.size wr w1) (hown : w2.ownsRow w0.heap.size TSp 3 vs2 (st.sp.length + 1) (spC st.sp ++ snL x)) (hg : w1.grownBy w2 vs.ownBlock) :
    (w2.cell? ⟨bg, 0, none⟩ = some vs ∧ ∀ i, w2.frozen? ⟨bg, i, none⟩ = false) ∧ RfS w0 n bg ge gd { st with sp := st.sp ++ [x] } vs2 (w2.setCell ⟨bg, 0, none⟩ vs2) := by
  have h1 := h.later hB
  have hk : Kept vs.ownBlock.toList w1 w2 := kept_grown hg (fun k hk => by simp [hk])
  have kt : KT [TGo, TSp] w1 w2 := KT.kept hk (fun k hm => by
    obtain ⟨cs, hc⟩ := own_ty h1.spn (g := k) (by simpa using hm)
    exact ⟨cs, _, hc, by simp⟩)
  have hbox2 : w2.heap[bg]? = some (Obj.cells #[vs, .slice (some ⟨ge, 0, none⟩) n n, .slice (some ⟨gd, 0, none⟩) n n] TGo (0, 0)) := by
    refine (hk.block bg (Array.getElem?_eq_some_iff.1 h1.box).1 (fun hm => ?_)).trans h1.box
    exact own_ne h1.spn h1.box (by decide) (by simpa using hm)
  have kt2 : KT [TGo, TSp] w1 (w2.setCell ⟨bg, 0, none⟩ vs2) := kt.trans (KT.set hbox2 (by simp))
  have b2 : Below w0.heap.size w0 w2 := h1.bel.trans (hk.below h1.bel.size (fun k hm => (h1.spn.lt k (by simpa using hm)).1))
  refine ⟨⟨cell_of_row w2 bg 0 _ _ _ hbox2, fun i => by simp [World.frozen?, hbox2]⟩, below_set b2 h.gb b2.size, heap_setCell_same _ _ 0 _ _ _ hbox2, ?_, kt2.row h1.ens (by decide), kt2.row h1.dns (by decide), h.ne, h.gb, h.nb, ?_⟩
  rotate_left
  · have q1 := h1.res
    rw [Below.heap_setCell _ _ _ _ (by simpa using Ne.symm h.nb)]
    exact (hk.block _ (Array.getElem?_eq_some_iff.1 q1).1 (fun hm => own_ne h1.spn q1 (by decide) (by simpa using hm))).trans q1
  have hne : ∀ g, vs2.ownBlock = some g → g ∉ [bg] := fun g hg2 => by
    rw [List.mem_singleton]
    intro e
    subst e
    exact own_ne hown hbox2 (by decide) hg2
  have := ((Kept.refl [bg] w2).set bg 0 vs2 (by simp)).row hown hne
  rw [List.length_append, spC_app]
  exact this
theorem RfS.done (h : RfS w0 n bg ge gd st vs wr) {i : Nat} (hi : i < n) (v : Int) : RfS w0 n bg ge gd { st with dn := st.dn.set i v } vs (wr.setCell ⟨gd, i, none⟩ (.int .i64 v)) := by
  obtain ⟨cs, hcs⟩ := own_ty h.dns (g := gd) rfl
  have k : KT [T64] wr (wr.setCell ⟨gd, i, none⟩ (.int .i64 v)) := KT.set hcs (by simp)
  have h3 := own_set h.dns (g := gd) rfl (i := i) (by omega) (.int .i64 v)
  have e : numL (st.dn.set i v) = (numL st.dn).set i (.int .i64 v) := by simp [numL, List.map_set]
  exact ⟨below_set h.bel (h.dns.lt gd rfl).1 h.bel.size, k.blk _ _ _ h.box (by decide), k.row h.spn (by decide), ((Kept.refl [gd] wr).set gd i _ (by simp)).row h.ens (fun g hg => by simp [Value.ownBlock] at hg; simp; intro e; exact h.ne (by rw [hg]; exact e)), by rw [e]; exact h3, h.ne, h.gb, h.nb, k.blk _ _ _ h.res (by decide)⟩
theorem RfS.ended (h : RfS w0 n bg ge gd st vs wr) {i : Nat} (hi : i < n) (v : Int) : RfS w0 n bg ge gd { st with en := st.en.set i v } vs (wr.setCell ⟨ge, i, none⟩ (.int .i64 v)) := by
  obtain ⟨cs, hcs⟩ := own_ty h.ens (g := ge) rfl
  have k : KT [T64] wr (wr.setCell ⟨ge, i, none⟩ (.int .i64 v)) := KT.set hcs (by simp)
  have h3 := own_set h.ens (g := ge) rfl (i := i) (by omega) (.int .i64 v)
  have e : numL (st.en.set i v) = (numL st.en).set i (.int .i64 v) := by simp [numL, List.map_set]
  exact ⟨below_set h.bel (h.ens.lt ge rfl).1 h.bel.size, k.blk _ _ _ h.box (by decide), k.row h.spn (by decide), by rw [e]; exact h3, ((Kept.refl [ge] wr).set ge i _ (by simp)).row h.dns (fun g hg => by simp [Value.ownBlock] at hg; simp; intro e; exact h.ne (by rw [hg]; exact e.symm)), h.ne, h.gb, h.nb, k.blk _ _ _ h.res (by decide)⟩
theorem RfS.final (h : RfS w0 n bg ge gd st vs wr) : (((wr.setCell ⟨w0.heap.size, 0, none⟩ vs).setCell ⟨w0.heap.size, 1, none⟩ (.slice (some ⟨ge, 0, none⟩) n n)).setCell ⟨w0.heap.size, 2, none⟩ (.slice (some ⟨gd, 0, none⟩) n n)).heap[w0.heap.size]? = some (Obj.cells #[vs, .slice (some ⟨ge, 0, none⟩) n n, .slice (some ⟨gd, 0, none⟩) n n] TGo (0, 0)) ∧
    RfS' w0 n ge gd st vs (((wr.setCell ⟨w0.heap.size, 0, none⟩ vs).setCell ⟨w0.heap.size, 1, none⟩ (.slice (some ⟨ge, 0, none⟩) n n)).setCell ⟨w0.heap.size, 2, none⟩ (.slice (some ⟨gd, 0, none⟩) n n)) := by
  have e1 := heap_setCell_same _ _ 0 _ _ vs h.res
  have e2 := heap_setCell_same _ _ 1 _ _ (.slice (some ⟨ge, 0, none⟩) n n) e1
  have e3 := heap_setCell_same _ _ 2 _ _ (.slice (some ⟨gd, 0, none⟩) n n) e2
  have k : KT [TGo] wr _ := ((KT.set (i := 0) (v := vs) h.res (by simp)).trans (KT.set (i := 1) (v := .slice (some ⟨ge, 0, none⟩) n n) e1 (by simp))).trans (KT.set (i := 2) (v := .slice (some ⟨gd, 0, none⟩) n n) e2 (by simp))
  have hs := h.bel.size
  have b1 := below_set (i := 0) (v := vs) h.bel (Nat.le_refl _) hs
  have b2 := below_set (i := 1) (v := .slice (some ⟨ge, 0, none⟩) n n) b1 (Nat.le_refl _) b1.size
  have b3 := below_set (i := 2) (v := .slice (some ⟨gd, 0, none⟩) n n) b2 (Nat.le_refl _) b2.size
  exact ⟨e3, k.row h.spn (by decide), k.row h.ens (by decide), b3⟩
theorem zero_own {B g n : Nat} {w : World} (h : w.heap[g]? = some (Obj.cells (madeCells (Value.cells (.int .i64 0)) n) T64 (0, 0))) (hB : B ≤ g) (hn : n ≤ 1000) : w.ownsRow B T64 1 (.slice (some ⟨g, 0, none⟩) n n) n (numL (List.replicate n 0)) := by
  refine ⟨by simp [numL], .inr ⟨g, n, _, rfl, hB, h, Nat.le_refl _, by unfold maxLen; omega, by rw [size_madeCells]; omega, ?_⟩⟩
  have e : Value.cells (.int .i64 0) = #[.int .i64 0] := rfl
  rw [e, toList_madeCells_one, Nat.mul_one, List.take_of_length_le (by simp)]
  simp [numL]
end
end Go.Proofs.YtngmaiiibinkaaaGreat
