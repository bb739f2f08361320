/- Texts about the program, one after the other: EUnt, ESame, EAwk, EPre, ERf, ERs. -/
import Derived.Test.YtkpackbbahodcaaGreatG12
import Derived.Test.YtkpackbbahodcaaGreatG7
import Derived.Test.YtkpackbbahodcaaGreatG11
import Derived.Test.YtkpackbbahodcaaGreatG10
import Derived.Laws.OwnMore
/- Until, Run: what the program tells. -/
namespace Go.Proofs.YtkpackbbahodcaaGreat
open Go.RowKit
set_option linter.unusedVariables false
set_option linter.unusedSimpArgs false
attribute [local go_sem ↓] Go.wp_at_zero Go.wp_at_succ
/-- Spans, and ends, up to a tick. -/
def untS (ts : List Ts) (js : List Fv) (T : Nat) : List Spn × List Int := if legS ts js then ((tst ts js T).sp, (tst ts js T).en) else ([], [])
def UntP (r : List Spn × List Int) (w : World) (e : Ending) (w' : World) : Prop := ∃ vs ve, e = .returned (.tuple #[vs, ve]) ∧ w'.ownsRow w.heap.size TSp 3 vs r.1.length (spC r.1) ∧ w'.ownsRow w.heap.size T64 1 ve r.2.length (numL r.2) ∧ Below w.heap.size w w'
theorem jh_of {ts : List Ts} {js : List Fv} (h : legS ts js = true) (hD : Dist ts) (ft : ts.length ≤ 1000) (fj : js.length ≤ 1000) : JH ts js := by
  obtain ⟨h1, h2, h3⟩ := legS_parts h
  have hv := vs_of h1
  have L := ljs_of hv js h3
  refine ⟨lg_of L, seq_of h1 L, hD, fun i hi => ⟨(jb_lj L hi).t0, (jb_lj L hi).t1⟩, fun i hi => ?_, by have := hv.n0; omega, ft, fj⟩
  have l := jb_lj L hi
  have := l.a1
  have := l.r1
  have := l.k1
  have := (hv.tk (jb js i).t).j1
  have := (hv.tk (jb js i).t).c1
  omega
set_option maxRecDepth 100000 in
set_option maxHeartbeats 8000000 in
theorem until_any {A R : Option Addr} {cap rc : Nat} {ts : List Ts} {js : List Fv} {en : Int} {T : Nat} (w : World) (hT : Row w A cap ts) (hR : FRow w R rc js) (hD : Dist ts) (ft : ts.length ≤ 1000) (fj : js.length ≤ 1000) (htot : (js.map (·.k)).sum ≤ 1000000000) (hen : en.toNat = T) (he : en ≤ 9223372036854775807) :
    Calls Tryz.prog 22 #[.slice A ts.length cap, .slice R js.length rc, .int .i64 en] w (UntP (untS ts js T) w) := by
  have LG := legal_any A R cap rc ts js w hT hR
  unfold untS
  cases hl : legS ts js with
  | false =>
    rw [hl] at LG
    have LG := Lib.hid LG
    clear hT hR hD htot hl
    go_enter Tryz.func22, Tryz.ntmps22
    go_wp2_with (go_at_call 30; (with_reducible refine LG.out.mono ?_); rintro e w1 ⟨rfl, hB1⟩)
    refine bodyPost_ret (results_tmp2 rfl _ _ _) rfl ?_
    exact ⟨_, _, rfl, World.ownsRow_nil _ _ _ _, World.ownsRow_nil _ _ _ _, hB1⟩
  | true =>
    rw [hl] at LG
    have LG := Lib.hid LG
    have H := jh_of hl hD ft fj
    have NW := Lib.hid (fun W (hB : Below w.heap.size w W) => newX_any W (hT.later hB) (hR.later hB) H)
    have HT := Lib.hid htot
    have HE := Lib.hid hen
    clear hT hR hD htot hl H hen
    go_enter Tryz.func22, Tryz.ntmps22
    go_upto_region 3 with (go_at_call 30; (with_reducible refine LG.out.mono ?_); rintro e w1 ⟨rfl, hB1⟩)
    have N1 := Lib.hid (NW.out _ hB1)
    go_upto_region 4 with (go_at_call 31; (with_reducible refine N1.out.mono ?_); rintro e w2 ⟨C, rfl, hC, rfl, rfl, rfl, hP0, hP⟩)
    have PL := Lib.hid (play_any hC (hP T) HE.out he HT.out)
    clear hP hP0 N1
    go_upto_region 5 with (go_at_call 32; (with_reducible refine PL.out.mono ?_); rintro e w3 ⟨rfl, M, lf, vc, vs, ve, rb, rv, hX, hs, hee⟩)
    have c5 := hX.c5
    have c6 := hX.c6
    have HX := Lib.hid hX
    have HS := Lib.hid hs
    have HEE := Lib.hid hee
    clear hX hs hee
    go_quiet (fail)
    go_wp2
    refine bodyPost_ret (results_tmp2 rfl _ _ _) rfl ?_
    have hw0 := hB1.size
    have hin := (hC.ti T).le
    refine ⟨_, _, rfl, ?_, ?_, ?_⟩
    · simp only [if_true]
      have := HX.out.spn
      rw [HS.out] at this
      exact own_mono this hw0
    · simp only [if_true]
      have := HX.out.ens
      rw [HEE.out] at this
      rw [show (tst C.ts C.js T).en.length = C.js.length from hin]
      exact own_mono this hw0
    · exact (hB1.trans (HX.out.bel.mono hw0)).trans ((below_drewN2 w3 _).mono (by have := HX.out.bel.size; omega))
set_option maxRecDepth 100000 in
set_option maxHeartbeats 8000000 in
theorem run_any {A R : Option Addr} {cap rc : Nat} {ts : List Ts} {js : List Fv} (w : World) (hT : Row w A cap ts) (hR : FRow w R rc js) (hD : Dist ts) (ft : ts.length ≤ 1000) (fj : js.length ≤ 1000) (htot : (js.map (·.k)).sum ≤ 1000000000) :
    Calls Tryz.prog 16 #[.slice A ts.length cap, .slice R js.length rc] w (UntP (untS ts js 9223372036854775807) w) := by
  have UN := Lib.hid (until_any (en := 9223372036854775807) (T := 9223372036854775807) w hT hR hD ft fj htot (by decide) (Int.le_refl _))
  clear hT hR hD htot
  go_enter Tryz.func16, Tryz.ntmps16
  go_wp2_with (go_at_call 22; (with_reducible refine UN.out.mono ?_); rintro e w1 ⟨vs, ve, rfl, h1, h2, h3⟩)
  refine bodyPost_ret (results_tmp2 rfl _ _ _) rfl ?_
  exact ⟨vs, ve, rfl, h1, h2, h3⟩
end Go.Proofs.YtkpackbbahodcaaGreat
/- Are rows of spans, of ticks, the same? -/
namespace Go.Proofs.YtkpackbbahodcaaGreat
open Go.RowKit
set_option linter.unusedVariables false
set_option linter.unusedSimpArgs false
attribute [local go_sem ↓] Go.wp_at_zero Go.wp_at_succ
/-- A slice that reads as spans. -/
structure SpR (w : World) (A : Option Addr) (cap : Nat) (l : List Spn) : Prop where
  le : l.length ≤ cap
  mx : cap ≤ 9223372036854775807
  at_ : ∀ i x, l[i]? = some x → ∃ b o, A = some ⟨b, o, none⟩ ∧ w.rangeAt b (o + i * 3) (snL x)
theorem SpR.later {w w' : World} {A : Option Addr} {cap : Nat} {l : List Spn} (h : SpR w A cap l) (hb : Below w.heap.size w w') : SpR w' A cap l := ⟨h.le, h.mx, fun i x hx => by
  obtain ⟨b, o, e, hr⟩ := h.at_ i x hx
  exact ⟨b, o, e, fun j v hv => cells_below hb _ _ _ (hr j v hv)⟩⟩
theorem SpR.get {w : World} {A : Option Addr} {cap : Nat} {l : List Spn} (h : SpR w A cap l) {k : Nat} (hk : k < l.length) : ∃ b o x, A = some ⟨b, o, none⟩ ∧ l[k]? = some x ∧ b < w.heap.size ∧
    w.cell? ⟨b, o + k * 3, none⟩ = some (.int .i64 (x.j : Int)) ∧ w.cell? ⟨b, o + k * 3 + 1, none⟩ = some (.int .i64 x.f) ∧ w.cell? ⟨b, o + k * 3 + 2, none⟩ = some (.int .i64 x.t) := by
  have hx : l[k]? = some l[k] := List.getElem?_eq_getElem hk
  obtain ⟨b, o, e, hr⟩ := h.at_ k _ hx
  have h0 := hr 0 _ rfl
  exact ⟨b, o, _, e, hx, World.block_lt_of_cell? w _ h0, h0, hr 1 _ rfl, hr 2 _ rfl⟩
theorem spC_get (l : List Spn) : ∀ (i : Nat) (x : Spn), l[i]? = some x → ∀ j v, (snL x)[j]? = some v → (spC l)[i * 3 + j]? = some v := by
  induction l with
  | nil => intro i x h; simp at h
  | cons a r ih =>
    intro i x h j v hv
    have hj : j < 3 := by
      rcases Nat.lt_or_ge j 3 with h | h
      · exact h
      · rw [List.getElem?_eq_none (by simp [snL]; omega)] at hv; cases hv
    have e : spC (a :: r) = snL a ++ spC r := rfl
    cases i with
    | zero =>
      simp at h; subst h
      rw [Nat.zero_mul, Nat.zero_add, e, List.getElem?_append_left (by simp [snL]; omega)]
      exact hv
    | succ i =>
      simp only [List.getElem?_cons_succ] at h
      have := ih i x h j v hv
      rw [e, List.getElem?_append_right (by simp [snL]; omega)]
      rw [show (i + 1) * 3 + j - (snL a).length = i * 3 + j by simp [snL]; omega]
      exact this
theorem spr_own {B : Nat} {w : World} {v : Value} {l : List Spn} (h : w.ownsRow B TSp 3 v l.length (spC l)) : ∃ A cap, v = .slice A l.length cap ∧ SpR w A cap l := by
  obtain ⟨A, cap, hv, hle, hmx⟩ := own_len h
  refine ⟨A, cap, hv, hle, by unfold maxLen at hmx; omega, fun i x hx => ?_⟩
  have hi := (List.getElem?_eq_some_iff.1 hx).1
  obtain ⟨g, cap', hv', hB, hgl, _, _, _⟩ := own_form h (by omega)
  rw [hv] at hv'
  simp only [Value.slice.injEq] at hv'
  obtain ⟨rfl, _, rfl⟩ := hv'
  refine ⟨g, 0, rfl, fun j u hu => ?_⟩
  rw [Nat.zero_add]
  exact own_cell h (g := g) (by rw [hv]; rfl) (spC_get l i x hx j u hu)
theorem SpR.nil {w : World} (A : Option Addr) (cap : Nat) (h : cap ≤ 9223372036854775807) : SpR w A cap [] := ⟨by simp, h, by simp⟩
set_option maxRecDepth 100000 in
set_option maxHeartbeats 4000000 in
/-- Equal rows of spans. -/
theorem sameS_any {A A' : Option Addr} {cap cap' n : Nat} {l : List Spn} (w : World) (h1 : SpR w A cap l) (h2 : SpR w A' cap' l) (hn : l.length = n) :
    Calls Tryz.prog 18 #[.slice A n cap, .slice A' n cap'] w fun e w' => e = .returned (.bool true) ∧ Below w.heap.size w w' := by
  have H1 := Lib.hid h1
  have H2 := Lib.hid h2
  have HN := Lib.hid hn
  have hmx := h1.mx
  have hle := h1.le
  rw [hn] at hle
  clear h1 h2 hn
  go_enter Tryz.func18, Tryz.ntmps18
  go_wp2
  go_loopw [5] (fun i wr => ∃ k : Nat, k ≤ n ∧ i = .int .i64 (k : Int) ∧ Hid (Below w.heap.size w wr)) (fun i _ => n - (intOf i).toNat)
  case atStart => exact ⟨0, Nat.zero_le _, rfl, Lib.hid (Below.refl _ _)⟩
  case round =>
    obtain ⟨k, hk, rfl, hB⟩ := hrel
    by_cases hlt : k < n
    · obtain ⟨b, o, x, rfl, hx, hbl, a0, a1, a2⟩ := (H1.out.later hB.out).get (k := k) (by rw [HN.out]; exact hlt)
      obtain ⟨b', o', x', rfl, hx', hbl', c0, c1, c2⟩ := (H2.out.later hB.out).get (k := k) (by rw [HN.out]; exact hlt)
      obtain rfl : x = x' := by rw [hx] at hx'; simpa using hx'
      have hi0 : (0 : Int) ≤ (k : Int) := by omega
      have hi1 : (k : Int) < (n : Int) := by omega
      clear hx hx'
      go_upto_region 6 with (fail)
      go_quiet (fail)
      go_wp2
      go_roundw
      case rel => exact ⟨k + 1, by omega, by go_num, Lib.hid (hB.out.trans ((below_drewN2 wr _).mono hB.out.size))⟩
      case measure => simp [intOf]; omega
    · obtain rfl : k = n := by omega
      go_wp2
      go_ret
      exact ⟨rfl, hB.out⟩
set_option maxRecDepth 100000 in
set_option maxHeartbeats 4000000 in
/-- Equal rows of ticks. -/
theorem sameT_any {A A' : Option Addr} {cap cap' n : Nat} {l : List Int} (w : World) (h1 : CRow w A cap l) (h2 : CRow w A' cap' l) (hn : l.length = n) :
    Calls Tryz.prog 19 #[.slice A n cap, .slice A' n cap'] w fun e w' => e = .returned (.bool true) ∧ Below w.heap.size w w' := by
  have H1 := Lib.hid h1
  have H2 := Lib.hid h2
  have HN := Lib.hid hn
  have hmx := h1.mx
  have hle := h1.le
  rw [hn] at hle
  clear h1 h2 hn
  go_enter Tryz.func19, Tryz.ntmps19
  go_wp2
  go_loopw [5] (fun i wr => ∃ k : Nat, k ≤ n ∧ i = .int .i64 (k : Int) ∧ Hid (Below w.heap.size w wr)) (fun i _ => n - (intOf i).toNat)
  case atStart => exact ⟨0, Nat.zero_le _, rfl, Lib.hid (Below.refl _ _)⟩
  case round =>
    obtain ⟨k, hk, rfl, hB⟩ := hrel
    by_cases hlt : k < n
    · obtain ⟨b, o, x, rfl, hx, hw, hbl, a0⟩ := (H1.out.later hB.out).get (k := k) (by rw [HN.out]; exact hlt)
      obtain ⟨b', o', x', rfl, hx', hw', hbl', c0⟩ := (H2.out.later hB.out).get (k := k) (by rw [HN.out]; exact hlt)
      obtain rfl : x = x' := by rw [hx] at hx'; simpa using hx'
      have hi0 : (0 : Int) ≤ (k : Int) := by omega
      have hi1 : (k : Int) < (n : Int) := by omega
      clear hx hx'
      go_upto_region 6 with (fail)
      go_quiet (fail)
      go_wp2
      go_roundw
      case rel => exact ⟨k + 1, by omega, by go_num, Lib.hid (hB.out.trans ((below_drewN2 wr _).mono hB.out.size))⟩
      case measure => simp [intOf]; omega
    · obtain rfl : k = n := by omega
      go_wp2
      go_ret
      exact ⟨rfl, hB.out⟩
end Go.Proofs.YtkpackbbahodcaaGreat
/- The chapter's example, run. -/
namespace Go.Proofs.YtkpackbbahodcaaGreat
open Go.RowKit
set_option linter.unusedVariables false
set_option linter.unusedSimpArgs false
attribute [local go_sem ↓] Go.wp_at_zero Go.wp_at_succ
theorem two_rows (W : World) (x y : Ts) (hx : TsW x) (hy : TsW y) : Row (W.alloc (.cells #[.string x.n, .int .i64 x.c, .int .i64 x.t, .int .i64 x.d, .int .i64 x.j, .int .i64 x.q, .int .i64 x.p, .string y.n, .int .i64 y.c, .int .i64 y.t, .int .i64 y.d, .int .i64 y.j, .int .i64 y.q, .int .i64 y.p] 48)) (some ⟨W.heap.size, 0, none⟩) 2 [x, y] := by
  refine ⟨by simp, by omega, fun z hz => ?_, fun i z hz => ⟨_, 0, rfl, ⟨fun j v hv => ?_⟩⟩⟩
  · simp at hz
    rcases hz with rfl | rfl
    · exact hx
    · exact hy
  · have hi := (List.getElem?_eq_some_iff.1 hz).1
    simp at hi
    have hj := (List.getElem?_eq_some_iff.1 hv).1
    have hj : j < 7 := hj
    rw [cell_of_row _ _ _ _ _ _ (heap_alloc_new W _)]
    rcases (by omega : i = 0 ∨ i = 1) with rfl | rfl
    · obtain rfl : x = z := by simpa using hz
      rcases (by omega : j = 0 ∨ j = 1 ∨ j = 2 ∨ j = 3 ∨ j = 4 ∨ j = 5 ∨ j = 6) with rfl | rfl | rfl | rfl | rfl | rfl | rfl <;> simpa [tsL] using hv
    · obtain rfl : y = z := by simpa using hz
      rcases (by omega : j = 0 ∨ j = 1 ∨ j = 2 ∨ j = 3 ∨ j = 4 ∨ j = 5 ∨ j = 6) with rfl | rfl | rfl | rfl | rfl | rfl | rfl <;> simpa [tsL] using hv
theorem two_jobs (W : World) (x y : Fv) (A B : Option Addr) (c d : Nat) (hx : FvW x) (hy : FvW y) (hA : CRow W A c x.c) (hB : CRow W B d y.c) :
    FRow (W.alloc (.cells #[.int .i64 x.t, .int .i64 x.a, .int .i64 x.r, .int .i64 x.k, .slice A x.c.length c, .int .i64 y.t, .int .i64 y.a, .int .i64 y.r, .int .i64 y.k, .slice B y.c.length d] 46)) (some ⟨W.heap.size, 0, none⟩) 2 [x, y] := by
  have b0 : Below W.heap.size W (W.alloc (.cells #[.int .i64 x.t, .int .i64 x.a, .int .i64 x.r, .int .i64 x.k, .slice A x.c.length c, .int .i64 y.t, .int .i64 y.a, .int .i64 y.r, .int .i64 y.k, .slice B y.c.length d] 46)) := (Below.refl _ _).alloc (Nat.le_refl _) _
  refine ⟨by simp, by omega, fun i z hz => ?_⟩
  have hi := (List.getElem?_eq_some_iff.1 hz).1
  simp at hi
  rcases (by omega : i = 0 ∨ i = 1) with rfl | rfl
  · obtain rfl : x = z := by simpa using hz
    refine ⟨_, 0, A, c, rfl, ⟨fun j v hv => ?_, hx, hA.later b0⟩⟩
    have hj := (List.getElem?_eq_some_iff.1 hv).1
    have hj : j < 5 := hj
    rw [cell_of_row _ _ _ _ _ _ (heap_alloc_new W _)]
    rcases (by omega : j = 0 ∨ j = 1 ∨ j = 2 ∨ j = 3 ∨ j = 4) with rfl | rfl | rfl | rfl | rfl <;> simpa [fvL] using hv
  · obtain rfl : y = z := by simpa using hz
    refine ⟨_, 0, B, d, rfl, ⟨fun j v hv => ?_, hy, hB.later b0⟩⟩
    have hj := (List.getElem?_eq_some_iff.1 hv).1
    have hj : j < 5 := hj
    rw [cell_of_row _ _ _ _ _ _ (heap_alloc_new W _)]
    rcases (by omega : j = 0 ∨ j = 1 ∨ j = 2 ∨ j = 3 ∨ j = 4) with rfl | rfl | rfl | rfl | rfl <;> simpa [fvL] using hv
def exSp : List Spn := [⟨0, 0, 2⟩, ⟨1, 2, 3⟩, ⟨0, 3, 4⟩]
theorem three_spans (W : World) : SpR (W.alloc (.cells #[.int .i64 0, .int .i64 0, .int .i64 2, .int .i64 1, .int .i64 2, .int .i64 3, .int .i64 0, .int .i64 3, .int .i64 4] TSp)) (some ⟨W.heap.size, 0, none⟩) 3 exSp := by
  refine ⟨by decide, by omega, fun i x hx => ⟨_, 0, rfl, fun j v hv => ?_⟩⟩
  have hi := (List.getElem?_eq_some_iff.1 hx).1
  have hi : i < 3 := hi
  have hj := (List.getElem?_eq_some_iff.1 hv).1
  have hj : j < 3 := hj
  rw [cell_of_row _ _ _ _ _ _ (heap_alloc_new W _)]
  rcases (by omega : i = 0 ∨ i = 1 ∨ i = 2) with rfl | rfl | rfl <;> simp [exSp] at hx <;> subst hx <;>
    rcases (by omega : j = 0 ∨ j = 1 ∨ j = 2) with rfl | rfl | rfl <;> simpa [snL] using hv
set_option maxRecDepth 100000 in
set_option maxHeartbeats 4000000 in
theorem awake_any (w : World) : Calls Tryz.prog 12 #[] w fun e w' => e = .returned (.bool true) ∧ Below w.heap.size w w' := by
  obtain ⟨N, hN⟩ : ∃ N, w.heap.size = N := ⟨_, rfl⟩
  obtain ⟨W1, hW1⟩ : ∃ W1, w.alloc (.cells #[.string { data := #[97] }, .int .i64 1, .int .i64 9, .int .i64 9, .int .i64 0, .int .i64 1, .int .i64 1, .string { data := #[98] }, .int .i64 3, .int .i64 9, .int .i64 9, .int .i64 0, .int .i64 2, .int .i64 2] 48) = W1 := ⟨_, rfl⟩
  have R1 : Row W1 (some ⟨N, 0, none⟩) 2 [exA, exB] := by
    rw [← hW1, ← hN]
    exact two_rows w exA exB ⟨by decide, by unfold in64; decide, by unfold in64; decide, by unfold in64; decide, by unfold in64; decide, by unfold in64; decide, by unfold in64; decide⟩ ⟨by decide, by unfold in64; decide, by unfold in64; decide, by unfold in64; decide, by unfold in64; decide, by unfold in64; decide, by unfold in64; decide⟩
  have s1 : W1.heap.size = N + 1 := by rw [← hW1, ← hN]; simp
  have B1 : Below N w W1 := by rw [← hW1, ← hN]; exact (Below.refl _ _).alloc (Nat.le_refl _) _
  obtain ⟨W2, hW2⟩ : ∃ W2, W1.alloc (.cells #[.int .i64 2] 2) = W2 := ⟨_, rfl⟩
  have B2 : Below W1.heap.size W1 W2 := by rw [← hW2]; exact (Below.refl _ _).alloc (Nat.le_refl _) _
  have s2 : W2.heap.size = N + 1 + 1 := by rw [← hW2]; simp [s1]
  have C2 : CRow W2 (some ⟨N + 1, 0, none⟩) 1 exJ.c := by
    refine ⟨by decide, by omega, fun x hx => by simp [exJ] at hx; subst hx; unfold in64; omega, fun i x hx => ⟨_, 0, rfl, ?_⟩⟩
    have hc := cell_of_row W2 (N + 1) (0 + i) _ _ _ (by have := heap_alloc_new W1 (.cells #[.int .i64 2] 2); rw [hW2, s1] at this; exact this)
    rw [hc]
    have hi := (List.getElem?_eq_some_iff.1 hx).1
    have hi : i < 1 := hi
    obtain rfl : i = 0 := by omega
    obtain rfl : (2 : Int) = x := by simpa [exJ] using hx
    rfl
  obtain ⟨W3, hW3⟩ : ∃ W3, W2.alloc (.cells #[.int .i64 1, .int .i64 0, .int .i64 0, .int .i64 3, .slice (some ⟨N + 1, 0, none⟩) 1 1, .int .i64 0, .int .i64 1, .int .i64 1, .int .i64 1, .slice none 0 0] 46) = W3 := ⟨_, rfl⟩
  have B3 : Below W2.heap.size W2 W3 := by rw [← hW3]; exact (Below.refl _ _).alloc (Nat.le_refl _) _
  have R3 : FRow W3 (some ⟨N + 1 + 1, 0, none⟩) 2 [exJ, exI] := by
    have := two_jobs W2 exJ exI (some ⟨N + 1, 0, none⟩) none 1 0 ⟨by unfold in64; decide, by unfold in64; decide, by unfold in64; decide, by unfold in64; decide⟩ ⟨by unfold in64; decide, by unfold in64; decide, by unfold in64; decide, by unfold in64; decide⟩ C2 (CRow.nil none 0 (by omega))
    rw [s2] at this
    rw [← hW3]
    exact this
  have B13 : Below W1.heap.size W1 W3 := B2.trans (B3.mono B2.size)
  have KD : Calls Tryz.prog 16 #[.slice (some ⟨N, 0, none⟩) 2 2, .slice (some ⟨N + 1 + 1, 0, none⟩) 2 2] W3 (UntP (exSp, [4, 3]) W3) := by
    have := run_any (ts := [exA, exB]) (js := [exJ, exI]) W3 (R1.later B13) R3 (fun i j x y hx hy he => by
      have hi := (List.getElem?_eq_some_iff.1 hx).1
      have hj := (List.getElem?_eq_some_iff.1 hy).1
      simp at hi hj
      rcases (by omega : i = 0 ∨ i = 1) with rfl | rfl <;> rcases (by omega : j = 0 ∨ j = 1) with rfl | rfl <;> simp at hx hy <;> subst hx <;> subst hy <;> simp [exA, exB] at he ⊢) (by simp) (by simp) (by decide)
    have e : untS [exA, exB] [exJ, exI] 9223372036854775807 = (exSp, [4, 3]) := by
      rw [untS, if_pos ex_leg]; exact ex_runs
    rw [e] at this
    exact this
  have KD := Lib.hid KD
  have HW1 := Lib.hid hW1
  have HW2 := Lib.hid hW2
  have HW3 := Lib.hid hW3
  have HB := Lib.hid (B1.trans (B13.mono (by omega)))
  have HS1 := Lib.hid s1
  have HS2 := Lib.hid s2
  clear hW1 hW2 hW3 R1 B1 B2 C2 B3 R3 B13 s1 s2
  go_enter Tryz.func12, Tryz.ntmps12
  go_upto_region 2 with (fail)
  rw [HW1.out]
  have s1 := HS1.out
  go_upto_region 3 with (go_at_call 16; rw [HW2.out, HW3.out]; (with_reducible refine KD.out.mono ?_); rintro e w4 ⟨vs, ve, rfl, hs, he, h4⟩)
  obtain ⟨As, cs, hvs, hS⟩ := spr_own hs
  obtain ⟨gb, gcap, rfl, hge, hgb, hgc, -, -⟩ := own_form he (by decide)
  have hvs : vs = Value.slice As 3 cs := hvs
  subst hvs
  obtain ⟨W5, hW5⟩ : ∃ W5, w4.alloc (.cells #[.int .i64 0, .int .i64 0, .int .i64 2, .int .i64 1, .int .i64 2, .int .i64 3, .int .i64 0, .int .i64 3, .int .i64 4] TSp) = W5 := ⟨_, rfl⟩
  have b5 : Below w4.heap.size w4 W5 := by rw [← hW5]; exact (Below.refl _ _).alloc (Nat.le_refl _) _
  have h5 := three_spans w4
  rw [hW5] at h5
  have KS := Lib.hid (sameS_any (n := 3) W5 (hS.later b5) h5 rfl)
  have c0 := own_cell he (g := gb) rfl (i := 0) rfl
  have c1 := own_cell he (g := gb) rfl (i := 1) rfl
  have c0 := cells_below b5 _ _ _ c0
  have c1 := cells_below b5 _ _ _ c1
  have HW5 := Lib.hid hW5
  have HB5 := Lib.hid ((HB.out.trans (h4.mono (by have := HB.out.size; omega))).trans (b5.mono (by have := HB.out.size; have := h4.size; omega)))
  have HGB : Hid (gb < w4.heap.size) := Lib.hid hgb
  have HB4 := Lib.hid b5
  clear hs hS he h4 hW5 b5 h5 hgb hge hgc
  go_upto_region 4 with (go_at_call 18; rw [HW5.out]; (with_reducible refine KS.out.mono ?_); rintro e w6 ⟨rfl, h6⟩)
  have c0 := cells_below h6 _ _ _ c0
  have c1 := cells_below h6 _ _ _ c1
  have HB6 := Lib.hid (HB5.out.trans (h6.mono (by have := HB5.out.size; omega)))
  clear h6
  go_wp2
  go_ret
  exact ⟨rfl, by rw [hN]; exact HB6.out⟩
end Go.Proofs.YtkpackbbahodcaaGreat
/- What the laws call. -/
namespace Go.Proofs.YtkpackbbahodcaaGreat
open Go.RowKit
set_option linter.unusedVariables false
set_option linter.unusedSimpArgs false
/-- A row of raw jobs. -/
def FewJ (fs : List Fv) (w : World) (e : Ending) (w' : World) : Prop := ∃ A cap, e = .returned (.slice A fs.length cap) ∧ FRow w' A cap fs ∧ Below w.heap.size w w'
/-- Own jobs. -/
def DecJ (js : List Fv) (w : World) (e : Ending) (w' : World) : Prop := ∃ A cap gs, e = .returned (.slice A js.length cap) ∧ FRow w' A cap js ∧ FOwn 46 w.heap.size w' (.slice A js.length cap) gs ∧ gs.map (·.x) = js ∧ Below w.heap.size w w'
theorem fewT_row (R : Option Addr) (rc : Nat) (rs : List Fv) (w : World) (hR : FRow w R rc rs) : Calls Tryz.prog 15 #[.slice R rs.length rc, .int .i64 10] w (FewJ (fewTS rs) w) :=
  (fewT_any R rc rs w hR).mono fun e w' h => by
    obtain ⟨v, gs, rfl, hG, hg, hb⟩ := h
    obtain ⟨A, c, rfl, F⟩ := hG.frow
    rw [hg] at F
    exact ⟨A, c, by rw [← hg, List.length_map], F, hb⟩
theorem fewE_row (R : Option Addr) (rc : Nat) (rs : List Fv) (w : World) (hR : FRow w R rc rs) : Calls Tryz.prog 15 #[.slice R rs.length rc, .int .i64 8] w (FewJ (fewES rs) w) :=
  (fewE_any R rc rs w hR).mono fun e w' h => by
    obtain ⟨v, gs, rfl, hG, hg, hb⟩ := h
    obtain ⟨A, c, rfl, F⟩ := hG.frow
    rw [hg] at F
    exact ⟨A, c, by rw [← hg, List.length_map], F, hb⟩
theorem fewT_bd (rs : List Fv) : (fewTS rs).length ≤ 10 ∧ ∀ r ∈ fewTS rs, 0 ≤ r.a ∧ r.a < 12 := by
  refine ⟨by rw [fewTS, List.length_map, List.length_take]; omega, fun r hr => ?_⟩
  obtain ⟨y, _, rfl⟩ := List.mem_map.1 hr
  exact emod_bd y.a 12 (by omega)
theorem fewE_bd (rs : List Fv) : (fewES rs).length ≤ 8 ∧ ∀ r ∈ fewES rs, 0 ≤ r.a ∧ r.a < 12 := by
  refine ⟨by rw [fewES, List.length_map, List.length_take]; omega, fun r hr => ?_⟩
  obtain ⟨y, _, rfl⟩ := List.mem_map.1 hr
  exact emod_bd y.a 12 (by omega)
theorem dec_row (A R : Option Addr) (cap rc : Nat) (ts : List Ts) (rs : List Fv) (w : World) (hT : Row w A cap ts) (hR : FRow w R rc rs) (h0 : (chkAll ts).2 = 0) :
    Calls Tryz.prog 14 #[.slice A ts.length cap, .slice R rs.length rc] w (DecJ (decS ts rs) w) :=
  (rdecode_good A R cap rc ts rs w hT hR h0).mono fun e w' h => by
    obtain ⟨v, gs, rfl, hG, hg, hb⟩ := h
    obtain ⟨B, c, rfl, F⟩ := hG.frow
    rw [hg] at F
    have hl : gs.length = (decS ts rs).length := by rw [← hg, List.length_map]
    exact ⟨B, c, gs, by rw [hl], F, by rw [← hl]; exact hG, hg, hb⟩
/-- Spans, and ends. -/
def RunJ (sp : List Spn) (en : List Int) (w : World) (e : Ending) (w' : World) : Prop := ∃ A c B d, e = .returned (.tuple #[.slice A sp.length c, .slice B en.length d]) ∧ SpR w' A c sp ∧ CRow w' B d en ∧ Below w.heap.size w w'
theorem untp_run {sp : List Spn} {en : List Int} {w : World} (he : ∀ x ∈ en, in64 x) (e : Ending) (w' : World) (h : UntP (sp, en) w e w') : RunJ sp en w e w' := by
  obtain ⟨vs, ve, rfl, h1, h2, h3⟩ := h
  obtain ⟨A, c, rfl, F⟩ := spr_own h1
  obtain ⟨B, d, rfl, hn, G, _⟩ := crow_own h2 he
  exact ⟨A, c, B, d, rfl, F, G, h3⟩
theorem en_bd {ts : List Ts} {js : List Fv} (hl : Lg js) {n : Nat} (hn : n ≤ 9223372036854775807) : ∀ x ∈ (tst ts js n).en, in64 x := by
  have hI := ti_all (ts := ts) hl n
  intro x hx
  obtain ⟨i, hi, rfl⟩ := List.getElem_of_mem hx
  have e : kO (tst ts js n).en i = (tst ts js n).en[i] := by simp [kO, hi]
  have := hI.en i (by rw [← hI.le]; exact hi)
  unfold in64
  omega
theorem tst_none (ts : List Ts) : ∀ n : Nat, tst ts [] n = ⟨[], none, [], []⟩
  | 0 => rfl
  | n + 1 => by rw [tst_succ, tst_none ts n]; rfl
/-- Any legal jobs, run. -/
theorem run_leg {A R : Option Addr} {cap rc : Nat} {ts : List Ts} {js : List Fv} (w : World) (hT : Row w A cap ts) (hR : FRow w R rc js) (hD : Dist ts) (ft : ts.length ≤ 1000) (fj : js.length ≤ 1000) (htot : (js.map (·.k)).sum ≤ 1000000000) (hl : legS ts js = true) :
    Calls Tryz.prog 16 #[.slice A ts.length cap, .slice R js.length rc] w (RunJ (tst ts js 9223372036854775807).sp (tst ts js 9223372036854775807).en w) := by
  have h := run_any w hT hR hD ft fj htot
  rw [untS, if_pos hl] at h
  obtain ⟨h1, h2, h3⟩ := legS_parts hl
  exact h.mono (untp_run (en_bd (lg_of (ljs_of (vs_of h1) js h3)) (Nat.le_refl _)))
/-- What isn't legal. -/
theorem run_not {A R : Option Addr} {cap rc : Nat} {ts : List Ts} {js : List Fv} (w : World) (hT : Row w A cap ts) (hR : FRow w R rc js) (hD : Dist ts) (ft : ts.length ≤ 1000) (fj : js.length ≤ 1000) (htot : (js.map (·.k)).sum ≤ 1000000000) (hl : legS ts js = false) :
    Calls Tryz.prog 16 #[.slice A ts.length cap, .slice R js.length rc] w (RunJ [] [] w) := by
  have h := run_any w hT hR hD ft fj htot
  rw [untS, hl] at h
  exact h.mono (untp_run (by simp))
theorem until_leg {A R : Option Addr} {cap rc : Nat} {ts : List Ts} {js : List Fv} {en : Int} {T : Nat} (w : World) (hT : Row w A cap ts) (hR : FRow w R rc js) (hD : Dist ts) (ft : ts.length ≤ 1000) (fj : js.length ≤ 1000) (htot : (js.map (·.k)).sum ≤ 1000000000) (hl : legS ts js = true) (hen : en.toNat = T) (he : en ≤ 9223372036854775807) :
    Calls Tryz.prog 22 #[.slice A ts.length cap, .slice R js.length rc, .int .i64 en] w (RunJ (tst ts js T).sp (tst ts js T).en w) := by
  have h := until_any w hT hR hD ft fj htot hen he
  rw [untS, if_pos hl] at h
  obtain ⟨h1, h2, h3⟩ := legS_parts hl
  exact h.mono (untp_run (en_bd (lg_of (ljs_of (vs_of h1) js h3)) (by omega)))
theorem until_not {A R : Option Addr} {cap rc : Nat} {ts : List Ts} {js : List Fv} {en : Int} (w : World) (hT : Row w A cap ts) (hR : FRow w R rc js) (hD : Dist ts) (ft : ts.length ≤ 1000) (fj : js.length ≤ 1000) (htot : (js.map (·.k)).sum ≤ 1000000000) (hl : legS ts js = false) (he : en ≤ 9223372036854775807) :
    Calls Tryz.prog 22 #[.slice A ts.length cap, .slice R js.length rc, .int .i64 en] w (RunJ [] [] w) := by
  have h := until_any (T := en.toNat) w hT hR hD ft fj htot rfl he
  rw [untS, hl] at h
  exact h.mono (untp_run (by simp))
section
variable {ss : List Ts} {js : List Fv} {M n : Nat} {A R : Option Addr} {cap rc : Nat}
theorem run_sm (h : Sm ss js M n) (hn : n ≤ 10) (w : World) (hT : Row w A cap ss) (hR : FRow w R rc js) : Calls Tryz.prog 16 #[.slice A ss.length cap, .slice R js.length rc] w (RunJ (tst ss js 9223372036854775807).sp (tst ss js 9223372036854775807).en w) :=
  run_leg w hT hR h.di (by have := h.sM; have := h.M8; omega) (by have := h.le; omega) (by have := h.tot hn; omega) h.lg
theorem until_sm (h : Sm ss js M n) (hn : n ≤ 10) (en : Int) (he : en ≤ 9223372036854775807) (w : World) (hT : Row w A cap ss) (hR : FRow w R rc js) : Calls Tryz.prog 22 #[.slice A ss.length cap, .slice R js.length rc, .int .i64 en] w (RunJ (tst ss js en.toNat).sp (tst ss js en.toNat).en w) :=
  until_leg w hT hR h.di (by have := h.sM; have := h.M8; omega) (by have := h.le; omega) (by have := h.tot hn; omega) h.lg rfl he
end
end Go.Proofs.YtkpackbbahodcaaGreat
/- The document's within, pick. -/
namespace Go.Proofs.YtkpackbbahodcaaGreat
open Go.RowKit
set_option linter.unusedVariables false
set_option linter.unusedSimpArgs false
attribute [local go_sem ↓] Go.wp_at_zero Go.wp_at_succ
theorem sum_take (c : List Int) (h : Pos1 c) (k : Nat) : 0 ≤ (c.take k).sum ∧ (c.take k).sum ≤ c.sum := by
  have h1 : Pos1 (c.take k) := fun x hx => h x (List.mem_of_mem_take hx)
  have h2 : Pos1 (c.drop k) := fun x hx => h x (List.mem_of_mem_drop hx)
  have := congrArg List.sum (List.take_append_drop k c)
  rw [List.sum_append] at this
  have := h1.sum
  have := h2.sum
  omega
theorem wthS_step {c : List Int} {k : Nat} {a d : Int} (hk : c[k]? = some a) : wthS (c.drop k) (d - (c.take k).sum) = ((decide (d > (c.take k).sum) && decide (d < (c.take k).sum + a)) || wthS (c.drop (k + 1)) (d - (c.take (k + 1)).sum)) := by
  have hlt := (List.getElem?_eq_some_iff.1 hk).1
  have e : c.drop k = a :: c.drop (k + 1) := by
    rw [List.drop_eq_getElem_cons hlt]
    congr 1
    have := List.getElem?_eq_getElem hlt
    rw [hk] at this
    simpa using this.symm
  rw [e, wthS, take_one hk, List.sum_append]
  congr 1
  · congr 1
    · exact decide_eq_decide.2 (by omega)
    · exact decide_eq_decide.2 (by omega)
  · congr 1
    simp; omega
set_option maxRecDepth 100000 in
set_option maxHeartbeats 8000000 in
theorem rwithin_any (x : Fv) (Cc : Option Addr) (cc : Nat) (d : Int) (w : World) (hc : CRow w Cc cc x.c) (hp : Pos1 x.c) (hs : x.c.sum ≤ 2147483647) (hd : 0 ≤ d ∧ d ≤ 2147483647) :
    Calls Tryz.prog 34 #[fvV x Cc cc, .int .i64 d] w fun e w' => e = .returned (.bool (wthS x.c d)) ∧ Below w.heap.size w w' := by
  obtain ⟨xt, xa, xr, xk, c⟩ := x
  simp only at hc hp hs
  show Calls Tryz.prog 34 #[.agg #[.int .i64 xt, .int .i64 xa, .int .i64 xr, .int .i64 xk, .slice Cc c.length cc], .int .i64 d] w fun e w' => e = .returned (.bool (wthS c d)) ∧ Below w.heap.size w w'
  have b0 : Below w.heap.size w (w.alloc (.cells #[.int .i64 xt, .int .i64 xa, .int .i64 xr, .int .i64 xk, .slice Cc c.length cc] 46)) := (Below.refl _ _).alloc (Nat.le_refl _) _
  have c4 := cell_of_row (w.alloc (.cells #[.int .i64 xt, .int .i64 xa, .int .i64 xr, .int .i64 xk, .slice Cc c.length cc] 46)) w.heap.size 4 _ _ _ (heap_alloc_new w _)
  simp only [List.getElem?_toArray, List.getElem?_cons_zero, List.getElem?_cons_succ] at c4
  have hR := hc.later b0
  have hle := hc.le
  have hmx := hc.mx
  obtain ⟨n, hn⟩ : ∃ n, c.length = n := ⟨_, rfl⟩
  obtain ⟨W1, hW1⟩ : ∃ W1, w.alloc (.cells #[.int .i64 xt, .int .i64 xa, .int .i64 xr, .int .i64 xk, .slice Cc c.length cc] 46) = W1 := ⟨_, rfl⟩
  rw [hW1] at b0 c4 hR
  rw [hn] at hW1 c4 hle ⊢
  obtain ⟨bj, hbj⟩ : ∃ bj, w.heap.size = bj := ⟨_, rfl⟩
  rw [hbj] at c4
  have HR := Lib.hid hR
  have HN := Lib.hid hn
  have HP := Lib.hid hp
  have HB0 := Lib.hid b0
  have hst := fun k => sum_take c hp k
  have HST := Lib.hid hst
  have HW := Lib.hid (show wthS (c.drop 0) (d - (c.take 0).sum) = wthS c d by simp)
  clear hc hR hn hp hst b0
  go_enter Tryz.func34, Tryz.ntmps34
  go_upto_region 1 with (fail)
  try rw [hW1]
  try rw [hbj]
  clear hW1 hbj
  go_wp2
  go_loopw [5, 6] (fun a i wr => wr = W1 ∧ ∃ k : Nat, k ≤ n ∧ i = .int .i64 (k : Int) ∧ a = .int .i64 (c.take k).sum ∧ Hid (wthS (c.drop k) (d - (c.take k).sum) = wthS c d)) (fun _ i _ => n - (intOf i).toNat)
  case atStart => exact ⟨rfl, 0, Nat.zero_le _, rfl, by simp, HW⟩
  case round =>
    obtain ⟨hwr, k, hk, rfl, rfl, hI⟩ := hrel
    obtain rfl : W1 = wr := hwr.symm
    clear HW
    by_cases hlt : k < n
    · obtain ⟨b, o, a, rfl, hx, hwf, hbl, hcl⟩ := HR.out.get (k := k) (by rw [HN.out]; exact hlt)
      have hstep := wthS_step (d := d) hx
      rw [hI.out] at hstep
      have t1 := (HST.out k)
      have t2 := (HST.out (k + 1))
      have ht : (c.take (k + 1)).sum = (c.take k).sum + a := by rw [take_one hx, List.sum_append]; simp
      have ha := HP.out a (List.mem_of_getElem? hx)
      have HT := Lib.hid ht
      have HS := Lib.hid hstep
      rw [ht] at t2
      have hi0 : (0 : Int) ≤ (k : Int) := by omega
      have hi1 : (k : Int) < (n : Int) := by omega
      generalize (c.take k).sum = s at *
      clear ht hstep hx
      obtain ⟨g, hg⟩ : ∃ g, (decide (d > s) && decide (d < s + a)) = g := ⟨_, rfl⟩
      have HG := Lib.hid hg
      cases g with
      | true =>
        obtain ⟨g1, g2⟩ : d > s ∧ d < s + a := by simpa using hg
        have e1 : decide (d > s) = true := decide_eq_true g1
        have e1' : decide (s < d) = true := decide_eq_true g1
        have e2 : decide (d < s + a) = true := decide_eq_true g2
        clear hg
        go_wp2
        go_ret
        refine ⟨?_, HB0.out⟩
        rw [HS.out, HG.out]; rfl
      | false =>
        have HNX : Hid (wthS (c.drop (k + 1)) (d - (c.take (k + 1)).sum) = wthS c d) := Lib.hid (by rw [HS.out, HG.out]; rfl)
        by_cases g1 : d > s
        · have g2 : ¬ (d < s + a) := fun h => by rw [decide_eq_true g1, decide_eq_true h] at hg; cases hg
          have e1 : decide (d > s) = true := decide_eq_true g1
          have e1' : decide (s < d) = true := decide_eq_true g1
          have e2 : decide (d < s + a) = false := decide_eq_false g2
          clear hg
          go_wp2
          go_roundw
          case rel => exact ⟨trivial, k + 1, by omega, by go_num, by rw [HT.out], HNX⟩
          case measure => simp [intOf]; omega
        · have e1 : decide (d > s) = false := decide_eq_false g1
          have e1' : decide (s < d) = false := decide_eq_false g1
          clear hg
          go_wp2
          go_roundw
          case rel => exact ⟨trivial, k + 1, by omega, by go_num, by rw [HT.out], HNX⟩
          case measure => simp [intOf]; omega
    · obtain rfl : k = n := by omega
      go_wp2
      go_ret
      refine ⟨?_, HB0.out⟩
      have := hI.out
      rw [List.drop_of_length_le (by rw [HN.out]; exact Nat.le_refl _)] at this
      rw [← this]; rfl
def pkI : Option Nat → Int | none => -1 | some b => (b : Int)
set_option maxRecDepth 100000 in
set_option maxHeartbeats 16000000 in
theorem rpick_any {A R D : Option Addr} {cap rc dc : Nat} {ts : List Ts} {js : List Fv} {dn : List Int} (t : Int) (w : World) (hT : Row w A cap ts) (hR : FRow w R rc js) (hD : CRow w D dc dn) (hl : dn.length = js.length) (ht : ∀ i, i < js.length → 0 ≤ (jb js i).t ∧ (jb js i).t < ts.length) (hn : js.length ≤ 1000) (hm : ts.length ≤ 1000) :
    Calls Tryz.prog 35 #[.slice A ts.length cap, .slice R js.length rc, .slice D js.length dc, .int .i64 t] w fun e w' => e = .returned (.int .i64 (pkI (pkN ts js dn t js.length))) ∧ Below w.heap.size w w' := by
  have HT := Lib.hid hT
  have HR := Lib.hid hR
  have HD := Lib.hid hD
  have HTT := Lib.hid ht
  have HL := Lib.hid hl
  have HB := Lib.hid (fun k => (pkN_spec (ts := ts) (js := js) (dn := dn) (t := t) k).2)
  have r1 := hR.le
  have r2 := hR.mx
  have d1 := hD.le
  have d2 := hD.mx
  have e1 := hT.le
  have e2 := hT.mx
  rw [hl] at d1
  obtain ⟨n, hn0⟩ : ∃ n, js.length = n := ⟨_, rfl⟩
  obtain ⟨m, hm0⟩ : ∃ m, ts.length = m := ⟨_, rfl⟩
  have HN := Lib.hid hn0
  have HM := Lib.hid hm0
  rw [hn0] at hn r1 d1 ⊢
  rw [hm0] at hm e1 ⊢
  clear hT hR hD ht hl hn0 hm0
  go_enter Tryz.func35, Tryz.ntmps35
  go_wp2
  go_loopw [9, 10] (fun b i wr => ∃ k : Nat, k ≤ n ∧ i = .int .i64 (k : Int) ∧ b = .int .i64 (pkI (pkN ts js dn t k)) ∧ Hid (Below w.heap.size w wr)) (fun _ i _ => n - (intOf i).toNat)
  case atStart => exact ⟨0, Nat.zero_le _, rfl, rfl, Lib.hid (Below.refl _ _)⟩
  case round =>
    obtain ⟨k, hk, rfl, rfl, hB⟩ := hrel
    by_cases hlt : k < n
    · have hkj : k < js.length := by rw [HN.out]; exact hlt
      obtain ⟨rb, ro, x, C, cc, rfl, hx, hrl, hF⟩ := (HR.out.later hB.out).get (k := k) hkj
      obtain ⟨db, d0, y, rfl, hy, hyw, hdl, hyc⟩ := (HD.out.later hB.out).get (k := k) (by rw [HL.out]; exact hkj)
      have hxe := jb_get hx
      subst hxe
      have hye : kO dn k = y := by simp [kO, hy]
      have c0 := hF.c0
      have c2 := hF.c2
      have c3 := hF.c3
      have hi0 : (0 : Int) ≤ (k : Int) := by omega
      have hi1 : (k : Int) < (n : Int) := by omega
      have hs := pkN_succ (ts := ts) (js := js) (dn := dn) (t := t) k
      unfold pk1 at hs
      have HS := Lib.hid hs
      have HY := Lib.hid hye
      clear hs hx hy hye hF
      by_cases g1 : (jb js k).r ≤ t
      · have t1 : decide ((jb js k).r ≤ t) = true := decide_eq_true g1
        by_cases g2 : y < (jb js k).k
        · have t2 : decide (y < (jb js k).k) = true := decide_eq_true g2
          have hrd : rdy js dn t k = true := rdy_iff.2 ⟨g1, by rw [HY.out]; exact g2⟩
          obtain ⟨p0, p1⟩ := HTT.out k hkj
          obtain ⟨tb, tq, z, rfl, hz, hzw, htb, hZ⟩ := (HT.out.later hB.out).get (k := (jb js k).t.toNat) (by omega)
          have hzt : tk ts (jb js k).t = z := by have := tk_get hz; rw [show (((jb js k).t.toNat : Nat) : Int) = (jb js k).t by omega] at this; exact this
          have z6 := hZ.c6
          cases hp : pkN ts js dn t k with
          | none =>
            have HNX : Hid (pkN ts js dn t (k + 1) = some k) := Lib.hid (by rw [HS.out, hrd, hp] <;> rfl)
            have t3 : decide ((-1 : Int) < 0) = true := rfl
            simp only [pkI]
            clear hZ hz hzt z6 hrd hp HS
            go_upto_region 5 with (fail)
            go_quiet (fail)
            go_wp2
            go_roundw
            case rel => exact ⟨k + 1, by omega, by go_num, by rw [HNX.out] <;> rfl, Lib.hid (hB.out.trans ((below_drewN2 wr _).mono hB.out.size))⟩
            case measure => simp [intOf]; omega
          | some b =>
            have hbs := HB.out k b hp
            have hbj : b < js.length := by have := hbs.1; omega
            obtain ⟨q0, q1⟩ := HTT.out b hbj
            obtain ⟨rb', ro', x', C', cc', hRe, hx', hrl', hF'⟩ := (HR.out.later hB.out).get (k := b) hbj
            simp only [Option.some.injEq, Addr.mk.injEq, and_true] at hRe
            obtain ⟨rfl, rfl⟩ := hRe
            have hxe' := jb_get hx'
            subst hxe'
            have b0 := hF'.c0
            obtain ⟨tb', tq', z', hTe, hz', hzw', htb', hZ'⟩ := (HT.out.later hB.out).get (k := (jb js b).t.toNat) (by omega)
            simp only [Option.some.injEq, Addr.mk.injEq, and_true] at hTe
            obtain ⟨rfl, rfl⟩ := hTe
            have hzt' : tk ts (jb js b).t = z' := by have := tk_get hz'; rw [show (((jb js b).t.toNat : Nat) : Int) = (jb js b).t by omega] at this; exact this
            have z6' := hZ'.c6
            have t3 : decide ((b : Int) < 0) = false := decide_eq_false (by omega)
            have j0 : (0 : Int) ≤ (b : Int) := by omega
            have j1 : (b : Int) < (n : Int) := by have := hbs.1; omega
            obtain ⟨u, hu⟩ : ∃ u : Nat, (jb js k).t = (u : Int) := ⟨(jb js k).t.toNat, by omega⟩
            obtain ⟨u', hu'⟩ : ∃ u' : Nat, (jb js b).t = (u' : Int) := ⟨(jb js b).t.toNat, by omega⟩
            rw [hu] at c0 z6 p1
            rw [hu'] at b0 z6' q1
            simp only [Int.toNat_natCast] at z6 z6'
            have l0 : (0 : Int) ≤ (u : Int) := by omega
            have l1 : (u : Int) < (m : Int) := by rw [← HM.out]; exact p1
            have l0' : (0 : Int) ≤ (u' : Int) := by omega
            have l1' : (u' : Int) < (m : Int) := by rw [← HM.out]; exact q1
            simp only [pkI]
            by_cases g4 : z.p < z'.p
            · have t4 : decide (z.p < z'.p) = true := decide_eq_true g4
              have HNX : Hid (pkN ts js dn t (k + 1) = some k) := Lib.hid (by
                rw [HS.out, hrd, hp]
                simp only [prO, hzt, hzt', t4, Bool.and_self, if_true])
              clear hZ hz hzt hrd hp HS hbs hF' hx' hZ' hz' hzt' hu hu' p0 p1 q0 q1
              go_upto_region 5 with (fail)
              go_quiet (fail)
              go_wp2
              go_roundw
              case rel => exact ⟨k + 1, by omega, by go_num, by rw [HNX.out] <;> rfl, Lib.hid (hB.out.trans ((below_drewN2 wr _).mono hB.out.size))⟩
              case measure => simp [intOf]; omega
            · have t4 : decide (z.p < z'.p) = false := decide_eq_false g4
              have HNX : Hid (pkN ts js dn t (k + 1) = some b) := Lib.hid (by
                rw [HS.out, hrd, hp]
                simp only [prO, hzt, hzt', t4, Bool.and_false, Bool.false_eq_true, if_false])
              clear hZ hz hzt hrd hp HS hbs hF' hx' hZ' hz' hzt' hu hu' p0 p1 q0 q1
              go_upto_region 5 with (fail)
              go_quiet (fail)
              go_wp2
              go_roundw
              case rel => exact ⟨k + 1, by omega, by go_num, by rw [HNX.out] <;> rfl, Lib.hid (hB.out.trans ((below_drewN2 wr _).mono hB.out.size))⟩
              case measure => simp [intOf]; omega
        · have t2 : decide (y < (jb js k).k) = false := decide_eq_false g2
          have HNX : Hid (pkN ts js dn t (k + 1) = pkN ts js dn t k) := Lib.hid (by
            have hrd : rdy js dn t k = false := by rw [← Bool.not_eq_true, rdy_iff]; rw [HY.out]; omega
            rw [HS.out, hrd] <;> rfl)
          clear HS
          go_upto_region 5 with (fail)
          go_quiet (fail)
          go_wp2
          go_roundw
          case rel => exact ⟨k + 1, by omega, by go_num, by rw [HNX.out], Lib.hid (hB.out.trans ((below_drewN2 wr _).mono hB.out.size))⟩
          case measure => simp [intOf]; omega
      · have t1 : decide ((jb js k).r ≤ t) = false := decide_eq_false g1
        have HNX : Hid (pkN ts js dn t (k + 1) = pkN ts js dn t k) := Lib.hid (by
          have hrd : rdy js dn t k = false := by rw [← Bool.not_eq_true, rdy_iff]; omega
          rw [HS.out, hrd] <;> rfl)
        clear HS
        go_upto_region 5 with (fail)
        go_quiet (fail)
        go_wp2
        go_roundw
        case rel => exact ⟨k + 1, by omega, by go_num, by rw [HNX.out], Lib.hid (hB.out.trans ((below_drewN2 wr _).mono hB.out.size))⟩
        case measure => simp [intOf]; omega
    · obtain rfl : k = n := by omega
      go_wp2
      go_ret
      exact ⟨rfl, hB.out⟩
end Go.Proofs.YtkpackbbahodcaaGreat
/- The document's run in memory. -/
namespace Go.Proofs.YtkpackbbahodcaaGreat
open Go.RowKit
set_option linter.unusedVariables false
set_option linter.unusedSimpArgs false
attribute [local go_sem ↓] Go.wp_at_zero Go.wp_at_succ
abbrev TGo : TypeId := 35
structure RfS (w0 : World) (n bg ge gd : Nat) (st : TSt) (vs : Value) (wr : World) : Prop where
  bel : Below w0.heap.size w0 wr
  box : wr.heap[bg]? = some (Obj.cells #[vs, .slice (some ⟨ge, 0, none⟩) n n, .slice (some ⟨gd, 0, none⟩) n n] TGo (0, 0))
  spn : wr.ownsRow w0.heap.size TSp 3 vs st.sp.length (spC st.sp)
  ens : wr.ownsRow w0.heap.size T64 1 (.slice (some ⟨ge, 0, none⟩) n n) n (numL st.en)
  dns : wr.ownsRow w0.heap.size T64 1 (.slice (some ⟨gd, 0, none⟩) n n) n (numL st.dn)
  ne : ge ≠ gd
  gb : w0.heap.size ≤ bg
  nb : bg ≠ w0.heap.size
  res : wr.heap[w0.heap.size]? = some (Obj.cells #[.slice none 0 0, .slice none 0 0, .slice none 0 0] TGo (0, 0))
structure RfS' (w0 : World) (n ge gd : Nat) (st : TSt) (vs : Value) (wr : World) : Prop where
  spn : wr.ownsRow w0.heap.size TSp 3 vs st.sp.length (spC st.sp)
  ens : wr.ownsRow w0.heap.size T64 1 (.slice (some ⟨ge, 0, none⟩) n n) n (numL st.en)
  bel : Below w0.heap.size w0 wr
theorem infoG10 : (Tryz.prog.info? TGo).map (·.size) = some 3 := by kernel_rfl
theorem results_got10 {fn : Func} {p : Tmp} (h : fn.results = #[.cell p TGo]) (tmps : Array Value) (w : World) (b : Nat) {x y z : Value} (hp : tmps.getD p undef = .pointer (some ⟨b, 0, none⟩)) (hb : w.heap[b]? = some (.cells #[x, y, z] TGo (0, 0))) :
    (results fn tmps).run Tryz.prog w = .ok (.agg #[x, y, z]) w :=
  results_cell_row h tmps w b _ _ _ _ hp hb Tryz.underlying35 rfl infoG10
section
variable {w0 wr : World} {n bg ge gd : Nat} {st : TSt} {vs : Value}
theorem RfS.cell (h : RfS w0 n bg ge gd st vs wr) (i : Nat) : wr.cell? ⟨bg, i, none⟩ = (#[vs, .slice (some ⟨ge, 0, none⟩) n n, .slice (some ⟨gd, 0, none⟩) n n] : Array Value)[i]? := cell_of_row wr bg i _ _ _ h.box
theorem RfS.c0 (h : RfS w0 n bg ge gd st vs wr) : wr.cell? ⟨bg, 0, none⟩ = some vs := h.cell 0
theorem RfS.c1 (h : RfS w0 n bg ge gd st vs wr) : wr.cell? ⟨bg, 1, none⟩ = some (.slice (some ⟨ge, 0, none⟩) n n) := h.cell 1
theorem RfS.c2 (h : RfS w0 n bg ge gd st vs wr) : wr.cell? ⟨bg, 2, none⟩ = some (.slice (some ⟨gd, 0, none⟩) n n) := h.cell 2
theorem RfS.fz (h : RfS w0 n bg ge gd st vs wr) (i : Nat) : wr.frozen? ⟨bg, i, none⟩ = false := by simp [World.frozen?, h.box]
theorem RfS.later {w' : World} (h : RfS w0 n bg ge gd st vs wr) (hb : Below wr.heap.size wr w') : RfS w0 n bg ge gd st vs w' := by
  have k : KT [] wr w' := KT.of hb
  exact ⟨h.bel.trans (hb.mono h.bel.size), k.blk _ _ _ h.box (by simp), k.row h.spn (by simp), k.row h.ens (by simp), k.row h.dns (by simp), h.ne, h.gb, h.nb, k.blk _ _ _ h.res (by simp)⟩
theorem RfS.ru (h : RfS w0 n bg ge gd st vs wr) (r : Option Nat) : RfS w0 n bg ge gd { st with ru := r } vs wr := ⟨h.bel, h.box, h.spn, h.ens, h.dns, h.ne, h.gb, h.nb, h.res⟩
theorem RfS.grow {l : List Spn} {x : Spn} {g cap : Nat} (h : RfS w0 n bg ge gd st (.slice (some ⟨g, 0, none⟩) (l.length + 1) cap) wr) (hsp : st.sp = l ++ [x]) (t : Int) :
    RfS w0 n bg ge gd { st with sp := l ++ [⟨x.j, x.f, t⟩] } (.slice (some ⟨g, 0, none⟩) (l.length + 1) cap) (wr.setCell ⟨g, l.length * 3 + 2, none⟩ (.int .i64 t)) := by
  have hs := h.spn
  rw [hsp] at hs
  obtain ⟨cs, hcs⟩ := own_ty hs (g := g) rfl
  have k : KT [TSp] wr (wr.setCell ⟨g, l.length * 3 + 2, none⟩ (.int .i64 t)) := KT.set hcs (by simp)
  have h2 : (l ++ [x]).length = l.length + 1 := by simp
  have h3 := own_set hs (g := g) rfl (i := l.length * 3 + 2) (by rw [h2]; omega) (.int .i64 t)
  rw [sp_set] at h3
  exact ⟨below_set h.bel (hs.lt g rfl).1 h.bel.size, k.blk _ _ _ h.box (by decide), by simpa using h3, k.row h.ens (by decide), k.row h.dns (by decide), h.ne, h.gb, h.nb, k.blk _ _ _ h.res (by decide)⟩
theorem RfS.more {vs2 : Value} {w1 w2 : World} {x : Spn} (h : RfS w0 n bg ge gd st vs wr) (hB : Below wr.heap.size wr w1) (hown : w2.ownsRow w0.heap.size TSp 3 vs2 (st.sp.length + 1) (spC st.sp ++ snL x)) (hg : w1.grownBy w2 vs.ownBlock) :
    (w2.cell? ⟨bg, 0, none⟩ = some vs ∧ ∀ i, w2.frozen? ⟨bg, i, none⟩ = false) ∧ RfS w0 n bg ge gd { st with sp := st.sp ++ [x] } vs2 (w2.setCell ⟨bg, 0, none⟩ vs2) := by
  have h1 := h.later hB
  have hk : Kept vs.ownBlock.toList w1 w2 := kept_grown hg (fun k hk => by simp [hk])
  have kt : KT [TGo, TSp] w1 w2 := KT.kept hk (fun k hm => by
    obtain ⟨cs, hc⟩ := own_ty h1.spn (g := k) (by simpa using hm)
    exact ⟨cs, _, hc, by simp⟩)
  have hbox2 : w2.heap[bg]? = some (Obj.cells #[vs, .slice (some ⟨ge, 0, none⟩) n n, .slice (some ⟨gd, 0, none⟩) n n] TGo (0, 0)) := by
    refine (hk.block bg (Array.getElem?_eq_some_iff.1 h1.box).1 (fun hm => ?_)).trans h1.box
    exact own_ne h1.spn h1.box (by decide) (by simpa using hm)
  have kt2 : KT [TGo, TSp] w1 (w2.setCell ⟨bg, 0, none⟩ vs2) := kt.trans (KT.set hbox2 (by simp))
  have b2 : Below w0.heap.size w0 w2 := h1.bel.trans (hk.below h1.bel.size (fun k hm => (h1.spn.lt k (by simpa using hm)).1))
  refine ⟨⟨cell_of_row w2 bg 0 _ _ _ hbox2, fun i => by simp [World.frozen?, hbox2]⟩, below_set b2 h.gb b2.size, heap_setCell_same _ _ 0 _ _ _ hbox2, ?_, kt2.row h1.ens (by decide), kt2.row h1.dns (by decide), h.ne, h.gb, h.nb, ?_⟩
  rotate_left
  · have q1 := h1.res
    rw [Below.heap_setCell _ _ _ _ (by simpa using Ne.symm h.nb)]
    exact (hk.block _ (Array.getElem?_eq_some_iff.1 q1).1 (fun hm => own_ne h1.spn q1 (by decide) (by simpa using hm))).trans q1
  have hne : ∀ g, vs2.ownBlock = some g → g ∉ [bg] := fun g hg2 => by
    rw [List.mem_singleton]
    intro e
    subst e
    exact own_ne hown hbox2 (by decide) hg2
  have := ((Kept.refl [bg] w2).set bg 0 vs2 (by simp)).row hown hne
  rw [List.length_append, spC_app]
  exact this
theorem RfS.done (h : RfS w0 n bg ge gd st vs wr) {i : Nat} (hi : i < n) (v : Int) : RfS w0 n bg ge gd { st with dn := st.dn.set i v } vs (wr.setCell ⟨gd, i, none⟩ (.int .i64 v)) := by
  obtain ⟨cs, hcs⟩ := own_ty h.dns (g := gd) rfl
  have k : KT [T64] wr (wr.setCell ⟨gd, i, none⟩ (.int .i64 v)) := KT.set hcs (by simp)
  have h3 := own_set h.dns (g := gd) rfl (i := i) (by omega) (.int .i64 v)
  have e : numL (st.dn.set i v) = (numL st.dn).set i (.int .i64 v) := by simp [numL, List.map_set]
  exact ⟨below_set h.bel (h.dns.lt gd rfl).1 h.bel.size, k.blk _ _ _ h.box (by decide), k.row h.spn (by decide), ((Kept.refl [gd] wr).set gd i _ (by simp)).row h.ens (fun g hg => by simp [Value.ownBlock] at hg; simp; intro e; exact h.ne (by rw [hg]; exact e)), by rw [e]; exact h3, h.ne, h.gb, h.nb, k.blk _ _ _ h.res (by decide)⟩
theorem RfS.ended (h : RfS w0 n bg ge gd st vs wr) {i : Nat} (hi : i < n) (v : Int) : RfS w0 n bg ge gd { st with en := st.en.set i v } vs (wr.setCell ⟨ge, i, none⟩ (.int .i64 v)) := by
  obtain ⟨cs, hcs⟩ := own_ty h.ens (g := ge) rfl
  have k : KT [T64] wr (wr.setCell ⟨ge, i, none⟩ (.int .i64 v)) := KT.set hcs (by simp)
  have h3 := own_set h.ens (g := ge) rfl (i := i) (by omega) (.int .i64 v)
  have e : numL (st.en.set i v) = (numL st.en).set i (.int .i64 v) := by simp [numL, List.map_set]
  exact ⟨below_set h.bel (h.ens.lt ge rfl).1 h.bel.size, k.blk _ _ _ h.box (by decide), k.row h.spn (by decide), by rw [e]; exact h3, ((Kept.refl [ge] wr).set ge i _ (by simp)).row h.dns (fun g hg => by simp [Value.ownBlock] at hg; simp; intro e; exact h.ne (by rw [hg]; exact e.symm)), h.ne, h.gb, h.nb, k.blk _ _ _ h.res (by decide)⟩
theorem RfS.final (h : RfS w0 n bg ge gd st vs wr) : (((wr.setCell ⟨w0.heap.size, 0, none⟩ vs).setCell ⟨w0.heap.size, 1, none⟩ (.slice (some ⟨ge, 0, none⟩) n n)).setCell ⟨w0.heap.size, 2, none⟩ (.slice (some ⟨gd, 0, none⟩) n n)).heap[w0.heap.size]? = some (Obj.cells #[vs, .slice (some ⟨ge, 0, none⟩) n n, .slice (some ⟨gd, 0, none⟩) n n] TGo (0, 0)) ∧
    RfS' w0 n ge gd st vs (((wr.setCell ⟨w0.heap.size, 0, none⟩ vs).setCell ⟨w0.heap.size, 1, none⟩ (.slice (some ⟨ge, 0, none⟩) n n)).setCell ⟨w0.heap.size, 2, none⟩ (.slice (some ⟨gd, 0, none⟩) n n)) := by
  have e1 := heap_setCell_same _ _ 0 _ _ vs h.res
  have e2 := heap_setCell_same _ _ 1 _ _ (.slice (some ⟨ge, 0, none⟩) n n) e1
  have e3 := heap_setCell_same _ _ 2 _ _ (.slice (some ⟨gd, 0, none⟩) n n) e2
  have k : KT [TGo] wr _ := ((KT.set (i := 0) (v := vs) h.res (by simp)).trans (KT.set (i := 1) (v := .slice (some ⟨ge, 0, none⟩) n n) e1 (by simp))).trans (KT.set (i := 2) (v := .slice (some ⟨gd, 0, none⟩) n n) e2 (by simp))
  have hs := h.bel.size
  have b1 := below_set (i := 0) (v := vs) h.bel (Nat.le_refl _) hs
  have b2 := below_set (i := 1) (v := .slice (some ⟨ge, 0, none⟩) n n) b1 (Nat.le_refl _) b1.size
  have b3 := below_set (i := 2) (v := .slice (some ⟨gd, 0, none⟩) n n) b2 (Nat.le_refl _) b2.size
  exact ⟨e3, k.row h.spn (by decide), k.row h.ens (by decide), b3⟩
theorem zero_own {B g n : Nat} {w : World} (h : w.heap[g]? = some (Obj.cells (madeCells (Value.cells (.int .i64 0)) n) T64 (0, 0))) (hB : B ≤ g) (hn : n ≤ 1000) : w.ownsRow B T64 1 (.slice (some ⟨g, 0, none⟩) n n) n (numL (List.replicate n 0)) := by
  refine ⟨by simp [numL], .inr ⟨g, n, _, rfl, hB, h, Nat.le_refl _, by unfold maxLen; omega, by rw [size_madeCells]; omega, ?_⟩⟩
  have e : Value.cells (.int .i64 0) = #[.int .i64 0] := rfl
  rw [e, toList_madeCells_one, Nat.mul_one, List.take_of_length_le (by simp)]
  simp [numL]
end
end Go.Proofs.YtkpackbbahodcaaGreat
