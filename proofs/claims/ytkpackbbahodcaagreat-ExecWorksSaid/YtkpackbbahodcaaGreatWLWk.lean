/- The law EW: its walk. -/
import Derived.Test.YtkpackbbahodcaaGreatG15
import Derived.Test.YtkpackbbahodcaaGreatG13
import Derived.Deep.CutRange
namespace Go.Proofs.YtkpackbbahodcaaGreat
open Go.RowKit
set_option linter.unusedVariables false
set_option linter.unusedSimpArgs false
attribute [local go_sem ↓] Go.wp_at_zero Go.wp_at_succ
theorem chn_take {js : List Fv} {en : List Int} : ∀ (a : Int) (l : List Spn) (k : Nat), chn js en a l → chn js en a (l.take k)
  | a, [], k, h => by simp [chn]
  | a, x :: l, 0, h => by simp [chn]
  | a, x :: l, k + 1, ⟨h1, h2, h3, h4, h5, h6⟩ => by
    rw [List.take_succ_cons]
    exact ⟨h1, h2, h3, h4, h5, chn_take x.t l k h6⟩
theorem spG_get {sp : List Spn} {k : Nat} (hk : k < sp.length) : sp[k]? = some (spG sp k) := by
  unfold spG; rw [List.getElem?_eq_getElem hk]; rfl
theorem chn_at {js : List Fv} {en : List Int} {l : List Spn} {k : Nat} (h : chn js en 0 l) (hk : k < l.length) : lastA (l.take k) ≤ (spG l k).f ∧ (spG l k).f < (spG l k).t ∧ (spG l k).j < js.length ∧ (jb js (spG l k).j).r ≤ (spG l k).f ∧ (lastA (l.take k) < (spG l k).f → Gap js en (lastA (l.take k)) (spG l k).f) := by
  have h1 := chn_take 0 l (k + 1) h
  rw [take_one (spG_get hk)] at h1
  obtain ⟨-, h2⟩ := (chn_app _ _ _).1 h1
  obtain ⟨q1, q2, q3, q4, q5, -⟩ := h2
  exact ⟨q1, q2, q3, q4, q5⟩
theorem lastA_take {l : List Spn} {k : Nat} (hk : k < l.length) : lastA (l.take (k + 1)) = (spG l k).t := by
  rw [take_one (spG_get hk), lastA_app]
theorem lenS_take {l : List Spn} {k : Nat} (hk : k < l.length) (i : Nat) : lenS (l.take (k + 1)) i = lenS (l.take k) i + (if (spG l k).j = i then (spG l k).t - (spG l k).f else 0) := by
  rw [take_one (spG_get hk), lenS_app, lenS_one]
theorem lenS_pos : ∀ (l : List Spn) (i : Nat), (∀ x ∈ l, x.f < x.t) → 0 ≤ lenS l i
  | [], i, _ => by simp [lenS]
  | x :: l, i, h => by
    have h1 := lenS_pos l i (fun y hy => h y (List.mem_cons_of_mem _ hy))
    have h2 := h x (by simp)
    rw [show x :: l = [x] ++ l from rfl, lenS_app, lenS_one]
    split <;> omega
/-- What the law asks. -/
structure WkF (js : List Fv) (sp : List Spn) (es : List Int) : Prop where
  st : ∀ k, k < sp.length → lastA (sp.take k) ≤ (spG sp k).f ∧ (jb js (spG sp k).j).r ≤ (spG sp k).f ∧ (spG sp k).t ≤ kO es (spG sp k).j ∧ ∀ i, i < js.length → lastA (sp.take k) < (spG sp k).f → (jb js i).r < (spG sp k).f → kO es i ≤ lastA (sp.take k)
  fi : ∀ i, i < js.length → lenS sp i = (jb js i).k ∧ (jb js i).r + (jb js i).k ≤ kO es i
  l0 : ∀ k, 0 ≤ lastA (sp.take k)
  ln : ∀ k i, i < js.length → 0 ≤ lenS (sp.take k) i ∧ lenS (sp.take k) i ≤ (jb js i).k
theorem wk_gen {ss : List Ts} {js : List Fv} (hl : Lg js) {T : Nat} (hd : ∀ i, i < js.length → kO (tst ss js T).dn i = (jb js i).k) : WkF js (tst ss js T).sp (tst ss js T).en := by
  have hW := wk_all (ts := ss) hl T
  have hp : ∀ x ∈ (tst ss js T).sp, x.f < x.t ∧ 0 ≤ x.f := fun x hx => by
    have := (chn_mem hW.ch x hx).2.1
    omega
  refine ⟨fun k hk => ?_, fun i hi => ?_, fun k => ?_, fun k i hi => ?_⟩
  · obtain ⟨q1, q2, q3, q4, q5⟩ := chn_at hW.ch hk
    exact ⟨q1, q4, hW.en _ (spG_mem hk) (hd _ q3), fun i hi ha hr => (q5 ha i hi hr).1⟩
  · have h1 := hd i hi
    have h2 := hl.k1 i hi
    have h3 := (hW.tm i hi (by omega)).2 h1
    exact ⟨by rw [hW.wk i hi, h1], by omega⟩
  · unfold lastA
    cases hx : ((tst ss js T).sp.take k).getLast? with
    | none => exact Int.le_refl _
    | some x =>
      have := hp x (List.mem_of_mem_take (List.mem_of_getLast? hx))
      simp; omega
  · have e : lenS (tst ss js T).sp i = lenS ((tst ss js T).sp.take k) i + lenS ((tst ss js T).sp.drop k) i := by
      rw [← lenS_app, List.take_append_drop]
    have h1 := lenS_pos ((tst ss js T).sp.take k) i (fun x hx => (hp x (List.mem_of_mem_take hx)).1)
    have h2 := lenS_pos ((tst ss js T).sp.drop k) i (fun x hx => (hp x (List.mem_of_mem_drop hx)).1)
    have h3 := hW.wk i hi
    have h4 := hd i hi
    omega
theorem wk_fact {ss : List Ts} {js : List Fv} {M n : Nat} (h : Sm ss js M n) (hn : n ≤ 10) : WkF js (tst ss js 9223372036854775807).sp (tst ss js 9223372036854775807).en := wk_gen h.lgs (h.doneT hn)
/-- The law's own row: how long each has run so far. -/
structure WkR (w0 wr : World) (g n : Nat) (sp : List Spn) (k : Nat) : Prop where
  own : ∃ wl, wr.ownsRow w0.heap.size T64 1 (.slice (some ⟨g, 0, none⟩) n n) n (numL wl) ∧ wl.length = n ∧ ∀ i, i < n → kO wl i = lenS (sp.take k) i
  bel : Below w0.heap.size w0 wr
theorem WkR.later {w0 w w' : World} {g n : Nat} {sp : List Spn} {k : Nat} (h : WkR w0 w g n sp k) (hb : Below w.heap.size w w') : WkR w0 w' g n sp k := by
  obtain ⟨wl, h1, h2, h3⟩ := h.own
  exact ⟨⟨wl, (Kept.of [] hb).row h1 (by simp), h2, h3⟩, h.bel.trans (hb.mono h.bel.size)⟩
theorem WkR.step {w0 wr : World} {g n : Nat} {sp : List Spn} {k : Nat} (h : WkR w0 wr g n sp k) (hk : k < sp.length) (hj : (spG sp k).j < n) : WkR w0 (wr.setCell ⟨g, (spG sp k).j, none⟩ (.int .i64 (lenS (sp.take k) (spG sp k).j + (spG sp k).t - (spG sp k).f))) g n sp (k + 1) := by
  obtain ⟨wl, h1, h2, h3⟩ := h.own
  have hg := (h1.lt g rfl).1
  refine ⟨⟨wl.set (spG sp k).j (lenS (sp.take k) (spG sp k).j + (spG sp k).t - (spG sp k).f), ?_, by rw [List.length_set]; exact h2, fun i hi => ?_⟩, h.bel.setCell (p := ⟨g, (spG sp k).j, none⟩) hg _⟩
  · have := own_set h1 (g := g) rfl (i := (spG sp k).j) (by omega) (.int .i64 (lenS (sp.take k) (spG sp k).j + (spG sp k).t - (spG sp k).f))
    have e : numL (wl.set (spG sp k).j (lenS (sp.take k) (spG sp k).j + (spG sp k).t - (spG sp k).f)) = (numL wl).set (spG sp k).j (.int .i64 (lenS (sp.take k) (spG sp k).j + (spG sp k).t - (spG sp k).f)) := by simp [numL, List.map_set]
    rw [e]; exact this
  · rw [kO_set _ _ (by omega), lenS_take hk]
    by_cases e : i = (spG sp k).j
    · rw [if_pos e, if_pos e.symm, e]; omega
    · rw [if_neg e, if_neg (fun h => e h.symm), h3 i hi]; omega
theorem WkR.cell {w0 wr : World} {g n : Nat} {sp : List Spn} {k : Nat} (h : WkR w0 wr g n sp k) {i : Nat} (hi : i < n) : wr.cell? ⟨g, i, none⟩ = some (.int .i64 (lenS (sp.take k) i)) ∧ wr.frozen? ⟨g, i, none⟩ = false := by
  obtain ⟨wl, h1, h2, h3⟩ := h.own
  refine ⟨?_, ?_⟩
  · rw [← h3 i hi]
    exact own_cell h1 (g := g) rfl (by simp [numL, kO, show i < wl.length by omega])
  · obtain ⟨g', c', hv, -, -, -, -, hf⟩ := own_form h1 (by omega)
    simp only [Value.slice.injEq, Option.some.injEq, Addr.mk.injEq, and_true] at hv
    obtain ⟨rfl, -⟩ := hv
    exact hf i
set_option maxRecDepth 100000 in
set_option maxHeartbeats 16000000 in
theorem lwk_walk (A0 : Option Addr) (cap0 : Nat) (l0 : List Sp) (A1 : Option Addr) (cap1 : Nat) (l1 : List Fv) (a2 : Int) (w : World) (h0 : SRow w A0 cap0 l0) (h1 : FRow w A1 cap1 l1) (i2 : in64 a2) :
    Calls Tryz.prog 6 #[.slice A0 l0.length cap0, .slice A1 l1.length cap1, .int .i64 a2] w fun e w' => e = .returned (.bool true) ∧ Below w.heap.size w w' := by
  have AW := Lib.hid (fun W => awake_any W)
  have hle1 := h1.le
  have hmx1 := h1.mx
  have KF0 := fun (W : World) (hb : Below w.heap.size w W) => fewT_row A1 cap1 l1 W (h1.later hb)
  have KS := Lib.hid (fun (W : World) (hb : Below w.heap.size w W) => set_any 5 (by omega) (by omega) A0 cap0 l0 a2 W (h0.later hb) i2)
  have FB0 := fewT_bd l1
  obtain ⟨fs, hfs⟩ : ∃ fs, fewTS l1 = fs := ⟨_, rfl⟩
  rw [hfs] at KF0 FB0
  have KF := Lib.hid KF0
  have FB := Lib.hid FB0
  have I2 := Lib.hid i2
  clear h0 h1 i2 hfs KF0 FB0
  go_enter Tryz.func6, Tryz.ntmps6
  go_upto_region 2 with (go_at_call 12; (with_reducible refine (AW.out _).mono ?_); rintro e w1 ⟨rfl, hb1⟩; have B1 := Lib.hid hb1; clear hb1)
  go_upto_region 3 with (go_at_call 13; (with_reducible refine (KS.out _ B1.out).mono ?_); rintro e w2 ⟨As, cs, ss, rfl, hRs, hs1, hs5, hsd, hsf, hsp, h2⟩; have RS2 := Lib.hid hRs; have HS1 := Lib.hid hs1; have HS5 := Lib.hid hs5; have HSD := Lib.hid hsd; have HSF := Lib.hid hsf; have HSP := Lib.hid hsp; have B12 := Lib.hid h2; have B2 := Lib.hid (B1.out.trans (h2.mono B1.out.size)); clear hRs hs1 hs5 hsd hsf hsp h2)
  have OK := Lib.hid (set_ok HS1.out (by have := HS5.out; omega) HSD.out HSF.out HSP.out)
  have SM0 := sm_of (M := 5) (n := 10) HS1.out (by have := HS5.out; omega) (by omega) HSD.out HSF.out HSP.out FB.out.1 (by omega) FB.out.2
  obtain ⟨js, hjs⟩ : ∃ js, decS ss fs = js := ⟨_, rfl⟩
  rw [hjs] at SM0
  have SM := Lib.hid SM0
  have HJS := Lib.hid hjs
  clear SM0 hjs
  go_upto_region 4 with (first
    | (go_at_call 15; (with_reducible refine (KF.out _ B2.out).mono ?_); rintro e w3 ⟨Ar, cr, rfl, hFR, h3⟩; have KD0 := dec_row _ _ _ _ ss fs _ (RS2.out.later h3) hFR OK.out; rw [HJS.out] at KD0; have KD := Lib.hid KD0; have H3 := Lib.hid h3; have RS3 := Lib.hid (RS2.out.later h3); have B3 := Lib.hid (B2.out.trans (h3.mono B2.out.size)); clear hFR h3 KD0)
    | (go_at_call 14; (with_reducible refine KD.out.mono ?_); rintro e w4 ⟨Aj, cj, gj, rfl, hFJ, hOJ, hXJ, h4⟩; have H24 := Lib.hid (H3.out.trans (h4.mono H3.out.size)); have H34 := Lib.hid h4; have FJ := Lib.hid hFJ; have OJ := Lib.hid hOJ; have XJ := Lib.hid hXJ; have B4 := Lib.hid (B2.out.trans (H24.out.mono B2.out.size)); have RS := Lib.hid (RS2.out.later H24.out); clear hFJ hOJ hXJ h4 KD))
  clear RS2 KF KS AW FB HJS H3
  have KR0 := run_sm SM.out (by omega) w4 RS.out FJ.out
  have WF0 := wk_fact SM.out (by omega)
  have RF0 := rnf_sm SM.out (by omega)
  obtain ⟨sp, hsp⟩ : ∃ sp, (tst ss js 9223372036854775807).sp = sp := ⟨_, rfl⟩
  obtain ⟨es, hes⟩ : ∃ es, (tst ss js 9223372036854775807).en = es := ⟨_, rfl⟩
  rw [hsp, hes] at KR0 WF0 RF0
  have KR := Lib.hid KR0
  have WF := Lib.hid WF0
  have RF := Lib.hid RF0
  clear KR0 WF0 RF0 hsp hes
  go_upto_region 5 with (go_at_call 16; (with_reducible refine KR.out.mono ?_); rintro e w5 ⟨A1, c1, B1', d1, rfl, hS, hE, hb1⟩; have HS := Lib.hid hS; have HE := Lib.hid hE; have HB5 := Lib.hid hb1; clear hS hE hb1)
  have hel := RF.out.le
  rw [hel]
  obtain ⟨n, hn⟩ : ∃ n, js.length = n := ⟨_, rfl⟩
  obtain ⟨m, hm⟩ : ∃ m, sp.length = m := ⟨_, rfl⟩
  have hj10 := SM.out.le
  rw [hn] at hj10
  rw [hn, hm]
  have HN := Lib.hid hn
  have HM := Lib.hid hm
  have HEL := Lib.hid hel
  have HJ5 := Lib.hid (FJ.out.later HB5.out)
  have BB := Lib.hid (B4.out.trans (HB5.out.mono B4.out.size))
  have M6 := make_64 n (by omega)
  have smx := HS.out.mx
  have sle := HS.out.le
  rw [hm] at sle
  clear hn hm hel KR
  have hnn : (((n : Nat) : Int) != (n : Int)) = false := by simp
  go_upto_region 8 with (fail)
  have b6 : Below w5.heap.size w5 (w5.alloc (.cells (madeCells (Value.cells (.int .i64 0)) n) T64)) := (Below.refl _ _).alloc (Nat.le_refl _) _
  have R6 : WkR w5 (w5.alloc (.cells (madeCells (Value.cells (.int .i64 0)) n) T64)) w5.heap.size n sp 0 := ⟨⟨List.replicate n 0, zero_own (heap_alloc_new w5 _) (Nat.le_refl _) (by omega), by simp, fun i hi => by rw [kO_rep _ _ _ hi]; rfl⟩, b6⟩
  obtain ⟨g, hg⟩ : ∃ g, w5.heap.size = g := ⟨_, rfl⟩
  obtain ⟨W6, hW6⟩ : ∃ W6, w5.alloc (.cells (madeCells (Value.cells (.int .i64 0)) n) T64) = W6 := ⟨_, rfl⟩
  have hW6' : w5.alloc (.cells (madeCells #[.int .i64 0] n) T64) = W6 := hW6
  rw [hW6] at R6
  have R6 : Hid (WkR w5 W6 g n sp 0) := Lib.hid (by rw [← hg]; exact R6)
  rw [hW6', hg]
  clear M6 b6 hW6 hW6' hg
  go_wp2
  go_loopw [13, 14] (fun a i wr => ∃ k : Nat, k ≤ m ∧ i = .int .i64 (k : Int) ∧ a = .int .i64 (lastA (sp.take k)) ∧ Hid (WkR w5 wr g n sp k)) (fun _ i _ => m - (intOf i).toNat)
  case atStart => exact ⟨0, Nat.zero_le _, rfl, rfl, R6⟩
  case round =>
    obtain ⟨k, hk, rfl, rfl, hR⟩ := hrel
    by_cases hlt : k < m
    · have hkl : k < sp.length := by rw [HM.out]; exact hlt
      obtain ⟨x, hx⟩ : ∃ x, spG sp k = x := ⟨_, rfl⟩
      obtain ⟨xj, x0, x1, x2⟩ := RF.out.sj _ (spG_mem hkl)
      obtain ⟨f1, f2, f3, f4⟩ := WF.out.st k hkl
      have f5 := WF.out.l0 k
      have ST := Lib.hid (fun wr h => WkR.step (w0 := w5) (wr := wr) (g := g) (n := n) h hkl (by rw [HN.out] at xj; exact xj))
      have CE := Lib.hid (fun wr (h : WkR w5 wr g n sp k) => h.cell (i := (spG sp k).j) (by rw [HN.out] at xj; exact xj))
      have hln := WF.out.ln k (spG sp k).j xj
      have hkk := SM.out.arb (by omega) xj
      have hlA := Lib.hid (lastA_take hkl)
      rw [hx] at xj x0 x1 x2 f1 f2 f3 f4 ST CE hln hkk hlA
      have hn0 : 0 < js.length := by omega
      obtain ⟨sb, sq, rfl, hsb, SP⟩ := HS.out.pin (by omega)
      obtain ⟨jb', jq, rfl, hjb, JP⟩ := HJ5.out.pin hn0
      obtain ⟨eb, eq, rfl, heb, EP⟩ := HE.out.pin (by rw [HEL.out]; exact hn0)
      obtain ⟨z0, z1, z2⟩ := (SP.later hR.out.bel) k hkl
      rw [hx] at z0 z1 z2
      obtain ⟨xJ, xF, xT⟩ := x
      simp only at xj x0 x1 x2 z0 z1 z2 f1 f2 f3 f4 ST CE hln hkk hlA
      obtain ⟨-, -, v2, -⟩ := (JP.later hR.out.bel) xJ xj
      have ve := (EP.later hR.out.bel) xJ (by rw [HEL.out]; exact xj)
      obtain ⟨aa, haa⟩ : ∃ aa, lastA (sp.take k) = aa := ⟨_, rfl⟩
      rw [haa] at f1 f4 f5 ⊢
      have jle := HJ5.out.le
      have jmx := HJ5.out.mx
      rw [HN.out] at jle
      have ele := HE.out.le
      have emx := HE.out.mx
      rw [HEL.out, HN.out] at ele
      rw [HN.out] at xj
      have JPh := Lib.hid JP
      have EPh := Lib.hid EP
      have F4 := Lib.hid f4
      have hi0 : (0 : Int) ≤ (k : Int) := by omega
      have hi1 : (k : Int) < (m : Int) := by omega
      have q0 : (0 : Int) ≤ (xJ : Int) := by omega
      have q1 : (xJ : Int) < (n : Int) := by omega
      obtain ⟨rj, hrj⟩ : ∃ r, (jb js xJ).r = r := ⟨_, rfl⟩
      obtain ⟨ej, hej⟩ : ∃ r, kO es xJ = r := ⟨_, rfl⟩
      obtain ⟨lw, hlw⟩ : ∃ r, lenS (sp.take k) xJ = r := ⟨_, rfl⟩
      rw [hrj] at v2 f2
      rw [hej] at ve f3
      rw [hlw] at CE ST hln
      have hwb : 0 ≤ lw ∧ lw ≤ 4 := by omega
      have r1 : decide ((xJ : Int) < 0) = false := decide_eq_false (by omega)
      have r2 : decide ((xJ : Int) ≥ (n : Int)) = false := decide_eq_false (by omega)
      have r2' : decide ((n : Int) ≤ (xJ : Int)) = false := decide_eq_false (by omega)
      have r2'' : decide (n ≤ xJ) = false := decide_eq_false (by omega)
      have r3 : decide (xF < aa) = false := decide_eq_false (by omega)
      have r4 : decide (xT ≤ xF) = false := decide_eq_false (by omega)
      have r5 : decide (xF < rj) = false := decide_eq_false (by omega)
      have r6 : decide (xT > ej) = false := decide_eq_false (by omega)
      have r6' : decide (ej < xT) = false := decide_eq_false (by omega)
      clear SP JP EP hx f1 f2 f3 f4 hln hkk hrj hej hlw haa
      go_upto_region 13 with (fail)
      have HRW := Lib.hid hR.out
      have F1 := Lib.hid (cells3 wr TSp (.int .i64 (xJ : Int)) (.int .i64 xF) (.int .i64 xT))
      have BW : Below wr.heap.size wr (wr.alloc (.cells #[.int .i64 (xJ : Int), .int .i64 xF, .int .i64 xT] TSp)) := (Below.refl _ _).alloc (Nat.le_refl _) _
      have HRB := Lib.hid (hR.out.later BW)
      have v2 := cells_below BW _ _ _ v2
      have ve := cells_below BW _ _ _ ve
      have hgx : g < wr.heap.size := by
        obtain ⟨wl, h1, -, -⟩ := hR.out.own
        exact (h1.lt g rfl).2
      obtain ⟨xb, hxb⟩ : ∃ xb, wr.heap.size = xb := ⟨_, rfl⟩
      rw [hxb] at F1 hgx ⊢
      have HGX := Lib.hid hgx
      generalize wr.alloc (.cells #[.int .i64 (xJ : Int), .int .i64 xF, .int .i64 xT] TSp) = W1 at *
      obtain ⟨y0, y1, y2⟩ := F1.out
      clear z0 z1 z2 BW hxb hR HRW hgx
      go_quiet (fail)
      have bq := below_drewN2 W1 nq
      generalize W1.drewN nq = W2 at *
      have HRB := Lib.hid (HRB.out.later bq)
      have y0 := cells_below bq _ _ _ y0
      have y1 := cells_below bq _ _ _ y1
      have y2 := cells_below bq _ _ _ y2
      clear v2 ve bq r1 r2 r2' r2'' r3 r4 r5 r6 r6'
      go_wp2
      go_loopw [16] (fun i wr2 => ∃ kk : Nat, kk ≤ n ∧ i = .int .i64 (kk : Int) ∧ Hid (Below W2.heap.size W2 wr2)) (fun i _ => n - (intOf i).toNat)
      case atStart => exact ⟨0, Nat.zero_le _, rfl, Lib.hid (Below.refl _ _)⟩
      case round =>
        obtain ⟨kk, hkk, rfl, hB2⟩ := hrel
        by_cases hlt2 : kk < n
        · obtain ⟨-, -, v2, -⟩ := ((JPh.out.later HRB.out.bel).later hB2.out) kk (by rw [HN.out]; exact hlt2)
          have ve := ((EPh.out.later HRB.out.bel).later hB2.out) kk (by rw [HEL.out, HN.out]; exact hlt2)
          have y0 := cells_below hB2.out _ _ _ y0
          have y1 := cells_below hB2.out _ _ _ y1
          have y2 := cells_below hB2.out _ _ _ y2
          have hk0 : (0 : Int) ≤ (kk : Int) := by omega
          have hk1 : (kk : Int) < (n : Int) := by omega
          have FK := Lib.hid (F4.out kk (by rw [HN.out]; exact hlt2))
          generalize (jb js kk).r = rk at *
          generalize kO es kk = ek at *
          by_cases c1 : xF > aa
          · have t1 : decide (xF > aa) = true := decide_eq_true c1
            have t1' : decide (aa < xF) = true := decide_eq_true c1
            by_cases c2 : rk < xF
            · have t2 : decide (rk < xF) = true := decide_eq_true c2
              have c3 := FK.out c1 c2
              have t3 : decide (ek > aa) = false := decide_eq_false (by omega)
              have t3' : decide (aa < ek) = false := decide_eq_false (by omega)
              clear FK c1 c2 c3
              go_upto_region 18 with (fail)
              go_quiet (fail)
              go_wp2
              go_roundw
              case rel => exact ⟨kk + 1, by omega, by go_num, Lib.hid (hB2.out.trans ((below_drewN2 _ _).mono hB2.out.size))⟩
              case measure => simp [intOf]; omega
            · have t2 : decide (rk < xF) = false := decide_eq_false c2
              clear FK c1 c2
              go_upto_region 18 with (fail)
              go_quiet (fail)
              go_wp2
              go_roundw
              case rel => exact ⟨kk + 1, by omega, by go_num, Lib.hid (hB2.out.trans ((below_drewN2 _ _).mono hB2.out.size))⟩
              case measure => simp [intOf]; omega
          · have t1 : decide (xF > aa) = false := decide_eq_false c1
            have t1' : decide (aa < xF) = false := decide_eq_false c1
            clear FK c1
            go_upto_region 18 with (fail)
            go_quiet (fail)
            go_wp2
            go_roundw
            case rel => exact ⟨kk + 1, by omega, by go_num, Lib.hid (hB2.out.trans ((below_drewN2 _ _).mono hB2.out.size))⟩
            case measure => simp [intOf]; omega
        · obtain rfl : kk = n := by omega
          have y0 := cells_below hB2.out _ _ _ y0
          have y1 := cells_below hB2.out _ _ _ y1
          have y2 := cells_below hB2.out _ _ _ y2
          have HRC := Lib.hid (HRB.out.later hB2.out)
          obtain ⟨zc, zf⟩ := CE.out _ HRC.out
          have hw1 : IntKind.i64.wrap (lw + xT) = lw + xT := IntWalk.i64_in _ (by omega)
          have hw2 : IntKind.i64.wrap (lw + xT - xF) = lw + xT - xF := IntWalk.i64_in _ (by omega)
          clear hB2
          go_upto_region 20 with (fail)
          go_region
          have y2' : (wr.setCell ⟨g, xJ, none⟩ (.int .i64 (lw + xT - xF))).cell? ⟨xb, 2, none⟩ = some (.int .i64 xT) := (World.cell?_of_block (w := wr) (a := ⟨xb, 2, none⟩) (Below.heap_setCell _ _ _ _ (fun e => by have h1 : xb = g := e; have := HGX.out; omega))).trans y2
          have HRD := Lib.hid ((ST.out _ HRC.out).later (below_drew (wr.setCell ⟨g, xJ, none⟩ (.int .i64 (lw + xT - xF)))))
          have y2'' := cells_below (below_drew (wr.setCell ⟨g, xJ, none⟩ (.int .i64 (lw + xT - xF)))) _ _ _ y2'
          generalize (wr.setCell ⟨g, xJ, none⟩ (.int .i64 (lw + xT - xF))).drew = W3 at *
          clear y0 y1 y2 y2' zc zf ST CE HRC
          go_wp2
          go_roundw
          case rel => exact ⟨k + 1, by omega, by go_num, by rw [hlA.out], HRD⟩
          case measure => simp [intOf]; omega
    · obtain rfl : k = m := by omega
      have et : sp.take k = sp := List.take_of_length_le (by rw [HM.out]; exact Nat.le_refl _)
      have HR := Lib.hid hR.out
      clear hR
      go_wp2
      go_loopw [17] (fun i wr2 => ∃ q : Nat, q ≤ n ∧ i = .int .i64 (q : Int) ∧ Hid (WkR w5 wr2 g n sp k)) (fun i _ => n - (intOf i).toNat)
      case atStart => exact ⟨0, Nat.zero_le _, rfl, HR⟩
      case round =>
        obtain ⟨q, hq, rfl, hR⟩ := hrel
        by_cases hlq : q < n
        · have hqj : q < js.length := by rw [HN.out]; exact hlq
          obtain ⟨jb', jq, rfl, hjb, JP⟩ := HJ5.out.pin (by omega)
          obtain ⟨eb, eq, rfl, heb, EP⟩ := HE.out.pin (by rw [HEL.out]; omega)
          obtain ⟨-, -, v2, v3⟩ := (JP.later hR.out.bel) q hqj
          have ve := (EP.later hR.out.bel) q (by rw [HEL.out]; exact hqj)
          obtain ⟨zc, zf⟩ := hR.out.cell hlq
          obtain ⟨p1, p2⟩ := WF.out.fi q hqj
          have har := SM.out.arb (by omega) hqj
          rw [et, p1] at zc
          have jle := HJ5.out.le
          have jmx := HJ5.out.mx
          rw [HN.out] at jle
          have ele := HE.out.le
          have emx := HE.out.mx
          rw [HEL.out, HN.out] at ele
          have hj0 : (0 : Int) ≤ (q : Int) := by omega
          have hj1 : (q : Int) < (n : Int) := by omega
          generalize (jb js q).r = rq at *
          generalize (jb js q).k = kq at *
          generalize kO es q = eq' at *
          have hw1 : IntKind.i64.wrap (rq + kq) = rq + kq := IntWalk.i64_in _ (by omega)
          have hkk : (kq != kq) = false := by simp
          have t1 : decide (eq' < rq + kq) = false := decide_eq_false (by omega)
          clear JP EP p1 p2 har
          go_upto_region 25 with (fail)
          go_quiet (fail)
          go_wp2
          go_roundw
          case rel => exact ⟨q + 1, by omega, by go_num, Lib.hid (hR.out.later (below_drewN2 _ _))⟩
          case measure => simp [intOf]; omega
        · obtain rfl : q = n := by omega
          go_wp2
          go_ret
          exact ⟨rfl, BB.out.trans (hR.out.bel.mono BB.out.size)⟩
end Go.Proofs.YtkpackbbahodcaaGreat
