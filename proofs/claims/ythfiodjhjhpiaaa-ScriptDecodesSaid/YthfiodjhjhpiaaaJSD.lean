/- ScriptDecodes: the walk. -/
import Derived.Test.YthfiodjhjhpiaaaJAwk
namespace Go.Proofs.Ythfiodjhjhpiaaa
open Go.RowKit
set_option linter.unusedVariables false
set_option linter.unusedSimpArgs false

set_option maxRecDepth 100000 in
set_option maxHeartbeats 8000000 in
theorem sd_walk (A0 : Option Addr) (cap0 : Nat) (l0 : List Sp) (A1 : Option Addr) (cap1 : Nat) (l1 : List Fv) (A2 : Option Addr) (cap2 : Nat) (l2 : List Ts) (w : World) (h0 : SRow w A0 cap0 l0) (h1 : FRow w A1 cap1 l1) (h2 : Row w A2 cap2 l2) :
    Calls Try.prog 3 #[.slice A0 l0.length cap0, .slice A1 l1.length cap1, .slice A2 l2.length cap2] w fun e w' => e = .returned (.bool true) ∧ Below w.heap.size w w' := by
  have AW := Lib.hid (awake_any w)
  have hle1 := h1.le
  have hmx1 := h1.mx
  have hle2 := h2.le
  have hmx2 := h2.mx
  have KF := Lib.hid (fun (W : World) (hb : Below w.heap.size w W) => few_any A1 cap1 l1 W (h1.later hb))
  have KS := Lib.hid (fun (W : World) (hb : Below w.heap.size w W) => set_any 5 (by omega) (by omega) A0 cap0 l0 (l1.length : Int) W (h0.later hb) ⟨by omega, by omega⟩)
  by_cases hl : 4 < l2.length
  · have g4 : decide ((l2.length : Int) > 4) = true := decide_eq_true (by omega)
    have g4' : decide (4 < l2.length) = true := decide_eq_true hl
    have hc4 : (4 : Int) ≤ (cap2 : Int) := by omega
    have hcz : cap2 ≠ 0 := by omega
    have hl4 : (l2.take 4).length = 4 := by rw [List.length_take]; omega
    have RT := Lib.hid (h2.take 4)
    have TLEN := Lib.hid hl4
    clear h0 h1 h2 hl4
    go_enter Try.func3, Try.ntmps3
    go_upto_region 2 with (go_at_call 10; (with_reducible refine AW.out.mono ?_); rintro e w1 ⟨rfl, hb1⟩; have B1 := Lib.hid hb1; clear hb1)
    go_upto_region 4 with (fail)
    go_upto_region 5 with (go_at_call 11; (with_reducible refine (KF.out _ B1.out).mono ?_); rintro e w2 ⟨vr, gr, rfl, hGr, hgr, h2⟩; have HGR := Lib.hid hGr; have HGRX := Lib.hid hgr; have B2 := Lib.hid (B1.out.trans (h2.mono B1.out.size)); clear hGr hgr h2)
    obtain ⟨Ar, cr, rfl, FR0⟩ := HGR.out.frow
    rw [HGRX.out] at FR0
    have hgl : gr.length = (fewS l1).length := by rw [← HGRX.out, List.length_map]
    rw [hgl]
    have FR := Lib.hid FR0
    clear FR0 hgl
    go_upto_region 6 with (go_at_call 12; (with_reducible refine (KS.out _ B2.out).mono ?_); rintro e w3 ⟨As, cs, ss, rfl, hRs, hs1, hs5, hsd, hsf, hsp, h3⟩; have RS := Lib.hid hRs; have HOK := Lib.hid (set_ok hs1 (by omega) hsd hsf hsp); have B3 := Lib.hid (B2.out.trans (h3.mono B2.out.size)); have FR3 := Lib.hid (FR.out.later h3); clear hRs hs1 hs5 hsd hsf hsp h3)
    have KD := Lib.hid (fun (W : World) (hb : Below w3.heap.size w3 W) => decode_any As Ar cs cr ss (fewS l1) W (RS.out.later hb) (FR3.out.later hb))
    have KR := Lib.hid (fun (W : World) (hb : Below w3.heap.size w3 W) => rdecode_any As Ar cs cr ss (fewS l1) W (RS.out.later hb) (FR3.out.later hb))
    obtain ⟨js, hjs⟩ : ∃ js, decR ss (fewS l1) = js := ⟨_, rfl⟩
    rw [hjs] at KD KR
    generalize hn0 : (fewS l1).length = rn at *
    have HN0 := Lib.hid hn0
    clear hn0 hjs
    go_upto_region 7 with (first
      | (go_at_call 14; (with_reducible refine (KD.out _ (Below.refl _ _)).mono ?_); rintro e w5 ⟨v5, g5, rfl, hG5, hg5, h5⟩)
      | (go_at_call 15; (with_reducible refine (KR.out _ h5).mono ?_); rintro e w6 ⟨v6, g6, rfl, hG6, hg6, h6⟩; obtain ⟨A5, c5, rfl, F5⟩ := (hG5.later h6).frow; obtain ⟨A6, c6, rfl, F6⟩ := hG6.frow; rw [hg5] at F5; rw [hg6] at F6; have e5 : g5.length = js.length := (by rw [← hg5, List.length_map]); have e6 : g6.length = js.length := (by rw [← hg6, List.length_map]); have KE := Lib.hid (same_any A5 A6 c5 c6 js w6 F5 F6); rw [← e5] at KE; have KE : Hid (Calls Try.prog 13 #[.slice A5 g5.length c5, .slice A6 g6.length c6] w6 fun e w' => e = .returned (.bool true) ∧ Below w6.heap.size w6 w') := (by rw [e6, ← e5]; exact KE); have HB6 := Lib.hid (h5.trans (h6.mono h5.size)); clear hG5 hG6 hg5 hg6 F5 F6 e5 e6 h5 h6)
      | (go_at_call 13; (with_reducible refine KE.out.mono ?_); rintro e w7 ⟨rfl, h7⟩; have HB7 := Lib.hid (HB6.out.trans (h7.mono HB6.out.size)); clear h7))
    have B7 := Lib.hid (B3.out.trans (HB7.out.mono B3.out.size))
    have FR7 := Lib.hid (FR3.out.later HB7.out)
    clear KD KR KE
    have KD0 := fun (W : World) (hb : Below w7.heap.size w7 W) => decode_any A2 Ar cap2 cr (l2.take 4) (fewS l1) W ((RT.out.later B7.out).later hb) (FR7.out.later hb)
    have KR0 := fun (W : World) (hb : Below w7.heap.size w7 W) => rdecode_any A2 Ar cap2 cr (l2.take 4) (fewS l1) W ((RT.out.later B7.out).later hb) (FR7.out.later hb)
    have KN0 := fun (W : World) (hb : Below w7.heap.size w7 W) => decode_bad none Ar 0 cr [] (fewS l1) W (Row.nil none 0 (by omega)) (by simp [chkAll])
    rw [HN0.out, TLEN.out] at KD0 KR0
    rw [HN0.out] at KN0
    obtain ⟨js2, hjs⟩ : ∃ js, decR (l2.take 4) (fewS l1) = js := ⟨_, rfl⟩
    rw [hjs] at KD0 KR0
    have KD := Lib.hid KD0
    have KR := Lib.hid KR0
    have KN : Hid (∀ (W : World), Below w7.heap.size w7 W → Calls Try.prog 14 #[.slice none 0 0, .slice Ar rn cr] W (DecodePost [] W)) := Lib.hid KN0
    clear KD0 KR0 KN0 hjs
    go_upto_region 8 with (first
      | (go_at_call 14; (with_reducible refine (KD.out _ (Below.refl _ _)).mono ?_); rintro e w5 ⟨v5, g5, rfl, hG5, hg5, h5⟩)
      | (go_at_call 15; (with_reducible refine (KR.out _ h5).mono ?_); rintro e w6 ⟨v6, g6, rfl, hG6, hg6, h6⟩; obtain ⟨A5, c5, rfl, F5⟩ := (hG5.later h6).frow; obtain ⟨A6, c6, rfl, F6⟩ := hG6.frow; rw [hg5] at F5; rw [hg6] at F6; have e5 : g5.length = js2.length := (by rw [← hg5, List.length_map]); have e6 : g6.length = js2.length := (by rw [← hg6, List.length_map]); have KE := Lib.hid (same_any A5 A6 c5 c6 js2 w6 F5 F6); rw [← e5] at KE; have KE : Hid (Calls Try.prog 13 #[.slice A5 g5.length c5, .slice A6 g6.length c6] w6 fun e w' => e = .returned (.bool true) ∧ Below w6.heap.size w6 w') := (by rw [e6, ← e5]; exact KE); have HB6b := Lib.hid (h5.trans (h6.mono h5.size)); clear hG5 hG6 hg5 hg6 F5 F6 e5 e6 h5 h6)
      | (go_at_call 13; (with_reducible refine KE.out.mono ?_); rintro e w8 ⟨rfl, h8⟩; have HB8 := Lib.hid (HB6b.out.trans (h8.mono HB6b.out.size)); clear h8))
    clear KD KR KE
    have KN := Lib.hid (KN.out _ HB8.out)
    go_wp2_with (go_at_call 14; (with_reducible refine KN.out.mono ?_); rintro e w9 ⟨v9, g9, rfl, hG9, hg9, h9⟩; obtain ⟨A9, c9, rfl, F9⟩ := hG9.frow; have hgl9 : g9.length = 0 := (by rw [List.map_eq_nil_iff] at hg9; rw [hg9]; rfl); rw [hgl9]; have H9 := Lib.hid h9; clear hG9 hg9 F9 h9 hgl9)
    go_ret
    exact ⟨rfl, (B7.out.trans (HB8.out.mono B7.out.size)).trans (H9.out.mono (B7.out.trans (HB8.out.mono B7.out.size)).size)⟩
  · have g4 : decide ((l2.length : Int) > 4) = false := decide_eq_false (by omega)
    have g4' : decide (4 < l2.length) = false := decide_eq_false hl
    have RT := Lib.hid h2
    clear h0 h1 h2
    go_enter Try.func3, Try.ntmps3
    go_upto_region 2 with (go_at_call 10; (with_reducible refine AW.out.mono ?_); rintro e w1 ⟨rfl, hb1⟩; have B1 := Lib.hid hb1; clear hb1)
    go_upto_region 4 with (fail)
    go_upto_region 5 with (go_at_call 11; (with_reducible refine (KF.out _ B1.out).mono ?_); rintro e w2 ⟨vr, gr, rfl, hGr, hgr, h2⟩; have HGR := Lib.hid hGr; have HGRX := Lib.hid hgr; have B2 := Lib.hid (B1.out.trans (h2.mono B1.out.size)); clear hGr hgr h2)
    obtain ⟨Ar, cr, rfl, FR0⟩ := HGR.out.frow
    rw [HGRX.out] at FR0
    have hgl : gr.length = (fewS l1).length := by rw [← HGRX.out, List.length_map]
    rw [hgl]
    have FR := Lib.hid FR0
    clear FR0 hgl
    go_upto_region 6 with (go_at_call 12; (with_reducible refine (KS.out _ B2.out).mono ?_); rintro e w3 ⟨As, cs, ss, rfl, hRs, hs1, hs5, hsd, hsf, hsp, h3⟩; have RS := Lib.hid hRs; have HOK := Lib.hid (set_ok hs1 (by omega) hsd hsf hsp); have B3 := Lib.hid (B2.out.trans (h3.mono B2.out.size)); have FR3 := Lib.hid (FR.out.later h3); clear hRs hs1 hs5 hsd hsf hsp h3)
    have KD := Lib.hid (fun (W : World) (hb : Below w3.heap.size w3 W) => decode_any As Ar cs cr ss (fewS l1) W (RS.out.later hb) (FR3.out.later hb))
    have KR := Lib.hid (fun (W : World) (hb : Below w3.heap.size w3 W) => rdecode_any As Ar cs cr ss (fewS l1) W (RS.out.later hb) (FR3.out.later hb))
    obtain ⟨js, hjs⟩ : ∃ js, decR ss (fewS l1) = js := ⟨_, rfl⟩
    rw [hjs] at KD KR
    generalize hn0 : (fewS l1).length = rn at *
    have HN0 := Lib.hid hn0
    clear hn0 hjs
    go_upto_region 7 with (first
      | (go_at_call 14; (with_reducible refine (KD.out _ (Below.refl _ _)).mono ?_); rintro e w5 ⟨v5, g5, rfl, hG5, hg5, h5⟩)
      | (go_at_call 15; (with_reducible refine (KR.out _ h5).mono ?_); rintro e w6 ⟨v6, g6, rfl, hG6, hg6, h6⟩; obtain ⟨A5, c5, rfl, F5⟩ := (hG5.later h6).frow; obtain ⟨A6, c6, rfl, F6⟩ := hG6.frow; rw [hg5] at F5; rw [hg6] at F6; have e5 : g5.length = js.length := (by rw [← hg5, List.length_map]); have e6 : g6.length = js.length := (by rw [← hg6, List.length_map]); have KE := Lib.hid (same_any A5 A6 c5 c6 js w6 F5 F6); rw [← e5] at KE; have KE : Hid (Calls Try.prog 13 #[.slice A5 g5.length c5, .slice A6 g6.length c6] w6 fun e w' => e = .returned (.bool true) ∧ Below w6.heap.size w6 w') := (by rw [e6, ← e5]; exact KE); have HB6 := Lib.hid (h5.trans (h6.mono h5.size)); clear hG5 hG6 hg5 hg6 F5 F6 e5 e6 h5 h6)
      | (go_at_call 13; (with_reducible refine KE.out.mono ?_); rintro e w7 ⟨rfl, h7⟩; have HB7 := Lib.hid (HB6.out.trans (h7.mono HB6.out.size)); clear h7))
    have B7 := Lib.hid (B3.out.trans (HB7.out.mono B3.out.size))
    have FR7 := Lib.hid (FR3.out.later HB7.out)
    clear KD KR KE
    have KD0 := fun (W : World) (hb : Below w7.heap.size w7 W) => decode_any A2 Ar cap2 cr l2 (fewS l1) W ((RT.out.later B7.out).later hb) (FR7.out.later hb)
    have KR0 := fun (W : World) (hb : Below w7.heap.size w7 W) => rdecode_any A2 Ar cap2 cr l2 (fewS l1) W ((RT.out.later B7.out).later hb) (FR7.out.later hb)
    have KN0 := fun (W : World) (hb : Below w7.heap.size w7 W) => decode_bad none Ar 0 cr [] (fewS l1) W (Row.nil none 0 (by omega)) (by simp [chkAll])
    rw [HN0.out] at KD0 KR0
    rw [HN0.out] at KN0
    obtain ⟨js2, hjs⟩ : ∃ js, decR l2 (fewS l1) = js := ⟨_, rfl⟩
    rw [hjs] at KD0 KR0
    have KD := Lib.hid KD0
    have KR := Lib.hid KR0
    have KN : Hid (∀ (W : World), Below w7.heap.size w7 W → Calls Try.prog 14 #[.slice none 0 0, .slice Ar rn cr] W (DecodePost [] W)) := Lib.hid KN0
    clear KD0 KR0 KN0 hjs
    go_upto_region 8 with (first
      | (go_at_call 14; (with_reducible refine (KD.out _ (Below.refl _ _)).mono ?_); rintro e w5 ⟨v5, g5, rfl, hG5, hg5, h5⟩)
      | (go_at_call 15; (with_reducible refine (KR.out _ h5).mono ?_); rintro e w6 ⟨v6, g6, rfl, hG6, hg6, h6⟩; obtain ⟨A5, c5, rfl, F5⟩ := (hG5.later h6).frow; obtain ⟨A6, c6, rfl, F6⟩ := hG6.frow; rw [hg5] at F5; rw [hg6] at F6; have e5 : g5.length = js2.length := (by rw [← hg5, List.length_map]); have e6 : g6.length = js2.length := (by rw [← hg6, List.length_map]); have KE := Lib.hid (same_any A5 A6 c5 c6 js2 w6 F5 F6); rw [← e5] at KE; have KE : Hid (Calls Try.prog 13 #[.slice A5 g5.length c5, .slice A6 g6.length c6] w6 fun e w' => e = .returned (.bool true) ∧ Below w6.heap.size w6 w') := (by rw [e6, ← e5]; exact KE); have HB6b := Lib.hid (h5.trans (h6.mono h5.size)); clear hG5 hG6 hg5 hg6 F5 F6 e5 e6 h5 h6)
      | (go_at_call 13; (with_reducible refine KE.out.mono ?_); rintro e w8 ⟨rfl, h8⟩; have HB8 := Lib.hid (HB6b.out.trans (h8.mono HB6b.out.size)); clear h8))
    clear KD KR KE
    have KN := Lib.hid (KN.out _ HB8.out)
    go_wp2_with (go_at_call 14; (with_reducible refine KN.out.mono ?_); rintro e w9 ⟨v9, g9, rfl, hG9, hg9, h9⟩; obtain ⟨A9, c9, rfl, F9⟩ := hG9.frow; have hgl9 : g9.length = 0 := (by rw [List.map_eq_nil_iff] at hg9; rw [hg9]; rfl); rw [hgl9]; have H9 := Lib.hid h9; clear hG9 hg9 F9 h9 hgl9)
    go_ret
    exact ⟨rfl, (B7.out.trans (HB8.out.mono B7.out.size)).trans (H9.out.mono (B7.out.trans (HB8.out.mono B7.out.size)).size)⟩
end Go.Proofs.Ythfiodjhjhpiaaa
