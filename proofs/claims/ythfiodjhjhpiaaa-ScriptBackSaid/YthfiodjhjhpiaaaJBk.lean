/- back: what is encoded is decoded to the same. -/
import Derived.Test.YthfiodjhjhpiaaaREnc
import Derived.Test.YthfiodjhjhpiaaaJSP
import Derived.Test.YthfiodjhjhpiaaaJSameR
namespace Go.Proofs.Ythfiodjhjhpiaaa
open Go.RowKit
set_option linter.unusedVariables false
set_option linter.unusedSimpArgs false

theorem encode_none (A R : Option Addr) (cap rc : Nat) (ts : List Ts) (js : List Fv) (w : World) (hT : Row w A cap ts) (hR : FRow w R rc js) (h : encS ts js = none) :
    Calls Try.prog 40 #[.slice A ts.length cap, .slice R js.length rc] w fun e w' => e = .returned (.tuple #[.slice none 0 0, .bool false]) ∧ Below w.heap.size w w' := by
  have := encode_any A R cap rc ts js w hT hR
  rw [h] at this
  exact this
theorem encode_some (A R : Option Addr) (cap rc : Nat) (ts : List Ts) (js rs : List Fv) (w : World) (hT : Row w A cap ts) (hR : FRow w R rc js) (h : encS ts js = some rs) :
    Calls Try.prog 40 #[.slice A ts.length cap, .slice R js.length rc] w fun e w' => ∃ B c, e = .returned (.tuple #[.slice B rs.length c, .bool true]) ∧ FRow w' B c rs ∧ Below w.heap.size w w' := by
  have := encode_any A R cap rc ts js w hT hR
  rw [h] at this
  refine this.mono fun e w' hp => ?_
  obtain ⟨⟨v, gs, he, hG, hgs⟩, hb⟩ := hp
  obtain ⟨B, c, hv, hF⟩ := hG.frow
  rw [hgs] at hF
  have hl : gs.length = rs.length := by rw [← hgs, List.length_map]
  rw [hl] at hv
  exact ⟨B, c, by rw [he, hv], hF, hb⟩
theorem rencode_none (A R : Option Addr) (cap rc : Nat) (ts : List Ts) (js : List Fv) (w : World) (hT : Row w A cap ts) (hR : FRow w R rc js) (h : encS ts js = none) :
    Calls Try.prog 41 #[.slice A ts.length cap, .slice R js.length rc] w fun e w' => e = .returned (.agg #[.slice none 0 0, .bool false]) ∧ Below w.heap.size w w' := by
  have := rencode_any A R cap rc ts js w hT hR
  rw [h] at this
  exact this
theorem rencode_some (A R : Option Addr) (cap rc : Nat) (ts : List Ts) (js rs : List Fv) (w : World) (hT : Row w A cap ts) (hR : FRow w R rc js) (h : encS ts js = some rs) :
    Calls Try.prog 41 #[.slice A ts.length cap, .slice R js.length rc] w fun e w' => ∃ B c, e = .returned (.agg #[.slice B rs.length c, .bool true]) ∧ FRow w' B c rs ∧ Below w.heap.size w w' := by
  have := rencode_any A R cap rc ts js w hT hR
  rw [h] at this
  refine this.mono fun e w' hp => ?_
  obtain ⟨⟨B, c, he, hF⟩, hb⟩ := hp
  exact ⟨B, c, he, hF, hb⟩
theorem sameR_len (A A' : Option Addr) (cap cap' : Nat) (js : List Fv) (n m : Nat) (w : World) (hn : js.length = n) (hm : js.length = m) (hR : FRow w A cap js) (hR' : FRow w A' cap' js) :
    Calls Try.prog 42 #[.slice A n cap, .slice A' m cap'] w fun e w' => e = .returned (.bool true) ∧ Below w.heap.size w w' := by
  have h := sameRaw_any A A' cap cap' js w hR hR'
  rw [hm] at h
  rw [← hn, hm]
  exact h
theorem legS_ok {ts : List Ts} {js : List Fv} (h : legS ts js = true) : (chkAll ts).2 = 0 := by
  rw [legS, Bool.and_eq_true, decide_eq_true_eq] at h
  exact h.1.1
theorem encS_ok {ts : List Ts} {js rs : List Fv} (h : encS ts js = some rs) : (chkAll ts).2 = 0 := by
  cases hl : legS ts js with
  | true => exact legS_ok hl
  | false => rw [encS_bad hl] at h; cases h
set_option maxRecDepth 100000 in
set_option maxHeartbeats 8000000 in
theorem back_any (A R : Option Addr) (cap rc : Nat) (ts : List Ts) (js : List Fv) (w : World) (hT : Row w A cap ts) (hR : FRow w R rc js) :
    Calls Try.prog 19 #[.slice A ts.length cap, .slice R js.length rc] w fun e w' => e = .returned (.bool true) ∧ Below w.heap.size w w' := by
  have hle := hR.le
  have hmx := hR.mx
  have ROW := Lib.hid hT
  have RAW := Lib.hid hR
  have H0 : Hid (Below w.heap.size w w) := Lib.hid (Below.refl _ _)
  cases h : encS ts js with
  | none =>
    have K1 := Lib.hid (encode_none A R cap rc ts js w hT hR h)
    have K2 := Lib.hid (fun (W : World) (hb : Below w.heap.size w W) => rencode_none A R cap rc ts js W (hT.later hb) (hR.later hb) h)
    have K3 := Lib.hid (fun (W : World) => sameR_len none none 0 0 [] 0 0 W rfl rfl (FRow.nil none 0 (by omega)) (FRow.nil none 0 (by omega)))
    clear hT hR h
    go_enter Try.func19, Try.ntmps19
    go_wp2_with (first
      | (go_at_call 40; (with_reducible refine K1.out.mono ?_); rintro e w1 ⟨rfl, h1⟩; have H1 := Lib.hid h1; clear h1)
      | (go_at_call 41; (with_reducible refine (K2.out _ H1.out).mono ?_); rintro e w2 ⟨rfl, h2⟩; have H2 := Lib.hid (bel_step H1.out h2); clear h2)
      | (go_at_call 42; (with_reducible refine (K3.out _).mono ?_); rintro e w3 ⟨rfl, h3⟩; have H3 := Lib.hid h3; have zz := (((EGB.new w2 (.slice none 0 0) (.bool false)).later h3).z).2; clear h3))
    go_ret
    have ba : Below w2.heap.size w2 (w2.alloc (.cells #[.slice none 0 0, .bool false] 75)) := (Below.refl _ _).alloc (Nat.le_refl _) _
    exact ⟨rfl, bel_step (bel_step H2.out ba) H3.out⟩
  | some rs =>
    have K1 := Lib.hid (encode_some A R cap rc ts js rs w hT hR h)
    have K2 := Lib.hid (fun (W : World) (hb : Below w.heap.size w W) => rencode_some A R cap rc ts js rs W (hT.later hb) (hR.later hb) h)
    have hdec : decR ts rs = js := by rw [decR, if_pos (encS_ok h), decS_enc h]
    have HDEC := Lib.hid hdec
    clear hT hR h hdec
    go_enter Try.func19, Try.ntmps19
    go_upto_region 3 with (first
      | (go_at_call 40; (with_reducible refine K1.out.mono ?_); rintro e w1 ⟨B1, c1, rfl, hF1, h1⟩; have H1 := Lib.hid h1; have F1 := Lib.hid hF1; have F1le := hF1.le; have F1mx := hF1.mx; clear h1 hF1)
      | (go_at_call 41; (with_reducible refine (K2.out _ H1.out).mono ?_); rintro e w2 ⟨B2, c2, rfl, hF2, h2⟩; have H2 := Lib.hid h2; have F2 := Lib.hid hF2; have F2le := hF2.le; have F2mx := hF2.mx; clear h2 hF2))
    have ba : Below w2.heap.size w2 (w2.alloc (.cells #[.slice B2 rs.length c2, .bool true] 75)) := (Below.refl _ _).alloc (Nat.le_refl _) _
    have K3 := Lib.hid (sameR_len B1 B2 c1 c2 rs rs.length rs.length _ rfl rfl ((F1.out.later H2.out).later ba) (F2.out.later ba))
    have g3 := (EGB.new w2 (.slice B2 rs.length c2) (.bool true))
    have G3 := Lib.hid g3
    obtain ⟨z0, z1⟩ := g3.z
    have H3 := Lib.hid (bel_step (bel_step H1.out H2.out) ba)
    have F13 := Lib.hid ((F1.out.later H2.out).later ba)
    clear ba g3
    generalize (w2.alloc (.cells #[.slice B2 rs.length c2, .bool true] 75)) = W3 at *
    go_upto_region 4 with (go_at_call 42; (with_reducible refine K3.out.mono ?_); rintro e w4 ⟨rfl, h4⟩; have H4 := Lib.hid h4; clear h4)
    clear z0 z1
    obtain ⟨z0, z1⟩ := (G3.out.later H4.out).z
    have HW4 := Lib.hid (bel_step H3.out H4.out)
    have KD := Lib.hid (decode_len A B1 cap c1 ts rs ts.length rs.length w4 rfl rfl (ROW.out.later HW4.out) (F13.out.later H4.out))
    rw [HDEC.out] at KD
    go_wp2_with (first
      | (go_at_call 14; (with_reducible refine KD.out.mono ?_); rintro e w5 ⟨v5, g5, rfl, hG5, hg5, h5⟩; obtain ⟨A5, c5, rfl, F5⟩ := hG5.frow; rw [hg5] at F5; have KE := Lib.hid (same_len A5 R c5 rc js g5.length js.length w5 (by rw [← hg5, List.length_map]) rfl F5 (RAW.out.later (bel_step HW4.out h5))); have HW5 := Lib.hid (bel_step HW4.out h5); clear hG5 hg5 h5 F5)
      | (go_at_call 13; (with_reducible refine KE.out.mono ?_); rintro e w6 ⟨rfl, h6⟩; have H6 := Lib.hid h6; clear h6))
    go_ret
    exact ⟨rfl, bel_step HW5.out H6.out⟩
end Go.Proofs.Ythfiodjhjhpiaaa
