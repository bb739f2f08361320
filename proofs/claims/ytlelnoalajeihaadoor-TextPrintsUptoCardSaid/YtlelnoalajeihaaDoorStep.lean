/- The reader's steps: has, ended, named, field, fill. -/
import Derived.Test.YtlelnoalajeihaaDoorLine
namespace Go.Proofs.YtlelnoalajeihaaDoor
open Go.RowKit
set_option linter.unusedVariables false
set_option linter.unusedSimpArgs false

set_option maxHeartbeats 1000000 in
theorem has_any {bm bx k : Nat} {F : Fl} {w : World} (h : MapF w bm bx F) (hk : k < 6) :
    Calls Tryd.prog 58 #[.map (some bm), .string (bs (wordAt k))] w fun e w' => e = .returned (.bool (F k).isNone) ∧ w = w' := by
  have hi := fieldIx_word k hk
  cases e : (F k).isNone
  · have hl := look_not h (t := wordAt k) (fun j hj => by rw [hi] at hj; cases hj; cases e2 : F k <;> simp [e2] at e ⊢)
    generalize bs (wordAt k) = s at *
    clear e hi
    go_enter Tryd.func58, Tryd.ntmps58
    go_wp2
    go_ret
    exact ⟨rfl, rfl⟩
  · have hl := look_yes h hi (by cases e2 : F k <;> simp [e2] at e ⊢)
    generalize bs (wordAt k) = s at *
    generalize closV bx k = v at *
    clear e hi
    go_enter Tryd.func58, Tryd.ntmps58
    go_wp2
    go_ret
    exact ⟨rfl, rfl⟩
theorem has_lit0 {bm bx : Nat} {F : Fl} {w : World} (h : MapF w bm bx F) (W : World) (hw : W = w) : Calls Tryd.prog 58 #[.map (some bm), .string { data := #[99] }] W fun e w' => e = .returned (.bool (F 0).isNone) ∧ W = w' := by
  subst hw
  exact has_any (k := 0) h (by omega)
theorem has_lit1 {bm bx : Nat} {F : Fl} {w : World} (h : MapF w bm bx F) (W : World) (hw : W = w) : Calls Tryd.prog 58 #[.map (some bm), .string { data := #[116] }] W fun e w' => e = .returned (.bool (F 1).isNone) ∧ W = w' := by
  subst hw
  exact has_any (k := 1) h (by omega)
theorem has_lit2 {bm bx : Nat} {F : Fl} {w : World} (h : MapF w bm bx F) (W : World) (hw : W = w) : Calls Tryd.prog 58 #[.map (some bm), .string { data := #[100] }] W fun e w' => e = .returned (.bool (F 2).isNone) ∧ W = w' := by
  subst hw
  exact has_any (k := 2) h (by omega)
theorem has_lit4 {bm bx : Nat} {F : Fl} {w : World} (h : MapF w bm bx F) (W : World) (hw : W = w) : Calls Tryd.prog 58 #[.map (some bm), .string { data := #[113] }] W fun e w' => e = .returned (.bool (F 4).isNone) ∧ W = w' := by
  subst hw
  exact has_any (k := 4) h (by omega)
theorem has_lit5 {bm bx : Nat} {F : Fl} {w : World} (h : MapF w bm bx F) (W : World) (hw : W = w) : Calls Tryd.prog 58 #[.map (some bm), .string { data := #[112] }] W fun e w' => e = .returned (.bool (F 5).isNone) ∧ W = w' := by
  subst hw
  exact has_any (k := 5) h (by omega)
set_option maxRecDepth 100000 in
theorem three_words (a b c : ByteArray) (w : World) :
    (Instr.index 100 (.agg #[.string a, .string b, .string c]) (.int .i64 0)).run Tryd.prog w = .ok (.string a) w ∧
    (Instr.index 100 (.agg #[.string a, .string b, .string c]) (.int .i64 1)).run Tryd.prog w = .ok (.string b) w ∧
    (Instr.index 100 (.agg #[.string a, .string b, .string c]) (.int .i64 2)).run Tryd.prog w = .ok (.string c) w := by
  refine ⟨?_, ?_, ?_⟩ <;> rfl
set_option maxRecDepth 100000 in
set_option maxHeartbeats 2000000 in
theorem ended_no {bm bx br : Nat} {F : Fl} {w : World} (hM : MapF w bm bx F) (hf : full F = false) :
    Calls Tryd.prog 38 #[.pointer (some ⟨br, 0, none⟩), .map (some bm)] w fun e w' => e = .returned (.bool false) ∧ w = w' := by
  have hM := Lib.hid hM
  have hq : (F 0).isNone = true ∨ (F 1).isNone = true ∨ (F 5).isNone = true := by
    unfold full at hf
    cases h0 : F 0 <;> cases h1 : F 1 <;> cases h5 : F 5 <;> simp [h0, h1, h5] at hf ⊢
  have HQ := Lib.hid hq
  clear hf hq
  go_enter Tryd.func38, Tryd.ntmps38
  go_wp2
  go_loop [10] (fun i => i = .int .i64 0 ∨ (i = .int .i64 1 ∧ (F 0).isNone = false) ∨ (i = .int .i64 2 ∧ (F 0).isNone = false ∧ (F 1).isNone = false) ∨ (i = .int .i64 3 ∧ (F 0).isNone = false ∧ (F 1).isNone = false ∧ (F 5).isNone = false)) (fun i => 3 - (intOf i).toNat)
  case atStart => exact .inl rfl
  case round =>
    obtain ⟨i0, i1, i2⟩ := three_words { data := #[99] } { data := #[116] } { data := #[112] } w
    rcases hrel with rfl | ⟨rfl, h0⟩ | ⟨rfl, h0, h1⟩ | ⟨rfl, h0, h1, h5⟩
    · rcases (Bool.eq_false_or_eq_true (F 0).isNone).symm with hf | hf
      · have K := Lib.hid (has_lit0 hM.out w rfl)
        rw [hf] at K
        have HF := Lib.hid hf
        clear hf 
        go_wp2_with (go_at_call 58; (with_reducible refine K.out.mono ?_); rintro e w2 ⟨rfl, rfl⟩)
        go_round
        case rel => exact .inr (.inl ⟨rfl, HF.out⟩)
        case measure => simp [intOf]
      · have K := Lib.hid (has_lit0 hM.out w rfl)
        rw [hf] at K
        have HF := Lib.hid hf
        clear hf 
        go_wp2_with (go_at_call 58; (with_reducible refine K.out.mono ?_); rintro e w2 ⟨rfl, rfl⟩)
        go_ret
        exact ⟨rfl, rfl⟩
    · rcases (Bool.eq_false_or_eq_true (F 1).isNone).symm with hf | hf
      · have K := Lib.hid (has_lit1 hM.out w rfl)
        rw [hf] at K
        have HF := Lib.hid hf
        have H0 := Lib.hid h0
        clear hf h0
        go_wp2_with (go_at_call 58; (with_reducible refine K.out.mono ?_); rintro e w2 ⟨rfl, rfl⟩)
        go_round
        case rel => exact .inr (.inr (.inl ⟨rfl, H0.out, HF.out⟩))
        case measure => simp [intOf]
      · have K := Lib.hid (has_lit1 hM.out w rfl)
        rw [hf] at K
        have HF := Lib.hid hf
        have H0 := Lib.hid h0
        clear hf h0
        go_wp2_with (go_at_call 58; (with_reducible refine K.out.mono ?_); rintro e w2 ⟨rfl, rfl⟩)
        go_ret
        exact ⟨rfl, rfl⟩
    · rcases (Bool.eq_false_or_eq_true (F 5).isNone).symm with hf | hf
      · have K := Lib.hid (has_lit5 hM.out w rfl)
        rw [hf] at K
        have HF := Lib.hid hf
        have H0 := Lib.hid h0
        have H1 := Lib.hid h1
        clear hf h0 h1
        go_wp2_with (go_at_call 58; (with_reducible refine K.out.mono ?_); rintro e w2 ⟨rfl, rfl⟩)
        go_round
        case rel => exact .inr (.inr (.inr ⟨rfl, H0.out, H1.out, HF.out⟩))
        case measure => simp [intOf]
      · have K := Lib.hid (has_lit5 hM.out w rfl)
        rw [hf] at K
        have HF := Lib.hid hf
        have H0 := Lib.hid h0
        have H1 := Lib.hid h1
        clear hf h0 h1
        go_wp2_with (go_at_call 58; (with_reducible refine K.out.mono ?_); rintro e w2 ⟨rfl, rfl⟩)
        go_ret
        exact ⟨rfl, rfl⟩
    · exfalso
      rcases HQ.out with h | h | h
      · rw [h0] at h; cases h
      · rw [h1] at h; cases h
      · rw [h5] at h; cases h
def EndPost (br g : Nat) (r : List Tk) (w : World) (e : Ending) (w' : World) : Prop := ∃ o' cap', e = .returned (.bool true) ∧ Rd w' br g o' cap' r ∧ Kept [br] w w'
def OnPost (w : World) (e : Ending) (w' : World) : Prop := e = .returned (.bool false) ∧ Below w.heap.size w w'
theorem full_none {F : Fl} (hf : full F = true) (k : Nat) (hk : k = 0 ∨ k = 1 ∨ k = 5) : (F k).isNone = false := by
  unfold full at hf
  rcases hk with rfl | rfl | rfl <;> (cases h0 : F 0 <;> cases h1 : F 1 <;> cases h5 : F 5 <;> simp [h0, h1, h5] at hf ⊢)
set_option maxRecDepth 100000 in
set_option maxHeartbeats 2000000 in
theorem ended_line {bm bx br g o cap : Nat} {F : Fl} {x : Tk} {r : List Tk} {w : World} (hR : Rd w br g o cap (x :: r)) (hM : MapF w bm bx F) (hf : full F = true) (hk : x.k = 4) :
    Calls Tryd.prog 38 #[.pointer (some ⟨br, 0, none⟩), .map (some bm)] w (EndPost br g r w) := by
  have hM := Lib.hid hM
  have hR := Lib.hid hR
  have T := Lib.hid (take_yes 4 hR.out (by omega))
  have HQ := Lib.hid (full_none hf)
  clear hf hk
  go_enter Tryd.func38, Tryd.ntmps38
  go_wp2
  go_loop [10] (fun i => i = .int .i64 0 ∨ (i = .int .i64 1 ∧ (F 0).isNone = false) ∨ (i = .int .i64 2 ∧ (F 0).isNone = false ∧ (F 1).isNone = false) ∨ (i = .int .i64 3 ∧ (F 0).isNone = false ∧ (F 1).isNone = false ∧ (F 5).isNone = false)) (fun i => 3 - (intOf i).toNat)
  case atStart => exact .inl rfl
  case round =>
    obtain ⟨i0, i1, i2⟩ := three_words { data := #[99] } { data := #[116] } { data := #[112] } w
    rcases hrel with rfl | ⟨rfl, h0⟩ | ⟨rfl, h0, h1⟩ | ⟨rfl, h0, h1, h5⟩
    · rcases (Bool.eq_false_or_eq_true (F 0).isNone).symm with hf | hf
      · have K := Lib.hid (has_lit0 hM.out w rfl)
        rw [hf] at K
        have HF := Lib.hid hf
        clear hf 
        go_wp2_with (go_at_call 58; (with_reducible refine K.out.mono ?_); rintro e w2 ⟨rfl, rfl⟩)
        go_round
        case rel => exact .inr (.inl ⟨rfl, HF.out⟩)
        case measure => simp [intOf]
      · have K := Lib.hid (has_lit0 hM.out w rfl)
        rw [hf] at K
        have HF := Lib.hid hf
        clear hf 
        go_wp2_with (go_at_call 58; (with_reducible refine K.out.mono ?_); rintro e w2 ⟨rfl, rfl⟩)
        exact absurd (HF.out.symm.trans (HQ.out _ (by omega))) (by simp)
    · rcases (Bool.eq_false_or_eq_true (F 1).isNone).symm with hf | hf
      · have K := Lib.hid (has_lit1 hM.out w rfl)
        rw [hf] at K
        have HF := Lib.hid hf
        have H0 := Lib.hid h0
        clear hf h0
        go_wp2_with (go_at_call 58; (with_reducible refine K.out.mono ?_); rintro e w2 ⟨rfl, rfl⟩)
        go_round
        case rel => exact .inr (.inr (.inl ⟨rfl, H0.out, HF.out⟩))
        case measure => simp [intOf]
      · have K := Lib.hid (has_lit1 hM.out w rfl)
        rw [hf] at K
        have HF := Lib.hid hf
        have H0 := Lib.hid h0
        clear hf h0
        go_wp2_with (go_at_call 58; (with_reducible refine K.out.mono ?_); rintro e w2 ⟨rfl, rfl⟩)
        exact absurd (HF.out.symm.trans (HQ.out _ (by omega))) (by simp)
    · rcases (Bool.eq_false_or_eq_true (F 5).isNone).symm with hf | hf
      · have K := Lib.hid (has_lit5 hM.out w rfl)
        rw [hf] at K
        have HF := Lib.hid hf
        have H0 := Lib.hid h0
        have H1 := Lib.hid h1
        clear hf h0 h1
        go_wp2_with (go_at_call 58; (with_reducible refine K.out.mono ?_); rintro e w2 ⟨rfl, rfl⟩)
        go_round
        case rel => exact .inr (.inr (.inr ⟨rfl, H0.out, H1.out, HF.out⟩))
        case measure => simp [intOf]
      · have K := Lib.hid (has_lit5 hM.out w rfl)
        rw [hf] at K
        have HF := Lib.hid hf
        have H0 := Lib.hid h0
        have H1 := Lib.hid h1
        clear hf h0 h1
        go_wp2_with (go_at_call 58; (with_reducible refine K.out.mono ?_); rintro e w2 ⟨rfl, rfl⟩)
        exact absurd (HF.out.symm.trans (HQ.out _ (by omega))) (by simp)
    · clear h0 h1 h5 i0 i1 i2
      go_wp2_with (go_at_call 35; (with_reducible refine T.out.mono ?_); rintro e W ⟨o2, cap2, rfl, hR2, hK2⟩)
      go_ret
      exact ⟨_, _, rfl, hR2.later ((Below.refl _ _).alloc (Nat.le_refl _) _), hK2.later ((Below.refl _ _).alloc (Nat.le_refl _) _)⟩
set_option maxRecDepth 100000 in
set_option maxHeartbeats 2000000 in
theorem ended_on {bm bx br g o cap : Nat} {F : Fl} {x : Tk} {r : List Tk} {w : World} (hR : Rd w br g o cap (x :: r)) (hM : MapF w bm bx F) (hf : full F = true) (hk : x.k ≠ 4) :
    Calls Tryd.prog 38 #[.pointer (some ⟨br, 0, none⟩), .map (some bm)] w (OnPost w) := by
  have hM := Lib.hid hM
  have hR := Lib.hid hR
  have T := Lib.hid (take_no 4 hR.out (by omega))
  have HQ := Lib.hid (full_none hf)
  clear hf hk
  go_enter Tryd.func38, Tryd.ntmps38
  go_wp2
  go_loop [10] (fun i => i = .int .i64 0 ∨ (i = .int .i64 1 ∧ (F 0).isNone = false) ∨ (i = .int .i64 2 ∧ (F 0).isNone = false ∧ (F 1).isNone = false) ∨ (i = .int .i64 3 ∧ (F 0).isNone = false ∧ (F 1).isNone = false ∧ (F 5).isNone = false)) (fun i => 3 - (intOf i).toNat)
  case atStart => exact .inl rfl
  case round =>
    obtain ⟨i0, i1, i2⟩ := three_words { data := #[99] } { data := #[116] } { data := #[112] } w
    rcases hrel with rfl | ⟨rfl, h0⟩ | ⟨rfl, h0, h1⟩ | ⟨rfl, h0, h1, h5⟩
    · rcases (Bool.eq_false_or_eq_true (F 0).isNone).symm with hf | hf
      · have K := Lib.hid (has_lit0 hM.out w rfl)
        rw [hf] at K
        have HF := Lib.hid hf
        clear hf 
        go_wp2_with (go_at_call 58; (with_reducible refine K.out.mono ?_); rintro e w2 ⟨rfl, rfl⟩)
        go_round
        case rel => exact .inr (.inl ⟨rfl, HF.out⟩)
        case measure => simp [intOf]
      · have K := Lib.hid (has_lit0 hM.out w rfl)
        rw [hf] at K
        have HF := Lib.hid hf
        clear hf 
        go_wp2_with (go_at_call 58; (with_reducible refine K.out.mono ?_); rintro e w2 ⟨rfl, rfl⟩)
        exact absurd (HF.out.symm.trans (HQ.out _ (by omega))) (by simp)
    · rcases (Bool.eq_false_or_eq_true (F 1).isNone).symm with hf | hf
      · have K := Lib.hid (has_lit1 hM.out w rfl)
        rw [hf] at K
        have HF := Lib.hid hf
        have H0 := Lib.hid h0
        clear hf h0
        go_wp2_with (go_at_call 58; (with_reducible refine K.out.mono ?_); rintro e w2 ⟨rfl, rfl⟩)
        go_round
        case rel => exact .inr (.inr (.inl ⟨rfl, H0.out, HF.out⟩))
        case measure => simp [intOf]
      · have K := Lib.hid (has_lit1 hM.out w rfl)
        rw [hf] at K
        have HF := Lib.hid hf
        have H0 := Lib.hid h0
        clear hf h0
        go_wp2_with (go_at_call 58; (with_reducible refine K.out.mono ?_); rintro e w2 ⟨rfl, rfl⟩)
        exact absurd (HF.out.symm.trans (HQ.out _ (by omega))) (by simp)
    · rcases (Bool.eq_false_or_eq_true (F 5).isNone).symm with hf | hf
      · have K := Lib.hid (has_lit5 hM.out w rfl)
        rw [hf] at K
        have HF := Lib.hid hf
        have H0 := Lib.hid h0
        have H1 := Lib.hid h1
        clear hf h0 h1
        go_wp2_with (go_at_call 58; (with_reducible refine K.out.mono ?_); rintro e w2 ⟨rfl, rfl⟩)
        go_round
        case rel => exact .inr (.inr (.inr ⟨rfl, H0.out, H1.out, HF.out⟩))
        case measure => simp [intOf]
      · have K := Lib.hid (has_lit5 hM.out w rfl)
        rw [hf] at K
        have HF := Lib.hid hf
        have H0 := Lib.hid h0
        have H1 := Lib.hid h1
        clear hf h0 h1
        go_wp2_with (go_at_call 58; (with_reducible refine K.out.mono ?_); rintro e w2 ⟨rfl, rfl⟩)
        exact absurd (HF.out.symm.trans (HQ.out _ (by omega))) (by simp)
    · clear h0 h1 h5 i0 i1 i2
      go_wp2_with (go_at_call 35; (with_reducible refine T.out.mono ?_); rintro e W ⟨rfl, hB⟩)
      go_ret
      exact ⟨rfl, hB.alloc hB.size _⟩

/-! ### named -/
theorem text_task (t : List UInt8) : ((bs t).toList == [116, 97, 115, 107]) = decide (t = taskW) := by
  rw [Lib.toList_data, bs_toList, Bool.eq_iff_iff]
  simp only [beq_iff_eq, decide_eq_true_eq]
  exact Iff.rfl
def NoName (w : World) (e : Ending) (w' : World) : Prop := e = .returned (.tuple #[.string { data := #[] }, .bool false]) ∧ w = w'
def BadName (br g : Nat) (r : List Tk) (w : World) (e : Ending) (w' : World) : Prop := ∃ o' cap', e = .returned (.tuple #[.string { data := #[] }, .bool false]) ∧ Rd w' br g o' cap' r ∧ Kept [br] w w'
def GoodName (br g : Nat) (t : List UInt8) (r : List Tk) (w : World) (e : Ending) (w' : World) : Prop := ∃ o' cap', e = .returned (.tuple #[.string (bs t), .bool true]) ∧ Rd w' br g o' cap' r ∧ Kept [br] w w'
set_option maxRecDepth 100000 in
set_option maxHeartbeats 2000000 in
theorem named_word {br g o cap : Nat} {x : Tk} {r : List Tk} {w : World} (hR : Rd w br g o cap (x :: r)) (ht : x.t ≠ taskW) :
    Calls Tryd.prog 36 #[.pointer (some ⟨br, 0, none⟩)] w (NoName w) := by
  have c := hR.cell
  have a2 := hR.head.c2
  have hln : (0 : Int) < ((x :: r).length : Int) := by rw [List.length_cons]; omega
  have hw : ((bs x.t).toList == [116, 97, 115, 107]) = false := by rw [text_task]; exact decide_eq_false ht
  generalize (x :: r).length = n at *
  clear hR ht
  go_enter Tryd.func36, Tryd.ntmps36
  go_wp2
  go_ret2
  exact ⟨rfl, rfl⟩
set_option maxRecDepth 100000 in
set_option maxHeartbeats 2000000 in
theorem named_bad {br g o cap : Nat} {x y : Tk} {r : List Tk} {w : World} (hR : Rd w br g o cap (x :: y :: r)) (hx : x.k = 1) (ht : x.t = taskW) (hy : y.k ≠ 1) :
    Calls Tryd.prog 36 #[.pointer (some ⟨br, 0, none⟩)] w (BadName br g (y :: r) w) := by
  have c := hR.cell
  have a2 := hR.head.c2
  have hln : (0 : Int) < ((x :: y :: r).length : Int) := by rw [List.length_cons]; omega
  have hw : ((bs x.t).toList == [116, 97, 115, 107]) = true := by rw [text_task]; exact decide_eq_true ht
  have T := Lib.hid (take_yes 1 hR (by omega))
  generalize (x :: y :: r).length = n at *
  clear hR ht hx
  go_enter Tryd.func36, Tryd.ntmps36
  go_upto_region 4 with (go_at_call 35; (with_reducible refine T.out.mono ?_); rintro e W1 ⟨o2, cap2, rfl, hR2, hK2⟩)
  have T2 := Lib.hid (take_no 1 hR2 (by omega))
  have HR2 := Lib.hid hR2
  have HK2 := Lib.hid hK2
  clear hR2 hK2 c a2 hw hln hy
  go_wp2_with (go_at_call 35; (with_reducible refine T2.out.mono ?_); rintro e W2 ⟨rfl, hB⟩)
  go_ret2
  exact ⟨_, _, rfl, (HR2.out.later hB).later ((Below.refl _ _).alloc (Nat.le_refl _) _), (HK2.out.later hB).later ((Below.refl _ _).alloc (Nat.le_refl _) _)⟩
set_option maxRecDepth 100000 in
set_option maxHeartbeats 2000000 in
theorem named_ok {br g o cap : Nat} {x y : Tk} {r : List Tk} {w : World} (hR : Rd w br g o cap (x :: y :: r)) (hx : x.k = 1) (ht : x.t = taskW) (hy : y.k = 1) :
    Calls Tryd.prog 36 #[.pointer (some ⟨br, 0, none⟩)] w (GoodName br g y.t r w) := by
  have c := hR.cell
  have a2 := hR.head.c2
  have hln : (0 : Int) < ((x :: y :: r).length : Int) := by rw [List.length_cons]; omega
  have hw : ((bs x.t).toList == [116, 97, 115, 107]) = true := by rw [text_task]; exact decide_eq_true ht
  have T := Lib.hid (take_yes 1 hR (by omega))
  generalize (x :: y :: r).length = n at *
  clear hR ht hx
  go_enter Tryd.func36, Tryd.ntmps36
  go_upto_region 4 with (go_at_call 35; (with_reducible refine T.out.mono ?_); rintro e W1 ⟨o2, cap2, rfl, hR2, hK2⟩)
  have T2 := Lib.hid (take_yes 1 hR2 (by omega))
  have HR2 := Lib.hid hR2
  have HK2 := Lib.hid hK2
  clear hR2 hK2 c a2 hw hln hy
  go_wp2_with (go_at_call 35; (with_reducible refine T2.out.mono ?_); rintro e W2 ⟨o3, cap3, rfl, hR3, hK3⟩)
  go_ret2
  exact ⟨_, _, rfl, hR3.later ((Below.refl _ _).alloc (Nat.le_refl _) _), (HK2.out.trans hK3).later ((Below.refl _ _).alloc (Nat.le_refl _) _)⟩

/-! ### field -/
def NoField (w : World) (e : Ending) (w' : World) : Prop := e = .returned (.bool false) ∧ w = w'
def BadField (br g : Nat) (r : List Tk) (w : World) (e : Ending) (w' : World) : Prop := ∃ o' cap', e = .returned (.bool false) ∧ Rd w' br g o' cap' r ∧ Kept [br] w w'
def GoodField (br g bt bx bm : Nat) (nm : List UInt8) (F : Fl) (r : List Tk) (w : World) (e : Ending) (w' : World) : Prop := ∃ o' cap', e = .returned (.bool true) ∧ Rd w' br g o' cap' r ∧ LineSt w' bt bx bm nm F ∧ Kept [br, bt, bm] w w'
set_option maxRecDepth 100000 in
set_option maxHeartbeats 2000000 in
theorem field_no {br g o cap bm bx : Nat} {x : Tk} {r : List Tk} {F : Fl} {w : World} (hR : Rd w br g o cap (x :: r)) (hM : MapF w bm bx F) (hf : ∀ k, fieldIx x.t = some k → (F k).isSome = true) :
    Calls Tryd.prog 39 #[.pointer (some ⟨br, 0, none⟩), .map (some bm)] w (NoField w) := by
  have c := hR.cell
  have a2 := hR.head.c2
  have hln : (0 : Int) < ((x :: r).length : Int) := by rw [List.length_cons]; omega
  have hl := look_not hM hf
  generalize (x :: r).length = n at *
  clear hR hf hM
  go_enter Tryd.func39, Tryd.ntmps39
  go_wp2
  go_ret
  exact ⟨rfl, rfl⟩
set_option maxRecDepth 100000 in
set_option maxHeartbeats 2000000 in
theorem field_eq {br g o cap bm bx k : Nat} {x y : Tk} {r : List Tk} {F : Fl} {w : World} (hR : Rd w br g o cap (x :: y :: r)) (hM : MapF w bm bx F) (hx : x.k = 1) (hf : fieldIx x.t = some k) (hk : (F k).isSome = false) (hy : y.k ≠ 3) :
    Calls Tryd.prog 39 #[.pointer (some ⟨br, 0, none⟩), .map (some bm)] w (BadField br g (y :: r) w) := by
  have c := hR.cell
  have a2 := hR.head.c2
  have hln : (0 : Int) < ((x :: y :: r).length : Int) := by rw [List.length_cons]; omega
  have hl := look_yes hM hf hk
  have T := Lib.hid (take_yes 1 hR (by omega))
  generalize (x :: y :: r).length = n at *
  clear hR hf hM hk hx
  generalize closV bx k = vc at *
  go_enter Tryd.func39, Tryd.ntmps39
  go_upto_region 6 with (go_at_call 35; (with_reducible refine T.out.mono ?_); rintro e W1 ⟨o2, cap2, rfl, hR2, hK2⟩)
  have T2 := Lib.hid (take_no 3 hR2 (by omega))
  have HR2 := Lib.hid hR2
  have HK2 := Lib.hid hK2
  clear hR2 hK2 c a2 hl hln hy
  go_wp2_with (go_at_call 35; (with_reducible refine T2.out.mono ?_); rintro e W2 ⟨rfl, hB⟩)
  go_ret
  exact ⟨_, _, rfl, (HR2.out.later hB).later ((Below.refl _ _).alloc (Nat.le_refl _) _), (HK2.out.later hB).later ((Below.refl _ _).alloc (Nat.le_refl _) _)⟩
set_option maxRecDepth 100000 in
set_option maxHeartbeats 2000000 in
theorem field_num {br g o cap bm bx k : Nat} {x y z : Tk} {r : List Tk} {F : Fl} {w : World} (hR : Rd w br g o cap (x :: y :: z :: r)) (hM : MapF w bm bx F) (hx : x.k = 1) (hf : fieldIx x.t = some k) (hk : (F k).isSome = false) (hy : y.k = 3) (hz : z.k ≠ 2) :
    Calls Tryd.prog 39 #[.pointer (some ⟨br, 0, none⟩), .map (some bm)] w (BadField br g (z :: r) w) := by
  have c := hR.cell
  have a2 := hR.head.c2
  have hln : (0 : Int) < ((x :: y :: z :: r).length : Int) := by rw [List.length_cons]; omega
  have hl := look_yes hM hf hk
  have T := Lib.hid (take_yes 1 hR (by omega))
  generalize (x :: y :: z :: r).length = n at *
  clear hR hf hM hk hx
  generalize closV bx k = vc at *
  go_enter Tryd.func39, Tryd.ntmps39
  go_upto_region 6 with (go_at_call 35; (with_reducible refine T.out.mono ?_); rintro e W1 ⟨o2, cap2, rfl, hR2, hK2⟩)
  have T2 := Lib.hid (take_yes 3 hR2 (by omega))
  have HK2 := Lib.hid hK2
  clear hR2 hK2 c a2 hl hln hy
  go_upto_region 9 with (go_at_call 35; (with_reducible refine T2.out.mono ?_); rintro e W2 ⟨o3, cap3, rfl, hR3, hK3⟩)
  have hR3' := hR3.later ((Below.refl _ _).alloc (Nat.le_refl _) (.cells (tkC y) 65))
  have T3 := Lib.hid (take_no 2 hR3' (by omega))
  have HR3 := Lib.hid hR3'
  have HK3 := Lib.hid ((HK2.out.trans hK3).later ((Below.refl _ _).alloc (Nat.le_refl _) (.cells (tkC y) 65)))
  clear hR3 hR3' hK3 hz
  go_wp2_with (go_at_call 35; (with_reducible refine T3.out.mono ?_); rintro e W3 ⟨rfl, hB⟩)
  go_ret
  exact ⟨_, _, rfl, (HR3.out.later hB).later ((Below.refl _ _).alloc (Nat.le_refl _) _), (HK3.out.later hB).later ((Below.refl _ _).alloc (Nat.le_refl _) _)⟩
/-- The reader's blocks, and a line's, are all of them others. -/
structure Apart (br g bt bx bm : Nat) : Prop where
  a1 : br ≠ bt
  a2 : br ≠ bx
  a3 : br ≠ bm
  a4 : g ≠ bt
  a5 : g ≠ bx
  a6 : g ≠ bm
  a7 : bt ≠ bx
  a8 : bt ≠ bm
  a9 : bx ≠ bm
  a0 : g ≠ br
theorem enters_fn {P : Program} {f : FuncId} {fn : Func} {c : Code} (hf : P.funcs[f]? = some fn) (hname : (fn.name == "runtime.NumGoroutine") = false) (hb : fn.body = some c) (args : Array Value) (w : World) :
    (callFunc f args).run P w = .ok (.enter f args) w := by
  have h1 : fn.name ≠ "runtime.NumGoroutine" := by simpa using hname
  simp [callFunc, hf, h1, hb]
theorem call_fid {k : Nat} (hk : k < 6) (args : Array Value) (W : World) : (callFunc (fid k) args).run Tryd.prog W = .ok (.enter (fid k) args) W := by
  rcases (by omega : k = 0 ∨ k = 1 ∨ k = 2 ∨ k = 3 ∨ k = 4 ∨ k = 5) with rfl | rfl | rfl | rfl | rfl | rfl
  · exact enters_fn Tryd.func52 (by kernel_rfl) rfl args W
  · exact enters_fn Tryd.func53 (by kernel_rfl) rfl args W
  · exact enters_fn Tryd.func54 (by kernel_rfl) rfl args W
  · exact enters_fn Tryd.func55 (by kernel_rfl) rfl args W
  · exact enters_fn Tryd.func56 (by kernel_rfl) rfl args W
  · exact enters_fn Tryd.func57 (by kernel_rfl) rfl args W
theorem field_end {br g o cap bt bx bm k : Nat} {nm t : List UInt8} {r : List Tk} {F : Fl} {z : Tk} {w W : World} (hA : Apart br g bt bx bm) (hR : Rd W br g o cap r) (hL : LineSt W bt bx bm nm F) (hK : Kept [br] w W) (hf : fieldIx t = some k) (hk : (F k).isSome = false) :
    ∃ ob, (∀ ty, (Builtin.delete_ #[82, 9] ty #[.map (some bm), .string (bs t)]).run Tryd.prog (W.setCell ⟨bt, k + 1, none⟩ (.int .i64 (z.n : Int))) = .ok (.tuple #[]) ((W.setCell ⟨bt, k + 1, none⟩ (.int .i64 (z.n : Int))).putObj bm ob)) ∧
      Rd ((W.setCell ⟨bt, k + 1, none⟩ (.int .i64 (z.n : Int))).putObj bm ob) br g o cap r ∧ LineSt ((W.setCell ⟨bt, k + 1, none⟩ (.int .i64 (z.n : Int))).putObj bm ob) bt bx bm nm (fset F k z.n) ∧
      Kept [br, bt, bm] w ((W.setCell ⟨bt, k + 1, none⟩ (.int .i64 (z.n : Int))).putObj bm ob) := by
  obtain ⟨h6, _⟩ := fieldIx_some hf
  have k1 : Kept [bt, bm] W (W.setCell ⟨bt, k + 1, none⟩ (.int .i64 (z.n : Int))) := (Kept.refl [bt, bm] W).set bt (k + 1) (.int .i64 (z.n : Int)) (by simp)
  have m1 : MapF (W.setCell ⟨bt, k + 1, none⟩ (.int .i64 (z.n : Int))) bm bx F := hL.map.kept ((Kept.refl [bt] W).set bt (k + 1) (.int .i64 (z.n : Int)) (by simp)) (by simp; exact hA.a8.symm)
  obtain ⟨ob, hrun, hm⟩ := drop_word m1 hf hk z.n
  have k2 := k1.put bm ob (by simp)
  refine ⟨ob, hrun, hR.kept k2 (by simp; exact ⟨hA.a1, hA.a3⟩) (by simp; exact ⟨hA.a4, hA.a6⟩), hL.next h6 hA.a7 hA.a8 hA.a9 hm, (hK.mono (by simp)).trans (k2.mono (by simp))⟩
set_option maxRecDepth 100000 in
set_option maxHeartbeats 2000000 in
theorem field_ok {br g o cap bt bx bm k : Nat} {nm : List UInt8} {x y z : Tk} {r : List Tk} {F : Fl} {w : World} (hA : Apart br g bt bx bm) (hR : Rd w br g o cap (x :: y :: z :: r)) (hL : LineSt w bt bx bm nm F) (hx : x.k = 1) (hf : fieldIx x.t = some k) (hk : (F k).isSome = false) (hy : y.k = 3) (hz : z.k = 2) :
    Calls Tryd.prog 39 #[.pointer (some ⟨br, 0, none⟩), .map (some bm)] w (GoodField br g bt bx bm nm (fset F k z.n) r w) := by
  have c := hR.cell
  have a2 := hR.head.c2
  have hln : (0 : Int) < ((x :: y :: z :: r).length : Int) := by rw [List.length_cons]; omega
  have hl := look_yes hL.map hf hk
  have hcv : closV bx k = .func (.func (fid k)) #[] #[.pointer (some ⟨bx, 0, none⟩)] := rfl
  have T := Lib.hid (take_yes 1 hR (by omega))
  have HL := Lib.hid hL
  have HA := Lib.hid hA
  have hf6 := (fieldIx_some hf).1
  have HF := Lib.hid hf
  have HK := Lib.hid hk
  rw [hcv] at hl
  generalize (x :: y :: z :: r).length = n at *
  clear hR hf hL hk hx hA hcv
  go_enter Tryd.func39, Tryd.ntmps39
  go_upto_region 6 with (go_at_call 35; (with_reducible refine T.out.mono ?_); rintro e W1 ⟨o2, cap2, rfl, hR2, hK2⟩)
  have T2 := Lib.hid (take_yes 3 hR2 (by omega))
  have HK2 := Lib.hid hK2
  clear hR2 hK2 c a2 hl hln hy
  go_upto_region 9 with (go_at_call 35; (with_reducible refine T2.out.mono ?_); rintro e W2 ⟨o3, cap3, rfl, hR3, hK3⟩)
  have hR3' := hR3.later ((Below.refl _ _).alloc (Nat.le_refl _) (.cells (tkC y) 65))
  have T3 := Lib.hid (take_yes 2 hR3' (by omega))
  have HR3 := Lib.hid hR3'
  have HK3 := Lib.hid ((HK2.out.trans hK3).later ((Below.refl _ _).alloc (Nat.le_refl _) (.cells (tkC y) 65)))
  clear hR3 hR3' hK3 hz
  go_upto_region 12 with (go_at_call 35; (with_reducible refine T3.out.mono ?_); rintro e W3 ⟨o4, cap4, rfl, hR4, hK4⟩)
  obtain ⟨W4, hW4, R4, K4, T4⟩ : ∃ W4, W3.alloc (.cells #[.int .i64 (z.k : Int), .int .i64 (z.at' : Int), .string (bs z.t), .int .i64 (z.n : Int)] 65) = W4 ∧ Rd W4 br g o4 cap4 r ∧ Kept [br] w W4 ∧ TB W4 W3.heap.size z :=
    ⟨_, rfl, hR4.later ((Below.refl _ _).alloc (Nat.le_refl _) _), (HK3.out.trans hK4).later ((Below.refl _ _).alloc (Nat.le_refl _) _), TB.new W3 z⟩
  rw [hW4]
  have L4 := HL.out.kept K4 (by simp; exact HA.out.a1.symm) (by simp; exact HA.out.a2.symm) (by simp; exact HA.out.a3.symm)
  have C4 := Lib.hid (clos_any (z.n : Int) L4 hf6)
  have hcf := fun args W => call_fid hf6 args W
  obtain ⟨ob, hrun, R5, L5, K5⟩ := field_end (z := z) HA.out R4 L4 K4 HF.out HK.out
  have d3 := T4.c3
  have R5 := Lib.hid R5
  have L5 := Lib.hid L5
  have K5 := Lib.hid K5
  clear hW4 R4 K4 T4 L4 hR4 hK4
  go_wp2_with ((with_reducible refine C4.out.mono ?_); rintro e W5 ⟨rfl, rfl⟩)
  go_ret
  exact ⟨_, _, rfl, R5.out, L5.out, K5.out⟩

/-! ### fill -/
def FillPost (bt : Nat) (x : Ts) (w : World) (e : Ending) (w' : World) : Prop := e = .returned (.tuple #[]) ∧ w'.heap[bt]? = some (.cells (tsL x).toArray 29 (0, 0)) ∧ Kept [bt] w w'
set_option maxRecDepth 100000 in
set_option maxHeartbeats 2000000 in
theorem fill_any {bt bx bm : Nat} {nm : List UInt8} {F : Fl} {w : World} (hL : LineSt w bt bx bm nm F) (htm : bt ≠ bm) :
    Calls Tryd.prog 40 #[.pointer (some ⟨bt, 0, none⟩), .map (some bm)] w (FillPost bt (taskOf nm F) w) := by
  have HT := Lib.hid hL.task
  have c2 := hL.tcell 2
  have c3 := hL.tcell 3
  have c5 := hL.tcell 5
  have f3 := hL.tfr 3
  have f5 := hL.tfr 5
  have HM := Lib.hid hL.map
  have HM2 : ∀ v, MapF (w.setCell ⟨bt, 3, none⟩ v) bm bx F := fun v => hL.map.kept ((Kept.refl [bt] w).set bt 3 v (by simp)) (by simp; exact htm.symm)
  have HM2 := Lib.hid HM2
  have HK := Lib.hid (Kept.refl [bt] w)
  simp only [tsL, partT, List.getElem?_cons_succ, List.getElem?_cons_zero] at c2 c3 c5
  have K0 := Lib.hid (has_lit2 HM.out w rfl)
  have K1 := Lib.hid (has_lit4 HM.out w rfl)
  have K2 := Lib.hid (has_lit4 (HM2.out (.int .i64 (fv F 1))) _ rfl)
  clear hL HM HM2
  rcases (Bool.eq_false_or_eq_true (F 2).isNone).symm with h2 | h2 <;> rcases (Bool.eq_false_or_eq_true (F 4).isNone).symm with h4 | h4
  all_goals
    rw [h2] at K0
    rw [h4] at K1 K2
    have H2 := Lib.hid h2
    have H4 := Lib.hid h4
    clear h2 h4
    go_enter Tryd.func40, Tryd.ntmps40
    go_wp2_with (first
      | (go_at_call 58; (with_reducible refine K0.out.mono ?_); rintro e W2 ⟨rfl, rfl⟩)
      | (go_at_call 58; (with_reducible refine K1.out.mono ?_); rintro e W2 ⟨rfl, rfl⟩)
      | (go_at_call 58; (with_reducible refine K2.out.mono ?_); rintro e W2 ⟨rfl, rfl⟩))
  · exact bodyPost_ret (v := .tuple #[]) (by simp [results, Tryd.results40, go_sem]) rfl ⟨rfl, by rw [HT.out]; simp [tsL, partT, taskOf, H2.out, H4.out], HK.out⟩
  · exact bodyPost_ret (v := .tuple #[]) (by simp [results, Tryd.results40, go_sem]) rfl ⟨rfl, by rw [heap_setCell_same _ bt 5 _ _ _ HT.out]; simp [tsL, partT, taskOf, H2.out, H4.out], HK.out.set bt 5 _ (by simp)⟩
  · exact bodyPost_ret (v := .tuple #[]) (by simp [results, Tryd.results40, go_sem]) rfl ⟨rfl, by rw [heap_setCell_same _ bt 3 _ _ _ HT.out]; simp [tsL, partT, taskOf, H2.out, H4.out], HK.out.set bt 3 _ (by simp)⟩
  · exact bodyPost_ret (v := .tuple #[]) (by simp [results, Tryd.results40, go_sem]) rfl ⟨rfl, by rw [heap_setCell_same _ bt 5 _ _ _ (heap_setCell_same _ bt 3 _ _ _ HT.out)]; simp [tsL, partT, taskOf, H2.out, H4.out], (HK.out.set bt 3 _ (by simp)).set bt 5 _ (by simp)⟩
end Go.Proofs.YtlelnoalajeihaaDoor
