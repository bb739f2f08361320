/- The document's field: which one a word names. -/
import Derived.Test.YtlelnoalajeihaaRRd
import Derived.Test.YtlelnoalajeihaaPars
namespace Go.Proofs.Ytlelnoalajeihaa
open Go.RowKit
set_option linter.unusedVariables false
set_option linter.unusedSimpArgs false

def fieldI (t : List UInt8) : Int := match fieldIx t with | some k => (k : Int) | none => -1
theorem fieldI_some {t : List UInt8} {k : Nat} (h : fieldIx t = some k) : fieldI t = k := by rw [fieldI, h]
theorem fieldI_none {t : List UInt8} (h : fieldIx t = none) : fieldI t = -1 := by rw [fieldI, h]
theorem word_test (t : List UInt8) (c : UInt8) : ((bs t).toList == [c]) = decide (t = [c]) := by
  rw [Lib.toList_data, bs_toList, Bool.eq_iff_iff]
  simp only [beq_iff_eq, decide_eq_true_eq]
set_option maxRecDepth 100000 in
set_option maxHeartbeats 2000000 in
theorem rfield_any (t : List UInt8) (w : World) : Calls Try.prog 45 #[.string (bs t)] w fun e w' => e = .returned (.int .i64 (fieldI t)) ∧ w = w' := by
  have hW := fun c => word_test t c
  have q0 := hW 99
  have q1 := hW 116
  have q2 := hW 100
  have q3 := hW 106
  have q4 := hW 113
  have q5 := hW 112
  clear hW
  have e0 : ({ data := #[99, 116, 100, 106, 113, 112] } : ByteArray).extract 0 1 = { data := #[99] } := by kernel_rfl
  have e1 : ({ data := #[99, 116, 100, 106, 113, 112] } : ByteArray).extract 1 2 = { data := #[116] } := by kernel_rfl
  have e2 : ({ data := #[99, 116, 100, 106, 113, 112] } : ByteArray).extract 2 3 = { data := #[100] } := by kernel_rfl
  have e3 : ({ data := #[99, 116, 100, 106, 113, 112] } : ByteArray).extract 3 4 = { data := #[106] } := by kernel_rfl
  have e4 : ({ data := #[99, 116, 100, 106, 113, 112] } : ByteArray).extract 4 5 = { data := #[113] } := by kernel_rfl
  have e5 : ({ data := #[99, 116, 100, 106, 113, 112] } : ByteArray).extract 5 6 = { data := #[112] } := by kernel_rfl
  generalize hs : bs t = s at *
  have HS := Lib.hid hs
  clear hs
  go_enter Try.func45, Try.ntmps45
  go_wp2
  go_loop [4] (fun i => (i = .int .i64 0) ∨ (i = .int .i64 1 ∧ t ≠ [99]) ∨ (i = .int .i64 2 ∧ t ≠ [99] ∧ t ≠ [116]) ∨ (i = .int .i64 3 ∧ t ≠ [99] ∧ t ≠ [116] ∧ t ≠ [100]) ∨ (i = .int .i64 4 ∧ t ≠ [99] ∧ t ≠ [116] ∧ t ≠ [100] ∧ t ≠ [106]) ∨ (i = .int .i64 5 ∧ t ≠ [99] ∧ t ≠ [116] ∧ t ≠ [100] ∧ t ≠ [106] ∧ t ≠ [113]) ∨ (i = .int .i64 6 ∧ t ≠ [99] ∧ t ≠ [116] ∧ t ≠ [100] ∧ t ≠ [106] ∧ t ≠ [113] ∧ t ≠ [112])) (fun i => 6 - (intOf i).toNat)
  case atStart => exact .inl rfl
  case round =>
    rcases hrel with rfl | ⟨rfl, n0⟩ | ⟨rfl, n0, n1⟩ | ⟨rfl, n0, n1, n2⟩ | ⟨rfl, n0, n1, n2, n3⟩ | ⟨rfl, n0, n1, n2, n3, n4⟩ | ⟨rfl, n0, n1, n2, n3, n4, n5⟩
    · by_cases h : t = [99]
      · have hq : (s.toList == [99]) = true := by rw [q0]; exact decide_eq_true h
        have HF := Lib.hid (fieldI_some (t := t) (k := 0) (by rw [h]; rfl))
        clear h q0 q1 q2 q3 q4 q5 
        go_wp2
        go_ret
        exact ⟨by rw [HF.out]; rfl, rfl⟩
      · have hq : (s.toList == [99]) = false := by rw [q0]; exact decide_eq_false h
        have H := Lib.hid h
        clear h q0 q1 q2 q3 q4 q5 
        go_wp2
        go_round
        case rel => exact .inr (.inl (⟨rfl, H.out⟩))
        case measure => simp [intOf]
    · by_cases h : t = [116]
      · have hq : (s.toList == [116]) = true := by rw [q1]; exact decide_eq_true h
        have HF := Lib.hid (fieldI_some (t := t) (k := 1) (by rw [h]; rfl))
        clear h q0 q1 q2 q3 q4 q5 n0
        go_wp2
        go_ret
        exact ⟨by rw [HF.out]; rfl, rfl⟩
      · have hq : (s.toList == [116]) = false := by rw [q1]; exact decide_eq_false h
        have H := Lib.hid h
        have N0 := Lib.hid n0
        clear h q0 q1 q2 q3 q4 q5 n0
        go_wp2
        go_round
        case rel => exact .inr (.inr (.inl (⟨rfl, N0.out, H.out⟩)))
        case measure => simp [intOf]
    · by_cases h : t = [100]
      · have hq : (s.toList == [100]) = true := by rw [q2]; exact decide_eq_true h
        have HF := Lib.hid (fieldI_some (t := t) (k := 2) (by rw [h]; rfl))
        clear h q0 q1 q2 q3 q4 q5 n0 n1
        go_wp2
        go_ret
        exact ⟨by rw [HF.out]; rfl, rfl⟩
      · have hq : (s.toList == [100]) = false := by rw [q2]; exact decide_eq_false h
        have H := Lib.hid h
        have N0 := Lib.hid n0
        have N1 := Lib.hid n1
        clear h q0 q1 q2 q3 q4 q5 n0 n1
        go_wp2
        go_round
        case rel => exact .inr (.inr (.inr (.inl (⟨rfl, N0.out, N1.out, H.out⟩))))
        case measure => simp [intOf]
    · by_cases h : t = [106]
      · have hq : (s.toList == [106]) = true := by rw [q3]; exact decide_eq_true h
        have HF := Lib.hid (fieldI_some (t := t) (k := 3) (by rw [h]; rfl))
        clear h q0 q1 q2 q3 q4 q5 n0 n1 n2
        go_wp2
        go_ret
        exact ⟨by rw [HF.out]; rfl, rfl⟩
      · have hq : (s.toList == [106]) = false := by rw [q3]; exact decide_eq_false h
        have H := Lib.hid h
        have N0 := Lib.hid n0
        have N1 := Lib.hid n1
        have N2 := Lib.hid n2
        clear h q0 q1 q2 q3 q4 q5 n0 n1 n2
        go_wp2
        go_round
        case rel => exact .inr (.inr (.inr (.inr (.inl (⟨rfl, N0.out, N1.out, N2.out, H.out⟩)))))
        case measure => simp [intOf]
    · by_cases h : t = [113]
      · have hq : (s.toList == [113]) = true := by rw [q4]; exact decide_eq_true h
        have HF := Lib.hid (fieldI_some (t := t) (k := 4) (by rw [h]; rfl))
        clear h q0 q1 q2 q3 q4 q5 n0 n1 n2 n3
        go_wp2
        go_ret
        exact ⟨by rw [HF.out]; rfl, rfl⟩
      · have hq : (s.toList == [113]) = false := by rw [q4]; exact decide_eq_false h
        have H := Lib.hid h
        have N0 := Lib.hid n0
        have N1 := Lib.hid n1
        have N2 := Lib.hid n2
        have N3 := Lib.hid n3
        clear h q0 q1 q2 q3 q4 q5 n0 n1 n2 n3
        go_wp2
        go_round
        case rel => exact .inr (.inr (.inr (.inr (.inr (.inl (⟨rfl, N0.out, N1.out, N2.out, N3.out, H.out⟩))))))
        case measure => simp [intOf]
    · by_cases h : t = [112]
      · have hq : (s.toList == [112]) = true := by rw [q5]; exact decide_eq_true h
        have HF := Lib.hid (fieldI_some (t := t) (k := 5) (by rw [h]; rfl))
        clear h q0 q1 q2 q3 q4 q5 n0 n1 n2 n3 n4
        go_wp2
        go_ret
        exact ⟨by rw [HF.out]; rfl, rfl⟩
      · have hq : (s.toList == [112]) = false := by rw [q5]; exact decide_eq_false h
        have H := Lib.hid h
        have N0 := Lib.hid n0
        have N1 := Lib.hid n1
        have N2 := Lib.hid n2
        have N3 := Lib.hid n3
        have N4 := Lib.hid n4
        clear h q0 q1 q2 q3 q4 q5 n0 n1 n2 n3 n4
        go_wp2
        go_round
        case rel => exact .inr (.inr (.inr (.inr (.inr (.inr (⟨rfl, N0.out, N1.out, N2.out, N3.out, N4.out, H.out⟩))))))
        case measure => simp [intOf]
    · have HF := Lib.hid (fieldI_none (t := t) (by rw [fieldIx, if_neg n0, if_neg n1, if_neg n2, if_neg n3, if_neg n4, if_neg n5]))
      clear n0 n1 n2 n3 n4 n5 q0 q1 q2 q3 q4 q5
      go_wp2
      go_ret
      exact ⟨by rw [HF.out]; rfl, rfl⟩
end Go.Proofs.Ytlelnoalajeihaa
