/- Over; and what is told of a sum. -/
import Derived.Test.YtghijgpelkjohaaLRsu
import Derived.Test.YtghijgpelkjohaaLRcm
namespace Go.Proofs.Ytghijgpelkjohaa
open Go.RowKit
set_option linter.unusedVariables false
set_option linter.unusedSimpArgs false
theorem sumO_w : ∀ (l : List Ts) (s f : Fr), FrW s → 0 < s.d → (∀ x ∈ l, TsW x) → anyNo l = false → sumO s l = some f → FrW f ∧ 0 < f.d
  | [], s, f, hs, hd, _, _, h => by rw [sumO] at h; cases h; exact ⟨hs, hd⟩
  | x :: l, s, f, hs, hd, hw, hn, h => by
    have hx := hw x (by simp)
    have hno : noF x.c x.t = false := no_at (l := x :: l) (k := 0) hn rfl
    have hnl : anyNo l = false := by
      unfold anyNo at hn ⊢
      rw [List.any_cons, hno, Bool.false_or] at hn
      exact hn
    rw [sumO] at h
    by_cases ho : okF s (ofF x.c x.t) = true
    · rw [if_pos ho] at h
      have hp := plusF_w hs (ofF_w hx.c hx.t) hd (ofF_d hx.c hx.t hno) ho
      exact sumO_w l _ f hp.1 hp.2 (fun y hy => hw y (by simp [hy])) hnl h
    · rw [if_neg ho] at h; cases h
theorem one_w : FrW ⟨0, 1⟩ := ⟨⟨by decide, by decide⟩, ⟨by decide, by decide⟩⟩
/-- A sum: an error, and none, or a fraction. -/
theorem sum_cases (l : List Ts) (hw : ∀ x ∈ l, TsW x) : (sumE l = 0 ∧ FrW (sumF l) ∧ 0 < (sumF l).d ∧ anyNo l = false ∧ sumO ⟨0, 1⟩ l = some (sumF l)) ∨ (sumE l = 1 ∧ sumF l = ⟨0, 0⟩ ∧ anyNo l = true) ∨ (sumE l = 17 ∧ sumF l = ⟨0, 0⟩ ∧ anyNo l = false ∧ sumO ⟨0, 1⟩ l = none) := by
  cases hn : anyNo l
  · cases ho : sumO ⟨0, 1⟩ l with
    | none => have := sumE_none hn ho; exact .inr (.inr ⟨this.2, this.1, rfl, rfl⟩)
    | some f =>
      have h := sumE_some hn ho
      have hf := sumO_w l _ f one_w (by decide) hw hn ho
      rw [h.1, h.2]
      exact .inl ⟨rfl, hf.1, hf.2, rfl, rfl⟩
  · have := sum_no_pure hn
    exact .inr (.inl ⟨this.2, this.1, rfl⟩)
theorem sumF_w (l : List Ts) (hw : ∀ x ∈ l, TsW x) : FrW (sumF l) := by
  have z : FrW ⟨0, 0⟩ := ⟨⟨by decide, by decide⟩, ⟨by decide, by decide⟩⟩
  rcases sum_cases l hw with h | h | h
  · exact h.2.1
  · rw [h.2.1]; exact z
  · rw [h.2.1]; exact z
/-- Is it more than 1? -/
def overB (l : List Ts) : Bool := decide (sumE l = 0) && decide (cmpF (sumF l) ⟨1, 1⟩ > 0)
theorem over_is (l : List Ts) (hw : ∀ x ∈ l, TsW x) : overB l = (decide (sumE l = 0) && decide ((sumF l).n > (sumF l).d)) := by
  unfold overB
  rcases sum_cases l hw with h | h | h
  · have hd := h.2.2.1
    have : cmpF (sumF l) ⟨1, 1⟩ = cmpI (sumF l).n (sumF l).d := by
      rw [cmpF_pos hd (by decide)]
      simp only [Int.mul_one, Int.one_mul]
    rw [this]
    congr 1
    unfold cmpI
    by_cases h1 : (sumF l).n < (sumF l).d
    · rw [if_pos h1]; simp; omega
    · by_cases h2 : (sumF l).n > (sumF l).d
      · rw [if_neg h1, if_pos h2]; simp; omega
      · rw [if_neg h1, if_neg h2]; simp; omega
  · rw [h.1]; rfl
  · rw [h.1]; rfl
theorem ret_be {a b : Bool} {k : Int} (h : a = b) : Ending.returned (.tuple #[.bool a, .int .i64 k]) = .returned (.tuple #[.bool b, .int .i64 k]) := by rw [h]
set_option maxRecDepth 100000 in
set_option maxHeartbeats 4000000 in
theorem over_any (A : Option Addr) (cap : Nat) (l : List Ts) (w : World) (hR : Row w A cap l) :
    Calls Try.prog 21 #[.slice A l.length cap] w fun e w' => e = .returned (.tuple #[.bool (overB l), .int .i64 (sumE l)]) ∧ Below w.heap.size w w' := by
  have K := Lib.hid (sum_any A cap l w hR)
  have hw := sumF_w l hR.wf
  have KC := Lib.hid (fun W => compare_any (sumF l) ⟨1, 1⟩ hw ⟨⟨by decide, by decide⟩, ⟨by decide, by decide⟩⟩ W)
  have HO : Hid (overB l = (decide (sumE l = 0) && decide (cmpF (sumF l) ⟨1, 1⟩ > 0))) := Lib.hid rfl
  generalize overB l = ob at *
  generalize cmpF (sumF l) ⟨1, 1⟩ = c at *
  generalize sumE l = se at *
  generalize sumF l = sf at *
  generalize l.length = N at *
  obtain ⟨sn, sd⟩ := sf
  clear hR hw
  by_cases hs : se = 0
  · subst hs
    go_enter Try.func21, Try.ntmps21
    go_wp2_with (first
      | (go_at_call 17; (with_reducible refine K.out.mono ?_); rintro e w1 ⟨rfl, h1⟩)
      | (go_at_call 14; (with_reducible refine (KC.out _).mono ?_); rintro e w2 ⟨rfl, h2⟩)
      | fail)
    go_ret2
    exact ⟨ret_be (by rw [HO.out]; simp), h1.trans ((((Below.refl _ _).alloc (Nat.le_refl _) _).trans (h2.mono (by simp))).mono h1.size)⟩
  · have hs' : (se != 0) = true := by simpa using hs
    have HO2 : Hid (ob = false) := Lib.hid (by rw [HO.out, decide_eq_false hs]; rfl)
    go_enter Try.func21, Try.ntmps21
    go_wp2_with (first
      | (go_at_call 17; (with_reducible refine K.out.mono ?_); rintro e w1 ⟨rfl, h1⟩)
      | fail)
    go_ret2
    exact ⟨ret_be (by rw [HO2.out]), h1.trans (((Below.refl _ _).alloc (Nat.le_refl _) _).mono h1.size)⟩
end Go.Proofs.Ytghijgpelkjohaa
