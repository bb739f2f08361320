/- The document's last. -/
import Derived.Test.YtngmaiiibinkaaaJArr
namespace Go.Proofs.Ytngmaiiibinkaaa
open Go.RowKit
set_option linter.unusedVariables false
set_option linter.unusedSimpArgs false

def LastIs (js : List Fv) (t r : Int) : Prop := (r = -1 ∧ lastT js t = none) ∨ ∃ (i : Nat) (x : Fv), r = (i : Int) ∧ js[i]? = some x ∧ lastT js t = some x
set_option maxRecDepth 100000 in
set_option maxHeartbeats 2000000 in
theorem last_any (A : Option Addr) (cap : Nat) (js : List Fv) (t : Int) (w : World) (hR : FRow w A cap js) :
    Calls Try.prog 16 #[.slice A js.length cap, .int .i64 t] w fun e w' => ∃ r, e = .returned (.int .i64 r) ∧ LastIs js t r ∧ w = w' := by
  have hle := hR.le
  have hmx := hR.mx
  have ROW := Lib.hid hR
  clear hR
  have HS : Hid (lastT js t = lastT (js.take js.length) t) := Lib.hid (by rw [List.take_length])
  go_enter Try.func16, Try.ntmps16
  go_wp2
  go_loopw [5] (fun i wr => ∃ m : Nat, m ≤ js.length ∧ i = .int .i64 ((m : Int) - 1) ∧ wr = w ∧ Hid (lastT js t = lastT (js.take m) t)) (fun i _ => (intOf i + 1).toNat)
  case atStart => exact ⟨js.length, Nat.le_refl _, rfl, rfl, HS⟩
  case round =>
    obtain ⟨m, hm, rfl, rfl, hq⟩ := hrel
    cases m with
    | zero =>
      have t0 : decide (((0 : Nat) : Int) - 1 ≥ 0) = false := decide_eq_false (by omega)
      go_wp2
      go_ret
      exact ⟨-1, rfl, .inl ⟨rfl, by rw [hq.out]; rfl⟩, rfl⟩
    | succ k =>
      obtain ⟨b, o, x, C, cc, rfl, hx, hbl, hF⟩ := ROW.out.get (k := k) (by omega)
      have e1 : ((k + 1 : Nat) : Int) - 1 = (k : Int) := by omega
      rw [e1]
      have c0 := hF.c0
      have hi0 : (0 : Int) ≤ (k : Int) := by omega
      have hi1 : (k : Int) < (js.length : Int) := by omega
      have HX := Lib.hid hx
      have HQ : Hid (lastT js t = if x.t = t then some x else lastT (js.take k) t) := Lib.hid (by rw [hq.out, take_one hx, lastT_snoc])
      clear hF hx e1 hq
      by_cases ht : x.t = t
      · have tb : (x.t == t) = true := by simpa using ht
        have HT := Lib.hid ht
        clear ht
        go_wp2
        go_ret
        exact ⟨k, rfl, .inr ⟨k, x, rfl, HX.out, by rw [HQ.out, if_pos HT.out]⟩, rfl⟩
      · have tb : (x.t == t) = false := by rw [beq_eq_false_iff_ne]; exact ht
        have HT := Lib.hid ht
        clear ht
        go_wp2
        go_roundw
        case rel => exact ⟨k, by omega, by go_num, trivial, Lib.hid (by rw [HQ.out, if_neg HT.out])⟩
        case measure => simp [intOf]
end Go.Proofs.Ytngmaiiibinkaaa
