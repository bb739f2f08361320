/- Digits and their number. -/
import Derived.Test.YtpnngicglgceaaaConv
namespace Go.Proofs.Ytpnngicglgceaaa
open Go.RowKit
set_option linter.unusedVariables false

def valOf (l : List UInt8) : Nat := l.foldl (fun n c => n * 10 + (c.toNat - 48)) 0
theorem val_from : ∀ (l : List UInt8) (a : Nat), l.foldl (fun n c => n * 10 + (c.toNat - 48)) a = a * 10 ^ l.length + valOf l
  | [], a => by simp [valOf]
  | c :: l, a => by
    have h1 := val_from l (a * 10 + (c.toNat - 48))
    have h2 := val_from l (0 * 10 + (c.toNat - 48))
    have h3 : valOf (c :: l) = (0 * 10 + (c.toNat - 48)) * 10 ^ l.length + valOf l := h2
    rw [List.foldl_cons, h1, h3, List.length_cons, Nat.pow_succ, Nat.add_mul, Nat.zero_mul, Nat.zero_add, Nat.mul_assoc, Nat.mul_comm 10 (10 ^ l.length)]
    omega
theorem val_cons (c : UInt8) (l : List UInt8) : valOf (c :: l) = (c.toNat - 48) * 10 ^ l.length + valOf l := by
  have := val_from l (0 * 10 + (c.toNat - 48))
  rw [Nat.zero_mul, Nat.zero_add] at this
  rw [← this]
  simp [valOf]
theorem num_from : ∀ (l : List UInt8) (a : Nat), l.foldl (fun n c => min (n * 10 + (c.toNat - 48)) 1099511627776) (min a 1099511627776) = min (l.foldl (fun n c => n * 10 + (c.toNat - 48)) a) 1099511627776
  | [], a => rfl
  | c :: l, a => by
    have h : min (min a 1099511627776 * 10 + (c.toNat - 48)) 1099511627776 = min (a * 10 + (c.toNat - 48)) 1099511627776 := by omega
    rw [List.foldl_cons, List.foldl_cons, h]
    exact num_from l _
theorem num_val (l : List UInt8) : numOf l = min (valOf l) 1099511627776 := num_from l 0
theorem val_zeros (l : List UInt8) : ∀ k, valOf (List.replicate k 48 ++ l) = valOf l
  | 0 => rfl
  | k + 1 => by
    rw [List.replicate_succ, List.cons_append, val_cons, val_zeros l k]
    simp
theorem runLen_all : ∀ {l : List UInt8}, (∀ d ∈ l, dgt d = true) → runLen 2 l = l.length
  | [], _ => rfl
  | c :: r, h => by
    rw [runLen, goes_2, if_pos (h c (by simp)), runLen_all fun d hd => h d (by simp [hd])]
    rfl
theorem kind_of_dgt {c : UInt8} (h : dgt c = true) : kind c = 2 := by
  have a : ltr c = false := by simp [ltr, dgt] at h ⊢; omega
  rw [kind, a, if_neg (by simp), if_pos h]
theorem lex_num {s : ByteArray} {l : List UInt8} (hs : s.data.toList = l) (h : ∀ d ∈ l, dgt d = true) (hl : l ≠ []) : lexT s = [⟨2, 0, l, numOf l⟩] ∧ errP s = 0 := by
  cases l with
  | nil => exact absurd rfl hl
  | cons c r =>
    have hk := kind_of_dgt (h c (by simp))
    have hr := runLen_all fun d hd => h d (List.mem_cons_of_mem c hd)
    have hp : pieceL s = [⟨2, 0, c :: r, numOf (c :: r)⟩] := by
      rw [pieceL, hs, pcs_tok (by omega), hk, hr, List.drop_length, pcs_nil, tkOf, hk, hr, List.take_length, if_pos rfl]
    have hb : badP s = none := badP_none (by rw [hp]; simp)
    exact ⟨by rw [lexT, hb]; exact hp, by rw [errP, hb]⟩
theorem lex_eqs {s : ByteArray} {l : List UInt8} (hs : s.data.toList = 61 :: (l ++ [61])) (h : ∀ d ∈ l, dgt d = true) (hl : l ≠ []) : lexT s = [⟨3, 0, [61], 0⟩, ⟨2, 1, l, numOf l⟩, ⟨3, 1 + l.length, [61], 0⟩] ∧ errP s = 0 := by
  cases l with
  | nil => exact absurd rfl hl
  | cons c r =>
    have hk := kind_of_dgt (h c (by simp))
    have hr := runLen_all fun d hd => h d (List.mem_cons_of_mem c hd)
    have hg : goes 2 61 = false := rfl
    have hr2 : runLen 2 (r ++ [61]) = r.length := by rw [runLen_full hr, hg]; simp
    have h61 : kind 61 = 3 := by rfl
    have h3 : ∀ q : List UInt8, runLen 3 q = 0 := fun q => by cases q with
      | nil => rfl
      | cons d q => rw [runLen, goes_3, if_neg (by simp)]
    have hp : pieceL s = [⟨3, 0, [61], 0⟩, ⟨2, 1, c :: r, numOf (c :: r)⟩, ⟨3, 1 + (r.length + 1), [61], 0⟩] := by
      rw [pieceL, hs, pcs_tok (by rw [h61]; omega), h61, h3, List.drop_zero, List.cons_append, pcs_tok (by omega), hk, hr2, List.drop_left, pcs_tok (by rw [h61]; omega), h61, h3, List.drop_nil, pcs_nil]
      simp only [tkOf, hk, hr2, h61, h3, List.take_left, List.take_zero, if_pos, Nat.reduceEqDiff, if_false]
      simp
      omega
    have hb : badP s = none := badP_none (by rw [hp]; simp)
    exact ⟨by rw [lexT, hb]; exact hp, by rw [errP, hb]⟩
theorem bs_app (a b : List UInt8) : bs a ++ bs b = bs (a ++ b) := by
  apply ByteArray.ext
  simp [bs]
/-- The low fifty bits. -/
theorem low_bits (n : Int) : ∃ m : Nat, m < 1125899906842624 ∧ bits .and .i64 n 1125899906842623 = (m : Int) := by
  have h : (BitVec.ofInt 64 n &&& BitVec.ofInt 64 1125899906842623).toNat ≤ 1125899906842623 := by
    rw [BitVec.toNat_and]
    exact Nat.and_le_right
  have e : bits .and .i64 n 1125899906842623 = IntKind.i64.wrap (((BitVec.ofInt 64 n &&& BitVec.ofInt 64 1125899906842623).toNat : Nat) : Int) := rfl
  rw [e]
  generalize (BitVec.ofInt 64 n &&& BitVec.ofInt 64 1125899906842623).toNat = z at *
  exact ⟨z, by omega, IntWalk.i64_in _ (by omega)⟩

/-- So far: the low digits of m, and what is left. -/
structure Dg (m : Nat) (l : List UInt8) (q : Nat) : Prop where
  d : ∀ c ∈ l, dgt c = true
  v : q * 10 ^ l.length + valOf l = m
  n : l.length ≤ 16
theorem Dg.start (m : Nat) : Dg m [] m := ⟨by simp, by simp [valOf], by simp⟩
theorem Dg.step {m : Nat} {l : List UInt8} {q : Nat} {c : UInt8} (h : Dg m l q) (hm : m < 1125899906842624) (hq : 0 < q ∨ l = []) (hc : c.toNat = 48 + q % 10) : Dg m (c :: l) (q / 10) := by
  refine ⟨fun d hd => ?_, ?_, ?_⟩
  · rcases List.mem_cons.1 hd with rfl | hd
    · simp [dgt]; omega
    · exact h.d d hd
  · rw [val_cons, List.length_cons, Nat.pow_succ, hc, Nat.add_sub_cancel_left, ← h.v, ← Nat.add_assoc, Nat.mul_comm (10 ^ l.length), ← Nat.mul_assoc, ← Nat.add_mul]
    congr 2
    omega
  · rcases hq with hq | rfl
    · by_cases h16 : l.length < 16
      · simp; omega
      · have e : l.length = 16 := by have := h.n; omega
        have := h.v
        rw [e] at this
        have h1 : q * 10 ^ 16 ≥ 1 * 10 ^ 16 := Nat.mul_le_mul_right _ hq
        omega
    · simp
end Go.Proofs.Ytpnngicglgceaaa
