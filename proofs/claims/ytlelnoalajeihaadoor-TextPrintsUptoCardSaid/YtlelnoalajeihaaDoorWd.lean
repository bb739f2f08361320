/- Tokens as they stand by themselves; digits and their number: plain facts. -/
import Derived.Test.YtlelnoalajeihaaDoorLex
namespace Go.Proofs.YtlelnoalajeihaaDoor
open Go.RowKit
set_option linter.unusedVariables false

theorem runLen_take (k : Nat) : ∀ r : List UInt8, runLen k (r.take (runLen k r)) = (r.take (runLen k r)).length
  | [] => rfl
  | d :: r => by
    by_cases hg : goes k d = true
    · rw [show runLen k (d :: r) = runLen k r + 1 by rw [runLen, if_pos hg], List.take_succ_cons, runLen, if_pos hg, runLen_take k r]; rfl
    · rw [show runLen k (d :: r) = 0 by rw [runLen, if_neg hg]]; rfl
theorem runLen_full {k : Nat} : ∀ {r : List UInt8}, runLen k r = r.length → ∀ c, runLen k (r ++ [c]) = if goes k c then r.length + 1 else r.length
  | [], _, c => by simp [runLen]
  | d :: r, h, c => by
    unfold runLen at h
    by_cases hg : goes k d = true
    · rw [if_pos hg, List.length_cons] at h
      have ih := runLen_full (k := k) (r := r) (by omega) c
      rw [List.cons_append, runLen, if_pos hg, ih]
      split <;> simp
    · rw [if_neg hg, List.length_cons] at h; omega
/-- A token as it stands by itself. -/
def Wd (x : Tk) : Prop := ∃ c r, x.t = c :: r ∧ kind c = x.k ∧ x.k ≠ 0 ∧ runLen x.k r = r.length ∧ x.n = if x.k = 2 then numOf x.t else 0
/-- A token without its place. -/
def un (x : Tk) : Tk := { x with at' := 0 }
theorem wd_tkOf {a : Nat} {c : UInt8} {r : List UInt8} (h : kind c ≠ 0) : Wd (tkOf a c r) :=
  ⟨c, r.take (runLen (kind c) r), rfl, rfl, h, runLen_take _ _, rfl⟩
theorem pcs_wd : ∀ (n a : Nat) (l : List UInt8), l.length ≤ n → ∀ y ∈ pcs a l, y.k ≠ 0 → Wd y ∧ y.t.length ≤ l.length := by
  intro n
  induction n with
  | zero => intro a l h y hy; have : l = [] := List.eq_nil_of_length_eq_zero (by omega); subst this; rw [pcs_nil] at hy; simp at hy
  | succ n ih =>
    intro a l h y hy hk0
    cases l with
    | nil => rw [pcs_nil] at hy; simp at hy
    | cons c r =>
      simp only [List.length_cons] at h ⊢
      have hr := runLen_le (kind c) r
      by_cases hb : blank c = true
      · rw [pcs_blank hb] at hy
        have := ih (a + 1) r (by omega) y hy hk0
        exact ⟨this.1, by omega⟩
      · by_cases h35 : c.toNat = 35
        · rw [pcs_hash h35] at hy
          have := ih (a + 1 + noteLen r) (r.drop (noteLen r)) (by simp; omega) y hy hk0
          simp at this
          exact ⟨this.1, by omega⟩
        · by_cases hk : kind c = 0
          · rw [pcs_none (by simpa using hb) h35 hk, List.mem_singleton] at hy
            subst hy
            exact absurd rfl hk0
          · rw [pcs_tok hk, List.mem_cons] at hy
            rcases hy with rfl | hy
            · exact ⟨wd_tkOf hk, by rw [tkOf_len]; omega⟩
            · have := ih (a + 1 + runLen (kind c) r) (r.drop (runLen (kind c) r)) (by simp; omega) y hy hk0
              simp at this
              exact ⟨this.1, by omega⟩
theorem tok_wd {s : ByteArray} {x : Tk} (h : x ∈ tokL s) : Wd x ∧ x.t.length ≤ s.size := by
  have hk : x.k ≠ 0 := by
    have := List.all_takeWhile (p := fun x : Tk => decide (x.k ≠ 0)) (l := pieceL s)
    rw [List.all_eq_true] at this
    simpa using this x h
  have := pcs_wd _ 0 s.data.toList (Nat.le_refl _) x ((toksOf_prefix _).sublist.subset h) hk
  rwa [← Lib.size_eq] at this
theorem toks_size (s : ByteArray) : (tokL s).length ≤ s.size := by
  have h1 := (toksOf_prefix (pieceL s)).length_le
  have h2 := pcs_length _ 0 s.data.toList (Nat.le_refl _)
  rw [← Lib.size_eq] at h2
  exact Nat.le_trans h1 h2

theorem goes_32 (k : Nat) : goes k 32 = false := by simp [goes, dgt, ltr]
theorem pcs_blanks : ∀ (g : List UInt8), (∀ c ∈ g, blank c = true) → ∀ a rest, pcs a (g ++ rest) = pcs (a + g.length) rest
  | [], _, a, rest => rfl
  | c :: g, h, a, rest => by
    rw [List.cons_append, pcs_blank (h c (by simp)), pcs_blanks g (fun d hd => h d (by simp [hd])), List.length_cons]
    congr 1
    omega
theorem runLen_stop {k : Nat} : ∀ {r : List UInt8}, runLen k r = r.length → ∀ rest, runLen k (r ++ 32 :: rest) = r.length
  | [], _, rest => by rw [List.nil_append, runLen, goes_32, if_neg (by simp)]; rfl
  | d :: r, h, rest => by
    unfold runLen at h
    by_cases hg : goes k d = true
    · rw [if_pos hg, List.length_cons] at h
      rw [List.cons_append, runLen, if_pos hg, runLen_stop (by omega) rest]; rfl
    · rw [if_neg hg, List.length_cons] at h; omega
theorem pcs_again {x : Tk} (h : Wd x) (a : Nat) (rest : List UInt8) : ∃ y b, pcs a (x.t ++ 32 :: rest) = y :: pcs b rest ∧ un y = un x ∧ y.k ≠ 0 := by
  obtain ⟨c, r, ht, hk, hk0, hr, hn⟩ := h
  have hr2 := runLen_stop hr rest
  refine ⟨tkOf a c (r ++ 32 :: rest), a + 1 + r.length + 1, ?_, ?_, by rw [show (tkOf a c (r ++ 32 :: rest)).k = kind c from rfl, hk]; exact hk0⟩
  · rw [ht, List.cons_append, pcs_tok (by rw [hk]; exact hk0), hk, hr2, List.drop_left, pcs_blank (by rfl)]
  · unfold un tkOf
    rw [hk, hr2, List.take_left, ← ht, ← hn]
def valOf (l : List UInt8) : Nat := l.foldl (fun n c => n * 10 + (c.toNat - 48)) 0
theorem val_from : ∀ (l : List UInt8) (a : Nat), l.foldl (fun n c => n * 10 + (c.toNat - 48)) a = a * 10 ^ l.length + valOf l
  | [], a => by simp [valOf]
  | c :: l, a => by
    have h1 := val_from l (a * 10 + (c.toNat - 48))
    have h2 := val_from l (0 * 10 + (c.toNat - 48))
    have h3 : valOf (c :: l) = (0 * 10 + (c.toNat - 48)) * 10 ^ l.length + valOf l := h2
    rw [List.foldl_cons, h1, h3, List.length_cons, Nat.pow_succ, Nat.add_mul, Nat.zero_mul, Nat.zero_add, Nat.mul_assoc, Nat.mul_comm 10 (10 ^ l.length)]
    omega
theorem val_cons (c : UInt8) (l : List UInt8) : valOf (c :: l) = (c.toNat - 48) * 10 ^ l.length + valOf l := by
  have := val_from l (0 * 10 + (c.toNat - 48))
  rw [Nat.zero_mul, Nat.zero_add] at this
  rw [← this]
  simp [valOf]
theorem num_from : ∀ (l : List UInt8) (a : Nat), l.foldl (fun n c => min (n * 10 + (c.toNat - 48)) 1099511627776) (min a 1099511627776) = min (l.foldl (fun n c => n * 10 + (c.toNat - 48)) a) 1099511627776
  | [], a => rfl
  | c :: l, a => by
    have h : min (min a 1099511627776 * 10 + (c.toNat - 48)) 1099511627776 = min (a * 10 + (c.toNat - 48)) 1099511627776 := by omega
    rw [List.foldl_cons, List.foldl_cons, h]
    exact num_from l _
theorem num_val (l : List UInt8) : numOf l = min (valOf l) 1099511627776 := num_from l 0
theorem val_zeros (l : List UInt8) : ∀ k, valOf (List.replicate k 48 ++ l) = valOf l
  | 0 => rfl
  | k + 1 => by
    rw [List.replicate_succ, List.cons_append, val_cons, val_zeros l k]
    simp
theorem runLen_all : ∀ {l : List UInt8}, (∀ d ∈ l, dgt d = true) → runLen 2 l = l.length
  | [], _ => rfl
  | c :: r, h => by
    rw [runLen, goes_2, if_pos (h c (by simp)), runLen_all fun d hd => h d (by simp [hd])]
    rfl
theorem kind_of_dgt {c : UInt8} (h : dgt c = true) : kind c = 2 := by
  have a : ltr c = false := by simp [ltr, dgt] at h ⊢; omega
  rw [kind, a, if_neg (by simp), if_pos h]
theorem bs_app (a b : List UInt8) : bs a ++ bs b = bs (a ++ b) := by
  apply ByteArray.ext
  simp [bs]
end Go.Proofs.YtlelnoalajeihaaDoor
