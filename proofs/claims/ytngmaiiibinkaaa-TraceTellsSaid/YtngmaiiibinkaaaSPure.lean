/- Places by numbers; rows merged: what the program and the document tell, as plain functions. -/
import Derived.Test.YtngmaiiibinkaaaJBase
namespace Go.Proofs.Ytngmaiiibinkaaa
set_option linter.unusedVariables false
set_option linter.unusedSimpArgs false

/-! ### Places in order -/
def kO (ks : List Int) (i : Nat) : Int := (ks[i]?).getD 0
theorem kO_some {ks : List Int} {i : Nat} {x : Int} (h : ks[i]? = some x) : kO ks i = x := by rw [kO, h]; rfl
/-- Place a stands ahead of place b. -/
def Ahead (ks : List Int) (a b : Nat) : Prop := kO ks a < kO ks b ∨ (kO ks a = kO ks b ∧ a < b)
instance (ks : List Int) (a b : Nat) : Decidable (Ahead ks a b) := by unfold Ahead; infer_instance
structure IsOrd (ks : List Int) (o : List Nat) : Prop where
  perm : o.Perm (List.range ks.length)
  srt : o.Pairwise (Ahead ks)
theorem IsOrd.len {ks : List Int} {o : List Nat} (h : IsOrd ks o) : o.length = ks.length := by rw [h.perm.length_eq, List.length_range]
theorem IsOrd.mem {ks : List Int} {o : List Nat} (h : IsOrd ks o) {i : Nat} : i ∈ o ↔ i < ks.length := by rw [h.perm.mem_iff]; simp
theorem IsOrd.lt {ks : List Int} {o : List Nat} (h : IsOrd ks o) {k i : Nat} (hk : o[k]? = some i) : i < ks.length := h.mem.1 (List.mem_of_getElem? hk)
theorem IsOrd.nodup {ks : List Int} {o : List Nat} (h : IsOrd ks o) : o.Nodup := h.perm.nodup_iff.2 List.nodup_range
theorem IsOrd.at2 {ks : List Int} {o : List Nat} (h : IsOrd ks o) {j k a b : Nat} (hjk : j < k) (ha : o[j]? = some a) (hb : o[k]? = some b) : Ahead ks a b := by
  obtain ⟨h1, rfl⟩ := List.getElem?_eq_some_iff.1 ha
  obtain ⟨h2, rfl⟩ := List.getElem?_eq_some_iff.1 hb
  exact List.pairwise_iff_getElem.1 h.srt j k h1 h2 hjk
theorem IsOrd.eq {ks : List Int} {o o' : List Nat} (h : IsOrd ks o) (h' : IsOrd ks o') : o = o' := by
  refine List.Perm.eq_of_pairwise (le := Ahead ks) (fun a b _ _ h1 h2 => ?_) h.srt h'.srt (h.perm.trans h'.perm.symm)
  unfold Ahead at h1 h2
  omega
def cntTo (f : Nat → Bool) (k : Nat) : Nat := (List.range k).countP f
theorem cntTo_zero (f : Nat → Bool) : cntTo f 0 = 0 := rfl
theorem cntTo_yes {f : Nat → Bool} {k : Nat} (h : f k = true) : cntTo f (k + 1) = cntTo f k + 1 := by
  rw [cntTo, List.range_succ, List.countP_append, List.countP_singleton, if_pos h]; rfl
theorem cntTo_no {f : Nat → Bool} {k : Nat} (h : f k = false) : cntTo f (k + 1) = cntTo f k := by
  rw [cntTo, List.range_succ, List.countP_append, List.countP_singleton, if_neg (by rw [h]; simp)]; rfl
theorem cntTo_le (f : Nat → Bool) (k : Nat) : cntTo f k ≤ k := by
  have := List.countP_le_length (p := f) (l := List.range k)
  rwa [List.length_range] at this
def aheadB (ks : List Int) (i : Nat) : Nat → Bool := fun k => decide (Ahead ks k i)
theorem countP_first (f : Nat → Bool) : ∀ (o : List Nat) (q : Nat), q ≤ o.length → (∀ k a, o[k]? = some a → (f a = true ↔ k < q)) → o.countP f = q
  | [], q, hq, _ => by simp at hq; subst hq; rfl
  | a :: r, q, hq, h => by
    have h0 := h 0 a rfl
    cases q with
    | zero =>
      have hf : f a = false := by
        cases hfa : f a with
        | false => rfl
        | true => exact absurd (h0.1 hfa) (by omega)
      rw [List.countP_cons_of_neg (by rw [hf]; simp)]
      exact countP_first f r 0 (Nat.zero_le _) fun k b hb => by
        have := h (k + 1) b (by simpa using hb)
        constructor
        · intro e; have := this.1 e; omega
        · intro e; omega
    | succ q =>
      rw [List.countP_cons_of_pos (h0.2 (by omega))]
      congr 1
      exact countP_first f r q (by simp at hq; omega) fun k b hb => by
        have := h (k + 1) b (by simpa using hb)
        constructor
        · intro e; have := this.1 e; omega
        · intro e; exact this.2 (by omega)
theorem IsOrd.rank {ks : List Int} {o : List Nat} (h : IsOrd ks o) {q i : Nat} (hq : o[q]? = some i) : cntTo (aheadB ks i) ks.length = q := by
  have hlt := (List.getElem?_eq_some_iff.1 hq).1
  rw [cntTo, ← h.perm.countP_eq]
  refine countP_first _ o q (by omega) fun k a ha => ?_
  simp only [aheadB, decide_eq_true_eq]
  rcases Nat.lt_trichotomy k q with hk | hk | hk
  · exact ⟨fun _ => hk, fun _ => h.at2 hk ha hq⟩
  · subst hk
    obtain rfl : a = i := Option.some.inj (ha.symm.trans hq)
    refine ⟨fun e => ?_, fun e => absurd e (by omega)⟩
    unfold Ahead at e
    omega
  · refine ⟨fun e => ?_, fun e => absurd e (by omega)⟩
    have := h.at2 hk hq ha
    unfold Ahead at e this
    omega
theorem IsOrd.at_ {ks : List Int} {o : List Nat} (h : IsOrd ks o) {i : Nat} (hi : i < ks.length) : o[cntTo (aheadB ks i) ks.length]? = some i := by
  have : i ∈ o := h.mem.2 hi
  obtain ⟨q, hq, e⟩ := List.getElem_of_mem this
  have e2 : o[q]? = some i := by rw [List.getElem?_eq_getElem hq, e]
  rw [h.rank e2, e2]
/-- There is one. -/
theorem ord_ex (ks : List Int) : ∃ o, IsOrd ks o := by
  have tr : ∀ a b c : Nat, decide (Ahead ks a b ∨ a = b) = true → decide (Ahead ks b c ∨ b = c) = true → decide (Ahead ks a c ∨ a = c) = true := by
    intro a b c h1 h2
    simp only [decide_eq_true_eq] at *
    rcases h1 with h1 | rfl
    · rcases h2 with h2 | rfl
      · left
        unfold Ahead at *
        omega
      · exact .inl h1
    · exact h2
  have tot : ∀ a b : Nat, (decide (Ahead ks a b ∨ a = b) || decide (Ahead ks b a ∨ b = a)) = true := by
    intro a b
    rw [Bool.or_eq_true, decide_eq_true_eq, decide_eq_true_eq]
    unfold Ahead
    rcases Int.lt_trichotomy (kO ks a) (kO ks b) with h | h | h
    · exact .inl (.inl (.inl h))
    · rcases Nat.lt_trichotomy a b with g | g | g
      · exact .inl (.inl (.inr ⟨h, g⟩))
      · exact .inl (.inr g)
      · exact .inr (.inl (.inr ⟨h.symm, g⟩))
    · exact .inr (.inl (.inl h))
  have hp := List.mergeSort_perm (List.range ks.length) (fun a b => decide (Ahead ks a b ∨ a = b))
  have hs := List.pairwise_mergeSort (le := fun a b => decide (Ahead ks a b ∨ a = b)) tr tot (List.range ks.length)
  refine ⟨_, hp, ?_⟩
  have hn : ((List.range ks.length).mergeSort (fun a b => decide (Ahead ks a b ∨ a = b))).Nodup := hp.nodup_iff.2 List.nodup_range
  have := hs.and hn
  exact this.imp fun {a b} ⟨h1, h2⟩ => by
    simp only [decide_eq_true_eq] at h1
    rcases h1 with h1 | h1
    · exact h1
    · exact absurd h1 h2

/-! ### One number, with its places -/
def plc (ks : List Int) (r : Int) : List Nat := (List.range ks.length).filter (fun i => kO ks i == r)
/-- Runs of an order: from place j on. -/
def runE (ks : List Int) (o : List Nat) (r : Int) : Nat := (o.takeWhile (fun i => kO ks i == r)).length
def grpN (ks : List Int) : Nat → List Nat → List (Int × List Nat)
  | 0, _ => []
  | _ + 1, [] => []
  | n + 1, i :: r => (kO ks i, (i :: r).take (runE ks (i :: r) (kO ks i))) :: grpN ks n ((i :: r).drop (runE ks (i :: r) (kO ks i)))
def grp (ks : List Int) (o : List Nat) : List (Int × List Nat) := grpN ks o.length o
theorem runE_pos (ks : List Int) (i : Nat) (r : List Nat) : 1 ≤ runE ks (i :: r) (kO ks i) := by
  rw [runE, List.takeWhile_cons_of_pos (by simp)]; simp
theorem runE_le (ks : List Int) (o : List Nat) (r : Int) : runE ks o r ≤ o.length := by
  rw [runE]; exact (List.takeWhile_prefix _).length_le
theorem grpN_more (ks : List Int) : ∀ (n m : Nat) (o : List Nat), o.length ≤ n → o.length ≤ m → grpN ks n o = grpN ks m o
  | 0, m, o, h1, _ => by
    have : o = [] := List.eq_nil_of_length_eq_zero (by omega)
    subst this
    cases m <;> rfl
  | n + 1, 0, o, _, h2 => by
    have : o = [] := List.eq_nil_of_length_eq_zero (by omega)
    subst this
    rfl
  | n + 1, m + 1, [], _, _ => rfl
  | n + 1, m + 1, i :: r, h1, h2 => by
    have h := runE_pos ks i r
    simp only [List.length_cons] at h1 h2
    rw [grpN, grpN, grpN_more ks n m _ (by rw [List.length_drop, List.length_cons]; omega) (by rw [List.length_drop, List.length_cons]; omega)]
theorem grp_nil (ks : List Int) : grp ks [] = [] := rfl
theorem grp_cons (ks : List Int) (i : Nat) (r : List Nat) : grp ks (i :: r) = (kO ks i, (i :: r).take (runE ks (i :: r) (kO ks i))) :: grp ks ((i :: r).drop (runE ks (i :: r) (kO ks i))) := by
  have h := runE_pos ks i r
  rw [grp, List.length_cons, grpN, grp, grpN_more ks r.length _ _ (by rw [List.length_drop, List.length_cons]; omega) (Nat.le_refl _)]
/-- The end of a run, told by the order alone. -/
theorem runE_eq {ks : List Int} {o : List Nat} {r : Int} {t : Nat} (ht : t ≤ o.length) (h1 : ∀ k i, k < t → o[k]? = some i → kO ks i = r) (h2 : ∀ i, o[t]? = some i → kO ks i ≠ r) : runE ks o r = t := by
  induction o generalizing t with
  | nil => simp at ht; subst ht; rfl
  | cons a l ih =>
    rw [runE]
    cases t with
    | zero =>
      have := h2 a rfl
      rw [List.takeWhile_cons_of_neg (by simpa using this)]; rfl
    | succ t =>
      have h0 := h1 0 a (by omega) rfl
      rw [List.takeWhile_cons_of_pos (by simpa using h0), List.length_cons]
      congr 1
      exact ih (by simpa using ht) (fun k i hk hi => h1 (k + 1) i (by omega) (by simpa using hi)) (fun i hi => h2 i (by simpa using hi))
end Go.Proofs.Ytngmaiiibinkaaa
