/- Texts about the program, one after the other: SPure, SMPure, JPure, JOps, JSoon, JDec, JArr, JLast. -/
import Derived.Test.YtnplbmbbocffbaaG3
import Derived.Sort.LoopGhostIn
import Derived.Deep.RegionHeldLaw
/- Places by numbers; rows merged: what the program and the document tell, as plain functions. -/
namespace Go.Proofs.Ytnplbmbbocffbaa
set_option linter.unusedVariables false
set_option linter.unusedSimpArgs false

/-! ### Places in order -/
def kO (ks : List Int) (i : Nat) : Int := (ks[i]?).getD 0
theorem kO_some {ks : List Int} {i : Nat} {x : Int} (h : ks[i]? = some x) : kO ks i = x := by rw [kO, h]; rfl
/-- Place a stands ahead of place b. -/
def Ahead (ks : List Int) (a b : Nat) : Prop := kO ks a < kO ks b ∨ (kO ks a = kO ks b ∧ a < b)
instance (ks : List Int) (a b : Nat) : Decidable (Ahead ks a b) := by unfold Ahead; infer_instance
structure IsOrd (ks : List Int) (o : List Nat) : Prop where
  perm : o.Perm (List.range ks.length)
  srt : o.Pairwise (Ahead ks)
theorem IsOrd.len {ks : List Int} {o : List Nat} (h : IsOrd ks o) : o.length = ks.length := by rw [h.perm.length_eq, List.length_range]
theorem IsOrd.mem {ks : List Int} {o : List Nat} (h : IsOrd ks o) {i : Nat} : i ∈ o ↔ i < ks.length := by rw [h.perm.mem_iff]; simp
theorem IsOrd.lt {ks : List Int} {o : List Nat} (h : IsOrd ks o) {k i : Nat} (hk : o[k]? = some i) : i < ks.length := h.mem.1 (List.mem_of_getElem? hk)
theorem IsOrd.nodup {ks : List Int} {o : List Nat} (h : IsOrd ks o) : o.Nodup := h.perm.nodup_iff.2 List.nodup_range
theorem IsOrd.at2 {ks : List Int} {o : List Nat} (h : IsOrd ks o) {j k a b : Nat} (hjk : j < k) (ha : o[j]? = some a) (hb : o[k]? = some b) : Ahead ks a b := by
  obtain ⟨h1, rfl⟩ := List.getElem?_eq_some_iff.1 ha
  obtain ⟨h2, rfl⟩ := List.getElem?_eq_some_iff.1 hb
  exact List.pairwise_iff_getElem.1 h.srt j k h1 h2 hjk
theorem IsOrd.eq {ks : List Int} {o o' : List Nat} (h : IsOrd ks o) (h' : IsOrd ks o') : o = o' := by
  refine List.Perm.eq_of_pairwise (le := Ahead ks) (fun a b _ _ h1 h2 => ?_) h.srt h'.srt (h.perm.trans h'.perm.symm)
  unfold Ahead at h1 h2
  omega
def cntTo (f : Nat → Bool) (k : Nat) : Nat := (List.range k).countP f
theorem cntTo_zero (f : Nat → Bool) : cntTo f 0 = 0 := rfl
theorem cntTo_yes {f : Nat → Bool} {k : Nat} (h : f k = true) : cntTo f (k + 1) = cntTo f k + 1 := by
  rw [cntTo, List.range_succ, List.countP_append, List.countP_singleton, if_pos h]; rfl
theorem cntTo_no {f : Nat → Bool} {k : Nat} (h : f k = false) : cntTo f (k + 1) = cntTo f k := by
  rw [cntTo, List.range_succ, List.countP_append, List.countP_singleton, if_neg (by rw [h]; simp)]; rfl
theorem cntTo_le (f : Nat → Bool) (k : Nat) : cntTo f k ≤ k := by
  have := List.countP_le_length (p := f) (l := List.range k)
  rwa [List.length_range] at this
def aheadB (ks : List Int) (i : Nat) : Nat → Bool := fun k => decide (Ahead ks k i)
theorem countP_first (f : Nat → Bool) : ∀ (o : List Nat) (q : Nat), q ≤ o.length → (∀ k a, o[k]? = some a → (f a = true ↔ k < q)) → o.countP f = q
  | [], q, hq, _ => by simp at hq; subst hq; rfl
  | a :: r, q, hq, h => by
    have h0 := h 0 a rfl
    cases q with
    | zero =>
      have hf : f a = false := by
        cases hfa : f a with
        | false => rfl
        | true => exact absurd (h0.1 hfa) (by omega)
      rw [List.countP_cons_of_neg (by rw [hf]; simp)]
      exact countP_first f r 0 (Nat.zero_le _) fun k b hb => by
        have := h (k + 1) b (by simpa using hb)
        constructor
        · intro e; have := this.1 e; omega
        · intro e; omega
    | succ q =>
      rw [List.countP_cons_of_pos (h0.2 (by omega))]
      congr 1
      exact countP_first f r q (by simp at hq; omega) fun k b hb => by
        have := h (k + 1) b (by simpa using hb)
        constructor
        · intro e; have := this.1 e; omega
        · intro e; exact this.2 (by omega)
theorem IsOrd.rank {ks : List Int} {o : List Nat} (h : IsOrd ks o) {q i : Nat} (hq : o[q]? = some i) : cntTo (aheadB ks i) ks.length = q := by
  have hlt := (List.getElem?_eq_some_iff.1 hq).1
  rw [cntTo, ← h.perm.countP_eq]
  refine countP_first _ o q (by omega) fun k a ha => ?_
  simp only [aheadB, decide_eq_true_eq]
  rcases Nat.lt_trichotomy k q with hk | hk | hk
  · exact ⟨fun _ => hk, fun _ => h.at2 hk ha hq⟩
  · subst hk
    obtain rfl : a = i := Option.some.inj (ha.symm.trans hq)
    refine ⟨fun e => ?_, fun e => absurd e (by omega)⟩
    unfold Ahead at e
    omega
  · refine ⟨fun e => ?_, fun e => absurd e (by omega)⟩
    have := h.at2 hk hq ha
    unfold Ahead at e this
    omega
theorem IsOrd.at_ {ks : List Int} {o : List Nat} (h : IsOrd ks o) {i : Nat} (hi : i < ks.length) : o[cntTo (aheadB ks i) ks.length]? = some i := by
  have : i ∈ o := h.mem.2 hi
  obtain ⟨q, hq, e⟩ := List.getElem_of_mem this
  have e2 : o[q]? = some i := by rw [List.getElem?_eq_getElem hq, e]
  rw [h.rank e2, e2]
/-- There is one. -/
theorem ord_ex (ks : List Int) : ∃ o, IsOrd ks o := by
  have tr : ∀ a b c : Nat, decide (Ahead ks a b ∨ a = b) = true → decide (Ahead ks b c ∨ b = c) = true → decide (Ahead ks a c ∨ a = c) = true := by
    intro a b c h1 h2
    simp only [decide_eq_true_eq] at *
    rcases h1 with h1 | rfl
    · rcases h2 with h2 | rfl
      · left
        unfold Ahead at *
        omega
      · exact .inl h1
    · exact h2
  have tot : ∀ a b : Nat, (decide (Ahead ks a b ∨ a = b) || decide (Ahead ks b a ∨ b = a)) = true := by
    intro a b
    rw [Bool.or_eq_true, decide_eq_true_eq, decide_eq_true_eq]
    unfold Ahead
    rcases Int.lt_trichotomy (kO ks a) (kO ks b) with h | h | h
    · exact .inl (.inl (.inl h))
    · rcases Nat.lt_trichotomy a b with g | g | g
      · exact .inl (.inl (.inr ⟨h, g⟩))
      · exact .inl (.inr g)
      · exact .inr (.inl (.inr ⟨h.symm, g⟩))
    · exact .inr (.inl (.inl h))
  have hp := List.mergeSort_perm (List.range ks.length) (fun a b => decide (Ahead ks a b ∨ a = b))
  have hs := List.pairwise_mergeSort (le := fun a b => decide (Ahead ks a b ∨ a = b)) tr tot (List.range ks.length)
  refine ⟨_, hp, ?_⟩
  have hn : ((List.range ks.length).mergeSort (fun a b => decide (Ahead ks a b ∨ a = b))).Nodup := hp.nodup_iff.2 List.nodup_range
  have := hs.and hn
  exact this.imp fun {a b} ⟨h1, h2⟩ => by
    simp only [decide_eq_true_eq] at h1
    rcases h1 with h1 | h1
    · exact h1
    · exact absurd h1 h2

/-! ### One number, with its places -/
def plc (ks : List Int) (r : Int) : List Nat := (List.range ks.length).filter (fun i => kO ks i == r)
/-- Runs of an order: from place j on. -/
def runE (ks : List Int) (o : List Nat) (r : Int) : Nat := (o.takeWhile (fun i => kO ks i == r)).length
def grpN (ks : List Int) : Nat → List Nat → List (Int × List Nat)
  | 0, _ => []
  | _ + 1, [] => []
  | n + 1, i :: r => (kO ks i, (i :: r).take (runE ks (i :: r) (kO ks i))) :: grpN ks n ((i :: r).drop (runE ks (i :: r) (kO ks i)))
def grp (ks : List Int) (o : List Nat) : List (Int × List Nat) := grpN ks o.length o
theorem runE_pos (ks : List Int) (i : Nat) (r : List Nat) : 1 ≤ runE ks (i :: r) (kO ks i) := by
  rw [runE, List.takeWhile_cons_of_pos (by simp)]; simp
theorem runE_le (ks : List Int) (o : List Nat) (r : Int) : runE ks o r ≤ o.length := by
  rw [runE]; exact (List.takeWhile_prefix _).length_le
theorem grpN_more (ks : List Int) : ∀ (n m : Nat) (o : List Nat), o.length ≤ n → o.length ≤ m → grpN ks n o = grpN ks m o
  | 0, m, o, h1, _ => by
    have : o = [] := List.eq_nil_of_length_eq_zero (by omega)
    subst this
    cases m <;> rfl
  | n + 1, 0, o, _, h2 => by
    have : o = [] := List.eq_nil_of_length_eq_zero (by omega)
    subst this
    rfl
  | n + 1, m + 1, [], _, _ => rfl
  | n + 1, m + 1, i :: r, h1, h2 => by
    have h := runE_pos ks i r
    simp only [List.length_cons] at h1 h2
    rw [grpN, grpN, grpN_more ks n m _ (by rw [List.length_drop, List.length_cons]; omega) (by rw [List.length_drop, List.length_cons]; omega)]
theorem grp_nil (ks : List Int) : grp ks [] = [] := rfl
theorem grp_cons (ks : List Int) (i : Nat) (r : List Nat) : grp ks (i :: r) = (kO ks i, (i :: r).take (runE ks (i :: r) (kO ks i))) :: grp ks ((i :: r).drop (runE ks (i :: r) (kO ks i))) := by
  have h := runE_pos ks i r
  rw [grp, List.length_cons, grpN, grp, grpN_more ks r.length _ _ (by rw [List.length_drop, List.length_cons]; omega) (Nat.le_refl _)]
/-- The end of a run, told by the order alone. -/
theorem runE_eq {ks : List Int} {o : List Nat} {r : Int} {t : Nat} (ht : t ≤ o.length) (h1 : ∀ k i, k < t → o[k]? = some i → kO ks i = r) (h2 : ∀ i, o[t]? = some i → kO ks i ≠ r) : runE ks o r = t := by
  induction o generalizing t with
  | nil => simp at ht; subst ht; rfl
  | cons a l ih =>
    rw [runE]
    cases t with
    | zero =>
      have := h2 a rfl
      rw [List.takeWhile_cons_of_neg (by simpa using this)]; rfl
    | succ t =>
      have h0 := h1 0 a (by omega) rfl
      rw [List.takeWhile_cons_of_pos (by simpa using h0), List.length_cons]
      congr 1
      exact ih (by simpa using ht) (fun k i hk hi => h1 (k + 1) i (by omega) (by simpa using hi)) (fun i hi => h2 i (by simpa using hi))
end Go.Proofs.Ytnplbmbbocffbaa
/- Rows merged: what is told, as plain functions. -/
namespace Go.Proofs.Ytnplbmbbocffbaa
set_option linter.unusedVariables false
set_option linter.unusedSimpArgs false
section
variable {α : Type} (key : α → Int)
/-- Of what is first of each row, the least, of several that of the first row; and what is left. -/
def pick : List (List α) → Option (α × List (List α))
  | [] => none
  | [] :: rs => (pick rs).map fun p => (p.1, [] :: p.2)
  | (x :: xs) :: rs =>
    match pick rs with
    | none => some (x, xs :: rs)
    | some (y, rs') => if key y < key x then some (y, (x :: xs) :: rs') else some (x, xs :: rs)
def tot (rs : List (List α)) : Nat := (rs.map List.length).sum
def mrgN : Nat → List (List α) → List α
  | 0, _ => []
  | n + 1, rs => match pick key rs with
    | none => []
    | some (x, rs') => x :: mrgN n rs'
def mrg (rs : List (List α)) : List α := mrgN key (tot rs) rs
theorem tot_cons (l : List α) (rs : List (List α)) : tot (l :: rs) = l.length + tot rs := by simp [tot]
theorem pick_tot : ∀ (rs : List (List α)) (x : α) (rs' : List (List α)), pick key rs = some (x, rs') → tot rs = tot rs' + 1
  | [], x, rs', h => by simp [pick] at h
  | [] :: rs, x, rs', h => by
    rw [pick, Option.map_eq_some_iff] at h
    obtain ⟨⟨y, q⟩, h1, h2⟩ := h
    simp only [Prod.mk.injEq] at h2
    obtain ⟨rfl, rfl⟩ := h2
    have := pick_tot rs _ _ h1
    rw [tot_cons, tot_cons, this, Nat.add_assoc]
  | (y :: ys) :: rs, x, rs', h => by
    rw [pick] at h
    cases hp : pick key rs with
    | none =>
      rw [hp] at h
      simp only [Option.some.injEq, Prod.mk.injEq] at h
      obtain ⟨rfl, rfl⟩ := h
      rw [tot_cons, tot_cons, List.length_cons]; omega
    | some p =>
      obtain ⟨z, q⟩ := p
      rw [hp] at h
      simp only at h
      have := pick_tot rs _ _ hp
      split at h
      · simp only [Option.some.injEq, Prod.mk.injEq] at h
        obtain ⟨rfl, rfl⟩ := h
        rw [tot_cons, tot_cons, this, Nat.add_assoc]
      · simp only [Option.some.injEq, Prod.mk.injEq] at h
        obtain ⟨rfl, rfl⟩ := h
        rw [tot_cons, tot_cons, List.length_cons]; omega
theorem mrg_none {rs : List (List α)} (h : pick key rs = none) : mrg key rs = [] := by
  rw [mrg]
  cases tot rs with
  | zero => rfl
  | succ n => rw [mrgN, h]
theorem mrg_some {rs rs' : List (List α)} {x : α} (h : pick key rs = some (x, rs')) : mrg key rs = x :: mrg key rs' := by
  rw [mrg, pick_tot key rs x rs' h, mrgN, h, mrg]
/-- Those that are not empty. -/
def fil (rs : List (List α)) : List (List α) := rs.filter (fun l => !l.isEmpty)
theorem fil_nil (rs : List (List α)) : fil ([] :: rs) = fil rs := by simp [fil]
theorem fil_cons (x : α) (xs : List α) (rs : List (List α)) : fil ((x :: xs) :: rs) = (x :: xs) :: fil rs := by simp [fil]
theorem pick_none : ∀ rs : List (List α), pick key rs = none ↔ fil rs = []
  | [] => by simp [fil, pick]
  | [] :: rs => by rw [fil_nil, pick, ← pick_none rs]; simp
  | (x :: xs) :: rs => by
    rw [fil_cons, pick]
    cases h1 : pick key rs with
    | none => simp
    | some p => simp only [reduceCtorEq, iff_false]; split <;> simp
theorem pick_fil : ∀ (rs : List (List α)) (x : α) (rs' : List (List α)), pick key rs = some (x, rs') → ∃ q, pick key (fil rs) = some (x, q) ∧ fil q = fil rs'
  | [], x, rs', h => by simp [pick] at h
  | [] :: rs, x, rs', h => by
    rw [pick, Option.map_eq_some_iff] at h
    obtain ⟨⟨y, q⟩, h1, h2⟩ := h
    simp only [Prod.mk.injEq] at h2
    obtain ⟨rfl, rfl⟩ := h2
    rw [fil_nil, fil_nil]
    exact pick_fil rs _ _ h1
  | (y :: ys) :: rs, x, rs', h => by
    rw [pick] at h
    rw [fil_cons, pick]
    cases hp : pick key rs with
    | none =>
      rw [hp] at h
      simp only [Option.some.injEq, Prod.mk.injEq] at h
      obtain ⟨rfl, rfl⟩ := h
      have := (pick_none key rs).1 hp
      rw [this]
      refine ⟨[ys], rfl, ?_⟩
      cases ys <;> simp [fil] <;> simpa [fil] using this
    | some p =>
      obtain ⟨z, q⟩ := p
      rw [hp] at h
      simp only at h
      obtain ⟨q2, h1, h2⟩ := pick_fil rs _ _ hp
      rw [h1]
      simp only
      split at h
      · rename_i hlt
        simp only [Option.some.injEq, Prod.mk.injEq] at h
        obtain ⟨rfl, rfl⟩ := h
        exact ⟨(y :: ys) :: q2, by rw [if_pos hlt], by rw [fil_cons, fil_cons, h2]⟩
      · rename_i hlt
        simp only [Option.some.injEq, Prod.mk.injEq] at h
        obtain ⟨rfl, rfl⟩ := h
        refine ⟨ys :: fil rs, by rw [if_neg hlt], ?_⟩
        have e : fil (fil rs) = fil rs := by simp [fil]
        cases ys with
        | nil => rw [fil_nil, fil_nil, e]
        | cons a l => rw [fil_cons, fil_cons, e]
theorem mrg_eq : ∀ (n : Nat) (rs rs2 : List (List α)), tot rs ≤ n → fil rs = fil rs2 → mrg key rs = mrg key rs2 := by
  intro n
  induction n with
  | zero =>
    intro rs rs2 hn hf
    cases h : pick key rs with
    | none => rw [mrg_none key h, mrg_none key ((pick_none key rs2).2 (by rw [← hf]; exact (pick_none key rs).1 h))]
    | some p => have := pick_tot key rs p.1 p.2 h; omega
  | succ n ih =>
    intro rs rs2 hn hf
    cases h : pick key rs with
    | none => rw [mrg_none key h, mrg_none key ((pick_none key rs2).2 (by rw [← hf]; exact (pick_none key rs).1 h))]
    | some p =>
      obtain ⟨x, r1⟩ := p
      cases h2 : pick key rs2 with
      | none =>
        have := (pick_none key rs).2 (by rw [hf]; exact (pick_none key rs2).1 h2)
        rw [h] at this; cases this
      | some p2 =>
        obtain ⟨y, r2⟩ := p2
        obtain ⟨q1, a1, a2⟩ := pick_fil key rs x r1 h
        obtain ⟨q2, b1, b2⟩ := pick_fil key rs2 y r2 h2
        rw [hf, b1] at a1
        simp only [Option.some.injEq, Prod.mk.injEq] at a1
        obtain ⟨rfl, rfl⟩ := a1
        have := pick_tot key rs y r1 h
        rw [mrg_some key h, mrg_some key h2, ih r1 r2 (by omega) (by rw [← a2, b2])]
theorem mrg_fil (rs : List (List α)) : mrg key (fil rs) = mrg key rs := mrg_eq key _ _ _ (Nat.le_refl _) (by simp [fil])
theorem pick_of : ∀ (rs : List (List α)) (x : α) (rs' : List (List α)), pick key rs = some (x, rs') → ∃ (i : Nat) (xs : List α), rs[i]? = some (x :: xs)
  | [], x, rs', h => by simp [pick] at h
  | [] :: rs, x, rs', h => by
    rw [pick, Option.map_eq_some_iff] at h
    obtain ⟨⟨y, q⟩, h1, h2⟩ := h
    simp only [Prod.mk.injEq] at h2
    obtain ⟨rfl, rfl⟩ := h2
    obtain ⟨i, xs, hi⟩ := pick_of rs _ _ h1
    exact ⟨i + 1, xs, by simpa using hi⟩
  | (y :: ys) :: rs, x, rs', h => by
    rw [pick] at h
    cases hp : pick key rs with
    | none =>
      rw [hp] at h
      simp only [Option.some.injEq, Prod.mk.injEq] at h
      obtain ⟨rfl, rfl⟩ := h
      exact ⟨0, ys, rfl⟩
    | some p =>
      obtain ⟨z, q⟩ := p
      rw [hp] at h
      simp only at h
      split at h
      · simp only [Option.some.injEq, Prod.mk.injEq] at h
        obtain ⟨rfl, rfl⟩ := h
        obtain ⟨i, xs, hi⟩ := pick_of rs _ _ hp
        exact ⟨i + 1, xs, by simpa using hi⟩
      · simp only [Option.some.injEq, Prod.mk.injEq] at h
        obtain ⟨rfl, rfl⟩ := h
        exact ⟨0, ys, rfl⟩
/-- Place i is the first of the least. -/
structure Fst (rs : List (List α)) (i : Nat) (x : α) (xs : List α) : Prop where
  at_ : rs[i]? = some (x :: xs)
  le : ∀ (j : Nat) (y : α) (ys : List α), rs[j]? = some (y :: ys) → key x ≤ key y
  lt : ∀ (j : Nat) (y : α) (ys : List α), j < i → rs[j]? = some (y :: ys) → key x < key y
theorem pick_at : ∀ (rs : List (List α)) (i : Nat) (x : α) (xs : List α), Fst key rs i x xs → pick key rs = some (x, rs.set i xs)
  | [], i, x, xs, h => by have := h.at_; simp at this
  | l :: t, 0, x, xs, h => by
    have h0 := h.at_
    simp only [List.getElem?_cons_zero, Option.some.injEq] at h0
    subst h0
    rw [pick]
    cases hp : pick key t with
    | none => rfl
    | some p =>
      obtain ⟨y, q⟩ := p
      obtain ⟨j, ys, hj⟩ := pick_of key t y q hp
      have := h.le (j + 1) y ys (by simpa using hj)
      simp only
      rw [if_neg (by omega)]
      rfl
  | l :: t, i + 1, x, xs, h => by
    have ih := pick_at t i x xs ⟨by simpa using h.at_, fun j y ys hj => h.le (j + 1) y ys (by simpa using hj), fun j y ys hj hy => h.lt (j + 1) y ys (by omega) (by simpa using hy)⟩
    cases l with
    | nil => rw [pick, ih]; rfl
    | cons z zs =>
      rw [pick, ih]
      simp only
      rw [if_pos (h.lt 0 z zs (by omega) rfl)]
      rfl
/-- The next round, where all rows have something left. -/
theorem mrg_next {rs : List (List α)} {i : Nat} {x : α} {xs : List α} (h : Fst key rs i x xs) : mrg key rs = x :: mrg key (rs.set i xs) := mrg_some key (pick_at key rs i x xs h)
theorem mrg_gone {rs : List (List α)} {i : Nat} (hi : i < rs.length) : mrg key (rs.eraseIdx i) = mrg key (rs.set i []) := by
  refine mrg_eq key _ _ _ (Nat.le_refl _) ?_
  induction rs generalizing i with
  | nil => simp at hi
  | cons l t ih =>
    cases i with
    | zero => simp [fil]
    | succ i =>
      have := ih (i := i) (by simpa using hi)
      simp only [List.eraseIdx_cons_succ, List.set_cons_succ]
      cases l with
      | nil => rw [fil_nil, fil_nil, this]
      | cons a l => rw [fil_cons, fil_cons, this]
theorem mrg_len : ∀ (n : Nat) (rs : List (List α)), tot rs ≤ n → (mrg key rs).length = tot rs := by
  intro n
  induction n with
  | zero =>
    intro rs hn
    cases h : pick key rs with
    | none => rw [mrg_none key h]; simp; omega
    | some p => have := pick_tot key rs p.1 p.2 h; omega
  | succ n ih =>
    intro rs hn
    cases h : pick key rs with
    | none =>
      rw [mrg_none key h]
      have h0 := (pick_none key rs).1 h
      have : tot rs = 0 := by
        clear hn h ih
        induction rs with
        | nil => rfl
        | cons l t ih => cases l with
          | nil => rw [fil_nil] at h0; rw [tot_cons, ih h0]; rfl
          | cons a l => rw [fil_cons] at h0; cases h0
      rw [this]; rfl
    | some p =>
      have := pick_tot key rs p.1 p.2 h
      rw [mrg_some key (show pick key rs = some (p.1, p.2) from h), List.length_cons, ih p.2 (by omega), this]
end
theorem mrg_awake : mrg (fun x : Int => x) [[1, 4], [2, 3]] = [1, 2, 3, 4] := by decide +kernel
end Go.Proofs.Ytnplbmbbocffbaa
/- What the chapter asks, as plain functions: rests, sections, jobs of raw numbers, whether jobs are legal, the least raw numbers. -/
namespace Go.Proofs.Ytnplbmbbocffbaa
open Go.RowKit
set_option linter.unusedVariables false
set_option linter.unusedSimpArgs false

/-! ### Rests -/
theorem tmod_bd (x n : Int) (hn : 0 < n) : -n < x.tmod n ∧ x.tmod n < n := by
  rcases Int.le_total 0 x with h | h
  · rw [Int.tmod_eq_emod_of_nonneg h]
    have := Int.emod_nonneg x (show n ≠ 0 by omega)
    have := Int.emod_lt_of_pos x hn
    omega
  · obtain ⟨m, rfl⟩ : ∃ m, x = -m := ⟨-x, by omega⟩
    rw [Int.neg_tmod, Int.tmod_eq_emod_of_nonneg (by omega)]
    have := Int.emod_nonneg m (show n ≠ 0 by omega)
    have := Int.emod_lt_of_pos m hn
    omega
theorem emod_tmod (x n : Int) (hn : 0 < n) : x % n = if x.tmod n < 0 then x.tmod n + n else x.tmod n := by
  have hb := tmod_bd x n hn
  have h2 : x.tmod n % n = x % n := by
    rcases Int.le_total 0 x with h | h
    · rw [Int.tmod_eq_emod_of_nonneg h, Int.emod_emod]
    · obtain ⟨m, rfl⟩ : ∃ m, x = -m := ⟨-x, by omega⟩
      rw [Int.neg_tmod, Int.tmod_eq_emod_of_nonneg (by omega)]
      conv => rhs; rw [← Int.mul_ediv_add_emod m n, Int.neg_add, ← Int.mul_neg, Int.mul_add_emod_self_left]
  rw [← h2]
  split
  · rw [← Int.add_emod_right, Int.emod_eq_of_lt (by omega) (by omega)]
  · exact Int.emod_eq_of_lt (by omega) (by omega)
theorem twice_tmod (x n : Int) (hn : 0 < n) : (x.tmod n + n).tmod n = x % n := by
  have hb := tmod_bd x n hn
  rw [Int.tmod_eq_emod_of_nonneg (by omega), Int.add_emod_right]
  rw [emod_tmod x n hn]
  split
  · rw [← Int.add_emod_right, Int.emod_eq_of_lt (by omega) (by omega)]
  · exact Int.emod_eq_of_lt (by omega) (by omega)
theorem emod_bd (x n : Int) (hn : 0 < n) : 0 ≤ x % n ∧ x % n < n := ⟨Int.emod_nonneg x (by omega), Int.emod_lt_of_pos x hn⟩
theorem restI_emod (x n : Int) (hn : 0 < n) (hn2 : n ≤ 100000) : restI x n = x % n := by
  have hb := tmod_bd x n hn
  rw [restI, IntWalk.wrap64_in _ (by omega), twice_tmod x n hn]

/-! ### Sets that may be -/
structure TsOk (x : Ts) : Prop where
  c0 : 1 ≤ x.c
  c1 : x.c ≤ 2147483647
  t0 : 1 ≤ x.t
  t1 : x.t ≤ 2147483647
  j0 : 0 ≤ x.j
  j1 : x.j ≤ 2147483647
  q0 : 1 ≤ x.q
  q1 : x.q ≤ 2147483647
structure Vs (ts : List Ts) : Prop where
  n0 : 1 ≤ ts.length
  n1 : ts.length ≤ 1024
  all : ∀ x ∈ ts, TsOk x
theorem tsOk_of {x : Ts} (h : checkE x = 0) : TsOk x := by
  have hr : rangedB x = true := by
    by_cases h1 : (namedB x && rangedB x) = true
    · simp only [Bool.and_eq_true] at h1; exact h1.2
    · rw [checkE, if_neg h1] at h; omega
  obtain ⟨⟨c1, c2⟩, ⟨t1, t2⟩, ⟨d1, d2⟩, ⟨q1, q2⟩, ⟨j1, j2⟩, -⟩ := rangedB_parts hr
  exact ⟨c1, c2, t1, t2, j1, j2, q1, q2⟩
theorem chkFrom_ok : ∀ (l pre : List Ts), (chkFrom pre l).2 = 0 → ∀ x ∈ l, checkE x = 0
  | [], _, _ => by simp
  | a :: r, pre, h => by
    rw [chkFrom] at h
    by_cases h1 : checkE a ≠ 0
    · rw [if_pos h1] at h; exact absurd h h1
    · rw [if_neg h1] at h
      split at h
      · cases h
      · intro x hx
        rcases List.mem_cons.1 hx with rfl | hx
        · omega
        · exact chkFrom_ok r _ h x hx
theorem vs_of {ts : List Ts} (h : (chkAll ts).2 = 0) : Vs ts := by
  rw [chkAll] at h
  split at h
  · cases h
  · exact ⟨by omega, by omega, fun x hx => tsOk_of (chkFrom_ok ts [] h x hx)⟩
/-- The task at a place. -/
def tk (ts : List Ts) (p : Int) : Ts := ts.getD p.toNat ⟨ByteArray.empty, 1, 1, 1, 0, 1, 1⟩
theorem tk_get {ts : List Ts} {k : Nat} {x : Ts} (h : ts[k]? = some x) : tk ts (k : Int) = x := by
  rw [tk, Int.toNat_natCast, List.getD_eq_getElem?_getD, h]; rfl
theorem Vs.tk {ts : List Ts} (h : Vs ts) (p : Int) : TsOk (tk ts p) := by
  unfold Go.Proofs.Ytnplbmbbocffbaa.tk
  rw [List.getD_eq_getElem?_getD]
  cases hp : ts[p.toNat]? with
  | none => exact ⟨by decide, by decide, by decide, by decide, by decide, by decide, by decide, by decide⟩
  | some x => exact h.all x (List.mem_of_getElem? hp)

/-! ### Sections -/
def secs (q : Int) : Int → List Int → List Int
  | _, [] => []
  | left, c :: r => if left = 0 then [] else (1 + c % min q left) :: secs q (left - (1 + c % min q left)) r
/-- What is left behind some of them. -/
def leftS (left : Int) (l : List Int) : Int := left - l.sum
theorem min_bd (q left : Int) (hq : 1 ≤ q) (hl : 1 ≤ left) : 1 ≤ min q left ∧ min q left ≤ q ∧ min q left ≤ left := by omega
theorem secs_fit (q : Int) (hq : 1 ≤ q) : ∀ (l : List Int) (left : Int), 0 ≤ left → (∀ x ∈ secs q left l, 1 ≤ x ∧ x ≤ q) ∧ (secs q left l).sum ≤ left ∧ (secs q left l).length ≤ l.length
  | [], left, h => by simp [secs]; exact h
  | c :: r, left, h => by
    rw [secs]
    by_cases h0 : left = 0
    · rw [if_pos h0]; simp; exact h
    · rw [if_neg h0]
      have hb := min_bd q left hq (by omega)
      have he := emod_bd c (min q left) (by omega)
      obtain ⟨i1, i2, i3⟩ := secs_fit q hq r (left - (1 + c % min q left)) (by omega)
      refine ⟨fun x hx => ?_, ?_, ?_⟩
      · rcases List.mem_cons.1 hx with rfl | hx
        · omega
        · exact i1 x hx
      · rw [List.sum_cons]; omega
      · simp only [List.length_cons]; omega

/-! ### Jobs of raw numbers -/
def lastT (js : List Fv) (t : Int) : Option Fv := js.reverse.find? fun j => decide (j.t = t)
theorem lastT_nil (t : Int) : lastT [] t = none := rfl
theorem lastT_snoc (js : List Fv) (j : Fv) (t : Int) : lastT (js ++ [j]) t = if j.t = t then some j else lastT js t := by
  rw [lastT, List.reverse_append, List.reverse_singleton, List.singleton_append, List.find?_cons]
  by_cases h : j.t = t <;> simp [h, lastT]
theorem lastT_mem {js : List Fv} {t : Int} {j : Fv} (h : lastT js t = some j) : j ∈ js ∧ j.t = t := by
  have h1 := List.mem_of_find?_eq_some h
  have h2 := List.find?_some h
  exact ⟨by simpa using h1, by simpa using h2⟩
/-- From when on the next job of the task at that place may arrive. -/
def soonI (ts : List Ts) (js : List Fv) (p : Int) : Int := match lastT js p with | none => 0 | some j => j.a + (tk ts p).t
def decJ (ts : List Ts) (js : List Fv) (r : Fv) : Fv :=
  let p := r.t % (ts.length : Int)
  let x := tk ts p
  let a := soonI ts js p + r.a % 1048576
  let k := 1 + r.k % x.c
  ⟨p, a, a + r.r % (x.j + 1), k, secs x.q k r.c⟩
def decF (ts : List Ts) (js : List Fv) : List Fv → List Fv
  | [] => js
  | r :: rs => decF ts (js ++ [decJ ts js r]) rs
/-- All jobs of raw numbers. -/
def decS (ts : List Ts) (rs : List Fv) : List Fv := decF ts [] (rs.take 4096)
theorem decF_len (ts : List Ts) : ∀ (rs js : List Fv), (decF ts js rs).length = js.length + rs.length
  | [], js => by simp [decF]
  | r :: rs, js => by rw [decF, decF_len ts rs]; simp; omega
theorem decF_snoc (ts : List Ts) : ∀ (rs js : List Fv) (r : Fv), decF ts js (rs ++ [r]) = decF ts js rs ++ [decJ ts (decF ts js rs) r]
  | [], js, r => by simp [decF]
  | a :: rs, js, r => by rw [List.cons_append, decF, decF, decF_snoc ts rs]
theorem decF_app (ts : List Ts) : ∀ (rs js qs : List Fv), decF ts js (rs ++ qs) = decF ts (decF ts js rs) qs
  | [], js, qs => rfl
  | a :: rs, js, qs => by rw [List.cons_append, decF, decF, decF_app ts rs]

/-- How great arrivals are. -/
def Bd (js : List Fv) : Prop := ∀ j ∈ js, 0 ≤ j.a ∧ j.a ≤ js.length * 4294967296
theorem Bd.nil : Bd [] := by intro j h; simp at h
theorem soon_bd {ts : List Ts} (hv : Vs ts) {js : List Fv} (h : Bd js) (p : Int) : 0 ≤ soonI ts js p ∧ soonI ts js p ≤ js.length * 4294967296 + 2147483647 := by
  have hx := hv.tk p
  obtain ⟨c0, c1, t0, t1, j0, j1, q0, q1⟩ := hx
  unfold soonI
  cases hl : lastT js p with
  | none => simp only; omega
  | some j =>
    have := h j (lastT_mem hl).1
    simp only
    omega
theorem dec_bd {ts : List Ts} (hv : Vs ts) {js : List Fv} (h : Bd js) (r : Fv) : soonI ts js (r.t % (ts.length : Int)) ≤ (decJ ts js r).a ∧ (decJ ts js r).a ≤ (js.length + 1) * 4294967296 - 2000000000 := by
  have := soon_bd hv h (r.t % (ts.length : Int))
  have := emod_bd r.a 1048576 (by omega)
  simp only [decJ]
  omega
theorem Bd.snoc {ts : List Ts} (hv : Vs ts) {js : List Fv} (h : Bd js) (r : Fv) : Bd (js ++ [decJ ts js r]) := by
  have h1 := dec_bd hv h r
  have h2 := soon_bd hv h (r.t % (ts.length : Int))
  intro j hj
  rw [List.length_append, List.length_singleton]
  rcases List.mem_append.1 hj with hj | hj
  · have := h j hj
    omega
  · rw [List.mem_singleton] at hj
    subst hj
    omega
theorem decF_bd {ts : List Ts} (hv : Vs ts) : ∀ (rs js : List Fv), Bd js → Bd (decF ts js rs)
  | [], js, h => h
  | r :: rs, js, h => decF_bd hv rs _ (h.snoc hv r)
/-- What one job is. -/
theorem dec_parts {ts : List Ts} (hv : Vs ts) (js : List Fv) (r : Fv) : 0 ≤ (decJ ts js r).t ∧ (decJ ts js r).t < ts.length ∧ (decJ ts js r).a ≤ (decJ ts js r).r ∧ (decJ ts js r).r ≤ (decJ ts js r).a + (tk ts (decJ ts js r).t).j ∧ 1 ≤ (decJ ts js r).k ∧ (decJ ts js r).k ≤ (tk ts (decJ ts js r).t).c := by
  have hn := hv.n0
  have h1 := emod_bd r.t (ts.length : Int) (by omega)
  have hx := hv.tk (r.t % (ts.length : Int))
  have h2 := emod_bd r.r ((tk ts (r.t % (ts.length : Int))).j + 1) (by have := hx.j0; omega)
  have h3 := emod_bd r.k ((tk ts (r.t % (ts.length : Int))).c) (by have := hx.c0; omega)
  simp only [decJ]
  omega

/-! ### Legal -/
def fitB (q : Int) : Int → List Int → Bool
  | _, [] => true
  | left, c :: r => decide (1 ≤ c ∧ c ≤ min q left) && fitB q (left - c) r
def legJ (ts : List Ts) (js : List Fv) (j : Fv) : Bool :=
  inB j.t 0 (ts.length - 1) && (inB j.a (soonI ts js j.t) 17592186044416 && (inB j.r j.a (j.a + (tk ts j.t).j) && (inB j.k 1 (tk ts j.t).c && fitB (tk ts j.t).q j.k j.c)))
def legF (ts : List Ts) (js : List Fv) : List Fv → Bool
  | [] => true
  | j :: r => legJ ts js j && legF ts (js ++ [j]) r
def legS (ts : List Ts) (js : List Fv) : Bool := decide ((chkAll ts).2 = 0 ∧ js.length ≤ 4096) && legF ts [] js
theorem secs_fitB (q : Int) (hq : 1 ≤ q) : ∀ (l : List Int) (left : Int), 0 ≤ left → fitB q left (secs q left l) = true
  | [], left, _ => rfl
  | c :: r, left, h => by
    rw [secs]
    by_cases h0 : left = 0
    · rw [if_pos h0]; rfl
    · rw [if_neg h0]
      have hb := min_bd q left hq (by omega)
      have he := emod_bd c (min q left) (by omega)
      rw [fitB, secs_fitB q hq r _ (by omega), decide_eq_true (by omega)]
      rfl
theorem dec_legal {ts : List Ts} (hv : Vs ts) {js : List Fv} (h : Bd js) (hl : js.length < 4096) (r : Fv) : legJ ts js (decJ ts js r) = true := by
  obtain ⟨p1, p2, p3, p4, p5, p6⟩ := dec_parts hv js r
  obtain ⟨a1, a2⟩ := dec_bd hv h r
  have hx := hv.tk (decJ ts js r).t
  have e : (decJ ts js r).t = r.t % (ts.length : Int) := rfl
  have ec : (decJ ts js r).c = secs (tk ts (decJ ts js r).t).q (decJ ts js r).k r.c := rfl
  rw [legJ, inB_yes ⟨p1, by omega⟩, inB_yes ⟨by rw [e]; exact a1, by omega⟩, inB_yes ⟨p3, p4⟩, inB_yes ⟨p5, p6⟩, ec, secs_fitB _ hx.q0 _ _ (by omega)]
  rfl
theorem legF_app (ts : List Ts) : ∀ (a b js : List Fv), legF ts js (a ++ b) = (legF ts js a && legF ts (js ++ a) b)
  | [], b, js => by simp [legF]
  | x :: a, b, js => by
    rw [List.cons_append, legF, legF, legF_app ts a b, Bool.and_assoc]
    simp
theorem snoc_ind {α : Type} {P : List α → Prop} (h0 : P []) (hs : ∀ l x, P l → P (l ++ [x])) (l : List α) : P l := by
  have h : ∀ l : List α, P l.reverse := by
    intro l
    induction l with
    | nil => exact h0
    | cons a r ih => rw [List.reverse_cons]; exact hs _ _ ih
  have := h l.reverse
  rwa [List.reverse_reverse] at this
theorem decF_legal {ts : List Ts} (hv : Vs ts) : ∀ (rs : List Fv), rs.length ≤ 4096 → legF ts [] (decF ts [] rs) = true := by
  refine snoc_ind (fun _ => rfl) fun rs r ih hl => ?_
  · rw [List.length_append, List.length_singleton] at hl
    rw [decF_snoc, legF_app, ih (by omega), legF, List.nil_append, dec_legal hv (decF_bd hv rs [] Bd.nil) (by rw [decF_len]; simp; omega)]
    rfl
theorem decS_legal {ts : List Ts} (hv : (chkAll ts).2 = 0) (rs : List Fv) : legS ts (decS ts rs) = true := by
  have hl : (rs.take 4096).length ≤ 4096 := by rw [List.length_take]; omega
  rw [legS, decS, decF_legal (vs_of hv) _ hl, decide_eq_true ⟨hv, by rw [decF_len]; simp; omega⟩]
  rfl

/-! ### Encode -/
def encJ (g : Int) (j : Fv) : Fv := ⟨j.t, g, j.r - j.a, j.k - 1, j.c.map (· - 1)⟩
def encF (ts : List Ts) (js : List Fv) : List Fv → Option (List Fv)
  | [] => some []
  | j :: r => if j.a - soonI ts js j.t ≥ 1048576 then none else (encF ts (js ++ [j]) r).map (encJ (j.a - soonI ts js j.t) j :: ·)
def encS (ts : List Ts) (js : List Fv) : Option (List Fv) := if legS ts js then encF ts [] js else none
theorem legJ_parts {ts : List Ts} {js : List Fv} {j : Fv} (h : legJ ts js j = true) : (0 ≤ j.t ∧ j.t ≤ ts.length - 1) ∧ (soonI ts js j.t ≤ j.a ∧ j.a ≤ 17592186044416) ∧ (j.a ≤ j.r ∧ j.r ≤ j.a + (tk ts j.t).j) ∧ (1 ≤ j.k ∧ j.k ≤ (tk ts j.t).c) ∧ fitB (tk ts j.t).q j.k j.c = true := by
  simp only [legJ, Bool.and_eq_true, inB_iff] at h
  exact h
theorem secs_back (q : Int) (hq : 1 ≤ q) : ∀ (l : List Int) (left : Int), 0 ≤ left → fitB q left l = true → secs q left (l.map (· - 1)) = l
  | [], left, _, _ => rfl
  | c :: r, left, h0, h => by
    simp only [fitB, Bool.and_eq_true, decide_eq_true_eq] at h
    obtain ⟨⟨h1, h2⟩, h3⟩ := h
    rw [List.map_cons, secs, if_neg (by omega)]
    have e : 1 + (c - 1) % min q left = c := by rw [Int.emod_eq_of_lt (by omega) (by omega)]; omega
    rw [e, secs_back q hq r (left - c) (by omega) h3]
theorem dec_enc {ts : List Ts} (hv : Vs ts) {js : List Fv} {j : Fv} (h : legJ ts js j = true) (hg : j.a - soonI ts js j.t < 1048576) : decJ ts js (encJ (j.a - soonI ts js j.t) j) = j := by
  obtain ⟨⟨t0, t1⟩, ⟨a0, a1⟩, ⟨r0, r1⟩, ⟨k0, k1⟩, hf⟩ := legJ_parts h
  have hx := hv.tk j.t
  have e1 : j.t % (ts.length : Int) = j.t := Int.emod_eq_of_lt t0 (by omega)
  have e2 : (j.a - soonI ts js j.t) % 1048576 = j.a - soonI ts js j.t := Int.emod_eq_of_lt (by omega) (by omega)
  have e3 : (j.r - j.a) % ((tk ts j.t).j + 1) = j.r - j.a := Int.emod_eq_of_lt (by omega) (by omega)
  have e4 : (j.k - 1) % (tk ts j.t).c = j.k - 1 := Int.emod_eq_of_lt (by omega) (by omega)
  have e5 : 1 + (j.k - 1) = j.k := by omega
  have e6 : soonI ts js j.t + (j.a - soonI ts js j.t) = j.a := by omega
  have e7 : j.a + (j.r - j.a) = j.r := by omega
  simp only [decJ, encJ, e1, e2, e3, e4, e5, e6, e7, secs_back _ hx.q0 _ _ (by omega) hf]
theorem encF_len (ts : List Ts) : ∀ (l js : List Fv) (rs : List Fv), encF ts js l = some rs → rs.length = l.length
  | [], js, rs, h => by simp [encF] at h; simp [h]
  | j :: r, js, rs, h => by
    rw [encF] at h
    split at h
    · cases h
    · obtain ⟨qs, hq, rfl⟩ := Option.map_eq_some_iff.1 h
      simp [encF_len ts r _ qs hq]
theorem decF_enc {ts : List Ts} (hv : Vs ts) : ∀ (l js : List Fv) (rs : List Fv), legF ts js l = true → encF ts js l = some rs → decF ts js rs = js ++ l
  | [], js, rs, _, h => by simp [encF] at h; subst h; simp [decF]
  | j :: r, js, rs, hl, h => by
    rw [legF, Bool.and_eq_true] at hl
    rw [encF] at h
    split at h
    · cases h
    · obtain ⟨qs, hq, rfl⟩ := Option.map_eq_some_iff.1 h
      rw [decF, dec_enc hv hl.1 (by omega), decF_enc hv r _ qs hl.2 hq]
      simp
theorem decS_enc {ts : List Ts} {js rs : List Fv} (h : encS ts js = some rs) : decS ts rs = js := by
  rw [encS] at h
  split at h
  · rename_i hl
    rw [legS, Bool.and_eq_true, decide_eq_true_eq] at hl
    have hlen := encF_len ts js [] rs h
    rw [decS, List.take_of_length_le (by omega), decF_enc (vs_of hl.1.1) js [] rs hl.2 h]
    rfl
  · cases h
end Go.Proofs.Ytnplbmbbocffbaa
/- The small functions: rests, whether a number lies between two, whether a set may be; the map of last arrivals. -/
namespace Go.Proofs.Ytnplbmbbocffbaa
open Go.RowKit
set_option linter.unusedVariables false
set_option linter.unusedSimpArgs false

/-! ### Rests -/
theorem lrest_any (x n : Int) (w : World) (hx : in64 x) (hn : 0 < n) (hn2 : n ≤ 100000) : Calls Try.prog 22 #[.int .i64 x, .int .i64 n] w fun e w' => e = .returned (.int .i64 (x % n)) ∧ w = w' := by
  rw [← restI_emod x n hn hn2]
  exact rest_any x n w hx hn hn2
set_option maxHeartbeats 1000000 in
theorem r8rest_any (x n : Int) (w : World) (hx : in64 x) (hn : 0 < n) (hn2 : n ≤ 4294967296) : Calls Try.prog 33 #[.int .i64 x, .int .i64 n] w fun e w' => e = .returned (.int .i64 (x % n)) ∧ w = w' := by
  have e : x % n = (wrap64 (x.tmod n + n)).tmod n := by
    have hb := tmod_bd x n hn
    rw [IntWalk.wrap64_in _ (by omega), twice_tmod x n hn]
  rw [e]
  obtain ⟨h1, h2⟩ := hx
  clear e
  go_enter Try.func33, Try.ntmps33
  go_wp2
  go_ret
  exact ⟨rfl, rfl⟩
/-! ### Whether a set may be -/
/-! ### Maps of numbers by numbers -/
def miP (ps : List (Int × Int)) : List (Value × Value) := ps.map fun p => (.int .i64 p.1, .int .i64 p.2)
/-- Block r holds a map that tells what f does. -/
def MI (w : World) (r : Nat) (f : Int → Option Int) : Prop := ∃ (es : Array MapEntry) (c : Nat) (ps : List (Int × Int)), w.heap[r]? = some (.map es c) ∧ es.toList.map (fun e => (e.key, e.val)) = miP ps ∧ ∀ t, ps.lookup t = f t
theorem MI.is {w : World} {r : Nat} {f : Int → Option Int} (h : MI w r f) : ∃ es c, w.heap[r]? = some (.map es c) := by
  obtain ⟨es, c, _, h1, _⟩ := h
  exact ⟨es, c, h1⟩
theorem MI.lt {w : World} {r : Nat} {f : Int → Option Int} (h : MI w r f) : r < w.heap.size := by
  obtain ⟨es, c, _, h1, _⟩ := h
  exact (Array.getElem?_eq_some_iff.1 h1).1
theorem MI.later {w w' : World} {r : Nat} {f : Int → Option Int} (h : MI w r f) (hb : Below w.heap.size w w') : MI w' r f := by
  obtain ⟨es, c, ps, h1, h2⟩ := h
  exact ⟨es, c, ps, (hb.block r ((Array.getElem?_eq_some_iff.1 h1).1)).trans h1, h2⟩
theorem MI.kept {X : List Nat} {w w' : World} {r : Nat} {f : Int → Option Int} (h : MI w r f) (hk : Kept X w w') (hx : r ∉ X) : MI w' r f := by
  obtain ⟨es, c, ps, h1, h2⟩ := h
  exact ⟨es, c, ps, (hk.block r ((Array.getElem?_eq_some_iff.1 h1).1) hx).trans h1, h2⟩
theorem MI.cell {w : World} {r : Nat} {f : Int → Option Int} (h : MI w r f) (o : Nat) : w.cell? ⟨r, o, none⟩ = none := by
  obtain ⟨es, c, h1⟩ := h.is
  exact cell_of_map h1 o
theorem MI.new (w : World) : MI (w.alloc (.map #[] 0)) w.heap.size fun _ => none := ⟨#[], 0, [], heap_alloc_new w _, rfl, fun _ => rfl⟩
theorem find_mi (s : Int) (kk : IntKind) : ∀ (es : List MapEntry) (ps : List (Int × Int)) (i : Nat), es.map (fun e => (e.key, e.val)) = miP ps →
    (∃ j v, ps.lookup s = some v ∧ j < es.length ∧ (es[j]?.map (·.key)) = some (.int .i64 s) ∧ Instr.findNow (.int kk) (.int .i64 s) es i = some (some (i + j, .int .i64 v)) ∧ ∀ x t, (ps.modify j fun p => (p.1, x)).lookup t = if t = s then some x else ps.lookup t) ∨
    (ps.lookup s = none ∧ Instr.findNow (.int kk) (.int .i64 s) es i = some none)
  | [], ps, i, h => by
    cases ps with
    | nil => exact .inr ⟨rfl, rfl⟩
    | cons a r => simp [miP] at h
  | e :: es, ps, i, h => by
    cases ps with
    | nil => simp [miP] at h
    | cons a r =>
      simp only [miP, List.map_cons, List.cons.injEq, Prod.mk.injEq] at h
      obtain ⟨⟨h1, h3⟩, h2⟩ := h
      have ih := find_mi s kk es r (i + 1) h2
      unfold Instr.findNow
      rw [h1]
      simp only [Instr.sameNow, if_true]
      obtain ⟨ak, av⟩ := a
      by_cases hs : s = ak
      · subst hs
        simp only [beq_self_eq_true]
        refine .inl ⟨0, av, by simp [List.lookup], by simp, by simp [h1], by simp [h3], fun x t => ?_⟩
        by_cases ht : t = s
        · subst ht; simp [List.lookup]
        · have : (t == s) = false := by simpa using ht
          simp [List.lookup, this, ht]
      · have hb : (s == ak) = false := by simpa using hs
        simp only [hb]
        rcases ih with ⟨j, v, i1, i2, i3, i4, i5⟩ | ⟨i1, i2⟩
        · refine .inl ⟨j + 1, v, by simp [List.lookup, hb, i1], by simp; exact i2, by simpa using i3, by rw [i4]; simp; omega, fun x t => ?_⟩
          rw [List.modify_succ_cons]
          by_cases ht : t = ak
          · subst ht
            have : ¬ t = s := fun e => hs e.symm
            simp [List.lookup, this]
          · have hb2 : (t == ak) = false := by simpa using ht
            simp only [List.lookup, hb2]
            exact i5 x t
        · exact .inr ⟨by simp [List.lookup, hb, i1], i2⟩
theorem zero64 (w : World) : (zeroValue 2).run Try.prog w = .ok (.int .i64 0) w := by kernel_rfl
theorem zeroI (w : World) : (zeroValue 3).run Try.prog w = .ok (.int .i64 0) w := by kernel_rfl
def updF (f : Int → Option Int) (p v : Int) : Int → Option Int := fun t => if t = p then some v else f t
end Go.Proofs.Ytnplbmbbocffbaa
/- From when on a job may arrive; what keeps it; sections; a job of raw numbers. -/
namespace Go.Proofs.Ytnplbmbbocffbaa
open Go.RowKit
set_option linter.unusedVariables false
set_option linter.unusedSimpArgs false

def soonV (f : Int → Option Int) (ts : List Ts) (p : Int) : Int := match f p with | none => 0 | some a => a + (tk ts p).t
def SecPost (sl : List Int) (w : World) (e : Ending) (w' : World) : Prop :=
  ∃ C cc, e = .returned (.slice C sl.length cc) ∧ CRow w' C cc sl ∧ (sl ≠ [] → ∀ a, C = some a → w.heap.size ≤ a.block ∧ ∃ cs fr, w'.heap[a.block]? = some (.cells cs 2 fr)) ∧ Below w.heap.size w w'
/-- Sections so far. -/
structure SecIn (B : Nat) (w : World) (v : Value) (pre : List Int) : Prop where
  row : w.ownsRow B 2 1 v pre.length (numL pre)
  wf : ∀ x ∈ pre, in64 x
theorem numL_snoc (l : List Int) (x : Int) : numL (l ++ [x]) = numL l ++ [.int .i64 x] := by simp [numL]
theorem secs_post {q k : Int} {l pre : List Int} {v : Value} {w w1 : World} (h : SecIn w.heap.size w1 v pre) (hq : secs q k l = pre) (hL : Below w.heap.size w w1) : SecPost (secs q k l) w (.returned v) w1 := by
  obtain ⟨C, cc, hv, _, hC, hs⟩ := crow_own h.row h.wf
  rw [SecPost, hq]
  exact ⟨C, cc, by rw [hv], hC, hs, hL⟩
end Go.Proofs.Ytnplbmbbocffbaa
/- A job of raw numbers. -/
namespace Go.Proofs.Ytnplbmbbocffbaa
open Go.RowKit
set_option linter.unusedVariables false
set_option linter.unusedSimpArgs false

/-- Five cells of a block of its own. -/
structure FB (w : World) (b : Nat) (T : TypeId) (v0 v1 v2 v3 v4 : Value) : Prop where
  is : w.heap[b]? = some (.cells #[v0, v1, v2, v3, v4] T (0, 0))
theorem FB.lt {w : World} {b : Nat} {T : TypeId} {v0 v1 v2 v3 v4 : Value} (h : FB w b T v0 v1 v2 v3 v4) : b < w.heap.size := (Array.getElem?_eq_some_iff.1 h.is).1
theorem FB.z {w : World} {b : Nat} {T : TypeId} {v0 v1 v2 v3 v4 : Value} (h : FB w b T v0 v1 v2 v3 v4) : w.cell? ⟨b, 0, none⟩ = some v0 ∧ w.cell? ⟨b, 1, none⟩ = some v1 ∧ w.cell? ⟨b, 2, none⟩ = some v2 ∧ w.cell? ⟨b, 3, none⟩ = some v3 ∧ w.cell? ⟨b, 4, none⟩ = some v4 := by
  refine ⟨?_, ?_, ?_, ?_, ?_⟩ <;> (rw [cell_of_row w b _ _ _ _ h.is]; rfl)
theorem FB.fz {w : World} {b : Nat} {T : TypeId} {v0 v1 v2 v3 v4 : Value} (h : FB w b T v0 v1 v2 v3 v4) (i : Nat) : w.frozen? ⟨b, i, none⟩ = false := frozen_of_row w b i _ _ h.is
theorem FB.later {w w' : World} {b : Nat} {T : TypeId} {v0 v1 v2 v3 v4 : Value} (h : FB w b T v0 v1 v2 v3 v4) (hb : Below w.heap.size w w') : FB w' b T v0 v1 v2 v3 v4 := ⟨(hb.block b h.lt).trans h.is⟩
theorem FB.kept {X : List Nat} {w w' : World} {b : Nat} {T : TypeId} {v0 v1 v2 v3 v4 : Value} (h : FB w b T v0 v1 v2 v3 v4) (hb : Kept X w w') (hx : b ∉ X) : FB w' b T v0 v1 v2 v3 v4 := ⟨(hb.block b h.lt hx).trans h.is⟩
theorem FB.new (w : World) (T : TypeId) (v0 v1 v2 v3 v4 : Value) : FB (w.alloc (.cells #[v0, v1, v2, v3, v4] T)) w.heap.size T v0 v1 v2 v3 v4 := ⟨heap_alloc_new w _⟩
theorem FB.set {w : World} {b i : Nat} {T : TypeId} {v0 v1 v2 v3 v4 u0 u1 u2 u3 u4 : Value} (h : FB w b T v0 v1 v2 v3 v4) (u : Value) (he : (#[v0, v1, v2, v3, v4].setIfInBounds i u) = #[u0, u1, u2, u3, u4]) : FB (w.setCell ⟨b, i, none⟩ u) b T u0 u1 u2 u3 u4 := ⟨by
  rw [heap_setCell_same _ b i _ _ u h.is, he]⟩
theorem results_job {fn : Func} {p : Tmp} (h : fn.results = #[.cell p 37]) (tmps : Array Value) (w : World) (b : Nat) (v0 v1 v2 v3 v4 : Value) (hp : tmps.getD p undef = .pointer (some ⟨b, 0, none⟩)) (hb : FB w b 37 v0 v1 v2 v3 v4) :
    (results fn tmps).run Try.prog w = .ok (.agg #[v0, v1, v2, v3, v4]) w :=
  results_cell_row h tmps w b _ _ _ _ hp hb.is Try.underlying37 rfl infoJ
theorem results_raw {fn : Func} {p : Tmp} (h : fn.results = #[.cell p 80]) (tmps : Array Value) (w : World) (b : Nat) (v0 v1 v2 v3 v4 : Value) (hp : tmps.getD p undef = .pointer (some ⟨b, 0, none⟩)) (hb : FB w b 80 v0 v1 v2 v3 v4) :
    (results fn tmps).run Try.prog w = .ok (.agg #[v0, v1, v2, v3, v4]) w :=
  results_cell_row h tmps w b _ _ _ _ hp hb.is Try.underlying80 rfl infoR

theorem FB.set5 {w : World} {b : Nat} {T : TypeId} {v0 v1 v2 v3 v4 : Value} (h : FB w b T v0 v1 v2 v3 v4) (u0 u1 u2 u3 u4 : Value) : FB (w.setCells b 0 [u0, u1, u2, u3, u4]) b T u0 u1 u2 u3 u4 := by
  simp only [World.setCells]
  exact ((((h.set u0 rfl).set u1 rfl).set u2 rfl).set u3 rfl).set u4 rfl
theorem FB.there {w : World} {b : Nat} {T : TypeId} {v0 v1 v2 v3 v4 : Value} (h : FB w b T v0 v1 v2 v3 v4) : w.there b 0 5 := fun j hj => by
  obtain ⟨z0, z1, z2, z3, z4⟩ := h.z
  rw [Nat.zero_add]
  refine ⟨?_, h.fz j⟩
  rcases (by omega : j = 0 ∨ j = 1 ∨ j = 2 ∨ j = 3 ∨ j = 4) with rfl | rfl | rfl | rfl | rfl
  · rw [z0]; rfl
  · rw [z1]; rfl
  · rw [z2]; rfl
  · rw [z3]; rfl
  · rw [z4]; rfl
theorem kept_set5 (w : World) (b : Nat) (vs : List Value) : ∀ (o : Nat), Kept [b] w (w.setCells b o vs) := by
  induction vs generalizing w with
  | nil => intro o; exact Kept.refl _ _
  | cons v r ih => intro o; exact ((Kept.refl [b] w).set b o v (by simp)).trans (ih _ (o + 1))
theorem CRow.kept {X : List Nat} {w w' : World} {A : Option Addr} {cap : Nat} {l : List Int} (h : CRow w A cap l) (hk : Kept X w w') (hx : l ≠ [] → ∀ a, A = some a → a.block ∉ X) : CRow w' A cap l :=
  ⟨h.le, h.mx, h.wf, fun i x hi => by
    obtain ⟨b, o, e, hc⟩ := h.at_ i x hi
    exact ⟨b, o, e, (hk.cell (World.block_lt_of_cell? w _ hc) (hx (by intro h0; rw [h0] at hi; simp at hi) ⟨b, o, none⟩ e)).trans hc⟩⟩
abbrev D4 (N b1 b2 : Nat) (xj xq rr : Int) (V : Value) (W : World) : Prop := W.cell? ⟨N, 4, none⟩ = some (.int .i64 xj) ∧ W.cell? ⟨N, 5, none⟩ = some (.int .i64 xq) ∧ W.cell? ⟨b1, 2, none⟩ = some (.int .i64 rr) ∧ W.cell? ⟨b1, 4, none⟩ = some V ∧ (N ≠ b2 ∧ b1 ≠ b2)
theorem D4.step {W W' : World} {N b1 b2 : Nat} {xj xq rr : Int} {V : Value} (h : D4 N b1 b2 xj xq rr V W) (hb : Below W.heap.size W W') : D4 N b1 b2 xj xq rr V W' := by
  obtain ⟨h1, h2, h3, h4, h5⟩ := h
  have hc := cells_below hb
  exact ⟨hc _ _ _ h1, hc _ _ _ h2, hc _ _ _ h3, hc _ _ _ h4, h5⟩
theorem D4.set {W : World} {N b1 b2 : Nat} {xj xq rr : Int} {V : Value} (h : D4 N b1 b2 xj xq rr V W) (i : Nat) (u : Value) : D4 N b1 b2 xj xq rr V (W.setCell ⟨b2, i, none⟩ u) := by
  obtain ⟨h1, h2, h3, h4, h5, h6⟩ := h
  have hc : ∀ b o, b ≠ b2 → (W.setCell ⟨b2, i, none⟩ u).cell? ⟨b, o, none⟩ = W.cell? ⟨b, o, none⟩ := fun b o hb => World.cell?_setCell_other _ _ _ _ (by intro e; exact hb (congrArg Addr.block e).symm)
  exact ⟨(hc _ _ h5).trans h1, (hc _ _ h5).trans h2, (hc _ _ h6).trans h3, (hc _ _ h6).trans h4, h5, h6⟩
theorem D4.set5 {W : World} {N b1 b2 : Nat} {xj xq rr : Int} {V : Value} (h : D4 N b1 b2 xj xq rr V W) (u0 u1 u2 u3 u4 : Value) : D4 N b1 b2 xj xq rr V (((((W.setCell ⟨b2, 0, none⟩ u0).setCell ⟨b2, 1, none⟩ u1).setCell ⟨b2, 2, none⟩ u2).setCell ⟨b2, 3, none⟩ u3).setCell ⟨b2, 4, none⟩ u4) := ((((h.set 0 u0).set 1 u1).set 2 u2).set 3 u3).set 4 u4
def DecPost (x : Fv) (w : World) (e : Ending) (w' : World) : Prop :=
  ∃ C cc, e = .returned (fvV x C cc) ∧ CRow w' C cc x.c ∧ (x.c ≠ [] → ∀ a, C = some a → w.heap.size ≤ a.block ∧ ∃ cs fr, w'.heap[a.block]? = some (.cells cs 2 fr)) ∧ Below w.heap.size w w'
end Go.Proofs.Ytnplbmbbocffbaa
/- What arrived last, kept in a map; jobs in blocks of their own; what the walks of Decode hold. -/
namespace Go.Proofs.Ytnplbmbbocffbaa
open Go.RowKit
set_option linter.unusedVariables false
set_option linter.unusedSimpArgs false

/-! ### What arrived last -/
def lastF (js : List Fv) : Int → Option Int := fun t => (lastT js t).map (·.a)
theorem lastF_nil : lastF [] = fun _ => none := by funext t; rfl
theorem lastF_snoc (js : List Fv) (j : Fv) : lastF (js ++ [j]) = updF (lastF js) j.t j.a := by
  funext t
  simp only [lastF, updF, lastT_snoc]
  by_cases h : t = j.t
  · rw [if_pos h.symm, if_pos h]; rfl
  · rw [if_neg (fun e => h e.symm), if_neg h]
theorem soonV_last (ts : List Ts) (js : List Fv) (p : Int) : soonV (lastF js) ts p = soonI ts js p := by
  unfold soonV soonI lastF
  cases lastT js p <;> rfl
theorem take_one {α : Type} {l : List α} {k : Nat} {x : α} (h : l[k]? = some x) : l.take (k + 1) = l.take k ++ [x] := by
  rw [List.take_add_one, h]; rfl
/-! ### The walk -/
/-- A job in a block of its own. -/
structure JB (W1 w : World) (b : Nat) (x : Fv) (C : Option Addr) (cc : Nat) : Prop where
  fb : FB w b 37 (.int .i64 x.t) (.int .i64 x.a) (.int .i64 x.r) (.int .i64 x.k) (.slice C x.c.length cc)
  wf : FvW x
  s : CRow w C cc x.c
  ty : x.c ≠ [] → ∀ a, C = some a → ∃ cs fr, w.heap[a.block]? = some (.cells cs 2 fr)
  bel : Below W1.heap.size W1 w
  ge : W1.heap.size ≤ b
theorem JB.ofSet {W1 w : World} {b : Nat} {x : Fv} {C : Option Addr} {cc : Nat} {v0 v1 v2 v3 v4 : Value} (h : FB w b 37 v0 v1 v2 v3 v4) (hw : FvW x) (hs : CRow w C cc x.c)
    (ty : x.c ≠ [] → ∀ a, C = some a → ∃ cs fr, w.heap[a.block]? = some (.cells cs 2 fr)) (hb : Below W1.heap.size W1 w) (hg : W1.heap.size ≤ b) :
    JB W1 (((((w.setCell ⟨b, 0, none⟩ (.int .i64 x.t)).setCell ⟨b, 1, none⟩ (.int .i64 x.a)).setCell ⟨b, 2, none⟩ (.int .i64 x.r)).setCell ⟨b, 3, none⟩ (.int .i64 x.k)).setCell ⟨b, 4, none⟩ (.slice C x.c.length cc)) b x C cc := by
  have hk := ((((((Kept.refl [b] w).set b 0 (.int .i64 x.t) (by simp)).set b 1 (.int .i64 x.a) (by simp)).set b 2 (.int .i64 x.r) (by simp)).set b 3 (.int .i64 x.k) (by simp)).set b 4 (.slice C x.c.length cc) (by simp))
  have hne : x.c ≠ [] → ∀ a, C = some a → a.block ∉ [b] := fun hc a ha hm => by
    rw [List.mem_singleton] at hm
    obtain ⟨cs, fr, ht⟩ := ty hc a ha
    rw [hm, h.is] at ht
    cases ht
  refine ⟨((((h.set (i := 0) (.int .i64 x.t) rfl).set (i := 1) (.int .i64 x.a) rfl).set (i := 2) (.int .i64 x.r) rfl).set (i := 3) (.int .i64 x.k) rfl).set (i := 4) (.slice C x.c.length cc) rfl, hw, hs.kept hk hne, fun hc a ha => ?_, hb.trans (hk.below hb.size (by simp; exact hg)), hg⟩
  obtain ⟨cs, fr, ht⟩ := ty hc a ha
  exact ⟨cs, fr, (hk.block a.block (Array.getElem?_eq_some_iff.1 ht).1 (hne hc a ha)).trans ht⟩
theorem JB.ofAlloc {W1 w : World} {x : Fv} {C : Option Addr} {cc : Nat} (hw : FvW x) (hs : CRow w C cc x.c)
    (ty : x.c ≠ [] → ∀ a, C = some a → ∃ cs fr, w.heap[a.block]? = some (.cells cs 2 fr)) (hb : Below W1.heap.size W1 w) :
    JB W1 (w.alloc (.cells #[.int .i64 x.t, .int .i64 x.a, .int .i64 x.r, .int .i64 x.k, .slice C x.c.length cc] 37)) w.heap.size x C cc := by
  have hb2 : Below w.heap.size w (w.alloc (.cells #[.int .i64 x.t, .int .i64 x.a, .int .i64 x.r, .int .i64 x.k, .slice C x.c.length cc] 37)) := (Below.refl _ _).alloc (Nat.le_refl _) _
  refine ⟨FB.new _ _ _ _ _ _ _, hw, hs.later hb2, fun hc a ha => ?_, hb.trans (hb2.mono hb.size), hb.size⟩
  obtain ⟨cs, fr, ht⟩ := ty hc a ha
  exact ⟨cs, fr, (hb2.block a.block (Array.getElem?_eq_some_iff.1 ht).1).trans ht⟩
theorem JB.fat {W1 w : World} {b : Nat} {x : Fv} {C : Option Addr} {cc : Nat} (h : JB W1 w b x C cc) : FAt w b 0 x C cc :=
  ⟨fun j v hv => by rw [Nat.zero_add, cell_of_row w b j _ _ _ h.fb.is]; simpa [fvL] using hv, h.wf, h.s⟩
theorem JB.setT {W1 w : World} {b : Nat} {x : Fv} {C : Option Addr} {cc : Nat} (h : JB W1 w b x C cc) (p : Int) (hp : in64 p) : JB W1 (w.setCell ⟨b, 0, none⟩ (.int .i64 p)) b { x with t := p } C cc := by
  have hk := (Kept.refl [b] w).set b 0 (.int .i64 p) (by simp)
  have hne : x.c ≠ [] → ∀ a, C = some a → a.block ∉ [b] := fun hc a ha hm => by
    rw [List.mem_singleton] at hm
    obtain ⟨cs, fr, ht⟩ := h.ty hc a ha
    rw [hm, h.fb.is] at ht
    cases ht
  refine ⟨h.fb.set (i := 0) (.int .i64 p) rfl, ⟨hp, h.wf.a, h.wf.r, h.wf.k⟩, h.s.kept hk hne, fun hc a ha => ?_, h.bel.trans (hk.below h.bel.size (by simp; exact h.ge)), h.ge⟩
  obtain ⟨cs, fr, ht⟩ := h.ty hc a ha
  exact ⟨cs, fr, (hk.block a.block (Array.getElem?_eq_some_iff.1 ht).1 (hne hc a ha)).trans ht⟩
def LtW (W1 : World) (tb b8 M : Nat) (W : World) : Prop := Below W1.heap.size W1 W ∧ tb < W1.heap.size ∧ b8 < W1.heap.size ∧ M + 1 < W1.heap.size
abbrev D9 (W1 : World) (tb o b8 M : Nat) (y : Ts) (x : Fv) (C : Option Addr) (cc : Nat) (A : Option Addr) (n cap : Nat) (W : World) : Prop :=
  W.cell? ⟨tb, o, none⟩ = some (.string y.n) ∧ W.cell? ⟨tb, o + 1, none⟩ = some (.int .i64 y.c) ∧ W.cell? ⟨tb, o + 2, none⟩ = some (.int .i64 y.t) ∧ W.cell? ⟨tb, o + 3, none⟩ = some (.int .i64 y.d) ∧ W.cell? ⟨tb, o + 4, none⟩ = some (.int .i64 y.j) ∧ W.cell? ⟨tb, o + 5, none⟩ = some (.int .i64 y.q) ∧ W.cell? ⟨tb, o + 6, none⟩ = some (.int .i64 y.p) ∧
  W.cell? ⟨b8, 0, none⟩ = some (.int .i64 x.t) ∧ W.cell? ⟨b8, 1, none⟩ = some (.int .i64 x.a) ∧ W.cell? ⟨b8, 2, none⟩ = some (.int .i64 x.r) ∧ W.cell? ⟨b8, 3, none⟩ = some (.int .i64 x.k) ∧ W.cell? ⟨b8, 4, none⟩ = some (.slice C x.c.length cc) ∧
  W.cell? ⟨M + 1, 0, none⟩ = some (.slice A n cap) ∧ W.cell? ⟨M + 1, 1, none⟩ = some (.map (some M)) ∧ LtW W1 tb b8 M W
theorem D9.step {W1 : World} {tb o b8 M : Nat} {y : Ts} {x : Fv} {C : Option Addr} {cc : Nat} {A : Option Addr} {n cap : Nat} {W W' : World} (h : D9 W1 tb o b8 M y x C cc A n cap W) (hb : Below W.heap.size W W') : D9 W1 tb o b8 M y x C cc A n cap W' := by
  obtain ⟨h0, h1, h2, h3, h4, h5, h6, g0, g1, g2, g3, g4, m0, m1, hl⟩ := h
  have hc := cells_below hb
  exact ⟨hc _ _ _ h0, hc _ _ _ h1, hc _ _ _ h2, hc _ _ _ h3, hc _ _ _ h4, hc _ _ _ h5, hc _ _ _ h6, hc _ _ _ g0, hc _ _ _ g1, hc _ _ _ g2, hc _ _ _ g3, hc _ _ _ g4, hc _ _ _ m0, hc _ _ _ m1, Below.trans hl.1 (hb.mono (Below.size hl.1)), hl.2⟩
theorem D9.lt {W1 : World} {tb o b8 M : Nat} {y : Ts} {x : Fv} {C : Option Addr} {cc : Nat} {A : Option Addr} {n cap : Nat} {W : World} (h : D9 W1 tb o b8 M y x C cc A n cap W) : Below W1.heap.size W1 W := h.2.2.2.2.2.2.2.2.2.2.2.2.2.2.1
theorem D9.set {W1 : World} {tb o b8 M b : Nat} {y : Ts} {x : Fv} {C : Option Addr} {cc : Nat} {A : Option Addr} {n cap : Nat} {W : World} (h : D9 W1 tb o b8 M y x C cc A n cap W) (hb : W1.heap.size ≤ b) (i : Nat) (u : Value) : D9 W1 tb o b8 M y x C cc A n cap (W.setCell ⟨b, i, none⟩ u) := by
  obtain ⟨h0, h1, h2, h3, h4, h5, h6, g0, g1, g2, g3, g4, m0, m1, hl, l1, l2, l3⟩ := h
  have hc : ∀ q o v, q < W1.heap.size → W.cell? ⟨q, o, none⟩ = some v → (W.setCell ⟨b, i, none⟩ u).cell? ⟨q, o, none⟩ = some v := fun q o v hq hv => (World.cell?_setCell_other _ _ _ _ (by intro e; have := congrArg Addr.block e; simp only at this; omega)).trans hv
  exact ⟨hc _ _ _ l1 h0, hc _ _ _ l1 h1, hc _ _ _ l1 h2, hc _ _ _ l1 h3, hc _ _ _ l1 h4, hc _ _ _ l1 h5, hc _ _ _ l1 h6, hc _ _ _ l2 g0, hc _ _ _ l2 g1, hc _ _ _ l2 g2, hc _ _ _ l2 g3, hc _ _ _ l2 g4, hc _ _ _ l3 m0, hc _ _ _ l3 m1, hl.setCell (p := ⟨b, i, none⟩) hb u, l1, l2, l3⟩
theorem D9.set5 {W1 : World} {tb o b8 M b : Nat} {y : Ts} {x : Fv} {C : Option Addr} {cc : Nat} {A : Option Addr} {n cap : Nat} {W : World} (h : D9 W1 tb o b8 M y x C cc A n cap W) (hb : W1.heap.size ≤ b) (u0 u1 u2 u3 u4 : Value) :
    D9 W1 tb o b8 M y x C cc A n cap (((((W.setCell ⟨b, 0, none⟩ u0).setCell ⟨b, 1, none⟩ u1).setCell ⟨b, 2, none⟩ u2).setCell ⟨b, 3, none⟩ u3).setCell ⟨b, 4, none⟩ u4) := ((((h.set hb 0 u0).set hb 1 u1).set hb 2 u2).set hb 3 u3).set hb 4 u4
def DecodePost (js : List Fv) (w : World) (e : Ending) (w' : World) : Prop := ∃ v gs, e = .returned v ∧ FOwn 37 w.heap.size w' v gs ∧ gs.map (·.x) = js ∧ Below w.heap.size w w'
theorem decF_task {ts : List Ts} (hv : Vs ts) (rs : List Fv) : ∀ j ∈ decF ts [] rs, 0 ≤ j.t ∧ j.t < ts.length := by
  refine snoc_ind (P := fun rs => ∀ j ∈ decF ts [] rs, 0 ≤ j.t ∧ j.t < ts.length) (by intro j hj; simp [decF] at hj) (fun l r ih j hj => ?_) rs
  rw [decF_snoc] at hj
  rcases List.mem_append.1 hj with hj | hj
  · exact ih j hj
  · rw [List.mem_singleton] at hj
    subst hj
    have := dec_parts hv (decF ts [] l) r
    omega
theorem decF_good {ts : List Ts} (hv : Vs ts) (rs : List Fv) (hl : rs.length ≤ 4096) : ∀ j ∈ decF ts [] rs, 0 ≤ j.t ∧ j.t < ts.length ∧ 0 ≤ j.a ∧ j.a ≤ 35184372088832 := fun j hj => by
  have h1 := decF_task hv rs j hj
  have h2 := decF_bd hv rs [] Bd.nil j hj
  rw [decF_len] at h2
  simp only [List.length_nil] at h2
  omega
end Go.Proofs.Ytnplbmbbocffbaa
/- The document's last. -/
namespace Go.Proofs.Ytnplbmbbocffbaa
open Go.RowKit
set_option linter.unusedVariables false
set_option linter.unusedSimpArgs false

def LastIs (js : List Fv) (t r : Int) : Prop := (r = -1 ∧ lastT js t = none) ∨ ∃ (i : Nat) (x : Fv), r = (i : Int) ∧ js[i]? = some x ∧ lastT js t = some x
set_option maxRecDepth 100000 in
set_option maxHeartbeats 2000000 in
theorem last_any (A : Option Addr) (cap : Nat) (js : List Fv) (t : Int) (w : World) (hR : FRow w A cap js) :
    Calls Try.prog 34 #[.slice A js.length cap, .int .i64 t] w fun e w' => ∃ r, e = .returned (.int .i64 r) ∧ LastIs js t r ∧ w = w' := by
  have hle := hR.le
  have hmx := hR.mx
  have ROW := Lib.hid hR
  clear hR
  have HS : Hid (lastT js t = lastT (js.take js.length) t) := Lib.hid (by rw [List.take_length])
  go_enter Try.func34, Try.ntmps34
  go_wp2
  go_loopw [5] (fun i wr => ∃ m : Nat, m ≤ js.length ∧ i = .int .i64 ((m : Int) - 1) ∧ wr = w ∧ Hid (lastT js t = lastT (js.take m) t)) (fun i _ => (intOf i + 1).toNat)
  case atStart => exact ⟨js.length, Nat.le_refl _, rfl, rfl, HS⟩
  case round =>
    obtain ⟨m, hm, rfl, rfl, hq⟩ := hrel
    cases m with
    | zero =>
      have t0 : decide (((0 : Nat) : Int) - 1 ≥ 0) = false := decide_eq_false (by omega)
      go_wp2
      go_ret
      exact ⟨-1, rfl, .inl ⟨rfl, by rw [hq.out]; rfl⟩, rfl⟩
    | succ k =>
      obtain ⟨b, o, x, C, cc, rfl, hx, hbl, hF⟩ := ROW.out.get (k := k) (by omega)
      have e1 : ((k + 1 : Nat) : Int) - 1 = (k : Int) := by omega
      rw [e1]
      have c0 := hF.c0
      have hi0 : (0 : Int) ≤ (k : Int) := by omega
      have hi1 : (k : Int) < (js.length : Int) := by omega
      have HX := Lib.hid hx
      have HQ : Hid (lastT js t = if x.t = t then some x else lastT (js.take k) t) := Lib.hid (by rw [hq.out, take_one hx, lastT_snoc])
      clear hF hx e1 hq
      by_cases ht : x.t = t
      · have tb : (x.t == t) = true := by simpa using ht
        have HT := Lib.hid ht
        clear ht
        go_wp2
        go_ret
        exact ⟨k, rfl, .inr ⟨k, x, rfl, HX.out, by rw [HQ.out, if_pos HT.out]⟩, rfl⟩
      · have tb : (x.t == t) = false := by rw [beq_eq_false_iff_ne]; exact ht
        have HT := Lib.hid ht
        clear ht
        go_wp2
        go_roundw
        case rel => exact ⟨k, by omega, by go_num, trivial, Lib.hid (by rw [HQ.out, if_neg HT.out])⟩
        case measure => simp [intOf]
end Go.Proofs.Ytnplbmbbocffbaa
