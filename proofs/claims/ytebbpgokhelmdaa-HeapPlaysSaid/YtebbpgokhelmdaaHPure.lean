/- Things of which the least goes first: rows that stand as trees; plain facts. -/
namespace Go.Proofs.Ytebbpgokhelmdaa
set_option linter.unusedVariables false
set_option linter.unusedSimpArgs false
section
variable {E : Type} (key : E → Int)
/-- Of two things, does the first one go first? -/
def lexB (a b : E × Nat) : Bool := decide (key a.1 < key b.1) || (decide (key a.1 = key b.1) && decide (a.2 < b.2))
theorem lexB_true {a b : E × Nat} : lexB key a b = true ↔ key a.1 < key b.1 ∨ (key a.1 = key b.1 ∧ a.2 < b.2) := by simp [lexB]
theorem lexB_false {a b : E × Nat} : lexB key a b = false ↔ ¬ (key a.1 < key b.1 ∨ (key a.1 = key b.1 ∧ a.2 < b.2)) := by
  rw [← lexB_true, Bool.not_eq_true]
/-- As the program asks. -/
theorem lexB_first (a b : E × Nat) : lexB key a b = (if a.2 < b.2 then !decide (key b.1 < key a.1) else decide (key a.1 < key b.1)) := by
  rw [Bool.eq_iff_iff, lexB_true]
  split <;> simp <;> omega

/-- Each thing but the top one stands behind the one above it. -/
def Hp (l : List (E × Nat)) : Prop := ∀ i a b, 0 < i → l[i]? = some a → l[(i - 1) / 2]? = some b → lexB key a b = false
/-- .. but the one at 'at', which may go further up. -/
structure Up (l : List (E × Nat)) (k : Nat) : Prop where
  rest : ∀ i a b, 0 < i → i ≠ k → l[i]? = some a → l[(i - 1) / 2]? = some b → lexB key a b = false
  over : ∀ i a b, 0 < i → (i - 1) / 2 = k → 0 < k → l[i]? = some a → l[(k - 1) / 2]? = some b → lexB key a b = false
/-- .. but those under the one at k, which may go further down. -/
structure Dn (l : List (E × Nat)) (k : Nat) : Prop where
  rest : ∀ i a b, 0 < i → (i - 1) / 2 ≠ k → l[i]? = some a → l[(i - 1) / 2]? = some b → lexB key a b = false
  over : ∀ i a b, 0 < i → (i - 1) / 2 = k → 0 < k → l[i]? = some a → l[(k - 1) / 2]? = some b → lexB key a b = false
/-- Two places change what they hold. -/
def swp (l : List (E × Nat)) (i j : Nat) (x y : E × Nat) : List (E × Nat) := (l.set i y).set j x
variable {key}
theorem swp_length (l : List (E × Nat)) (i j : Nat) (x y : E × Nat) : (swp l i j x y).length = l.length := by simp [swp]
theorem swp_fst {l : List (E × Nat)} {i j : Nat} {x y : E × Nat} (hi : i < l.length) (h : i ≠ j) : (swp l i j x y)[i]? = some y := by
  unfold swp
  rw [List.getElem?_set_ne (Ne.symm h), List.getElem?_set_self hi]
theorem swp_snd {l : List (E × Nat)} {i j : Nat} {x y : E × Nat} (hj : j < l.length) : (swp l i j x y)[j]? = some x := by
  unfold swp
  rw [List.getElem?_set_self (by simpa using hj)]
theorem swp_oth {l : List (E × Nat)} {i j k : Nat} {x y : E × Nat} (hi : k ≠ i) (hj : k ≠ j) : (swp l i j x y)[k]? = l[k]? := by
  unfold swp
  rw [List.getElem?_set_ne (Ne.symm hj), List.getElem?_set_ne (Ne.symm hi)]
theorem set_perm {α : Type} : ∀ (l : List α) (i : Nat) (x y : α), l[i]? = some x → (y :: l).Perm (x :: l.set i y)
  | [], i, x, y, h => by simp at h
  | a :: l, 0, x, y, h => by
    simp at h; subst h
    exact List.Perm.swap _ _ _
  | a :: l, i + 1, x, y, h => by
    have ih := set_perm l i x y (by simpa using h)
    rw [List.set_cons_succ]
    exact (List.Perm.swap _ _ _).trans ((ih.cons a).trans (List.Perm.swap _ _ _))
theorem swp_perm {l : List (E × Nat)} {i j : Nat} {x y : E × Nat} (hx : l[i]? = some x) (hy : l[j]? = some y) (h : i ≠ j) : (swp l i j x y).Perm l := by
  have h1 := set_perm l i x y hx
  have h2 := set_perm (l.set i y) j y x (by rw [List.getElem?_set_ne h]; exact hy)
  -- y :: l ~ x :: l.set i y ~ y :: swp
  exact (List.Perm.cons_inv (h1.trans h2)).symm
theorem Hp.up_last {l : List (E × Nat)} {x : E × Nat} (h : Hp key l) : Up key (l ++ [x]) l.length := by
  refine ⟨fun i a b hi hk ha hb => ?_, fun i a b hi hk h0 ha hb => ?_⟩
  · have hl := (List.getElem?_eq_some_iff.1 ha).1
    simp at hl
    rw [List.getElem?_append_left (by omega)] at ha hb
    exact h i a b hi ha hb
  · have hl := (List.getElem?_eq_some_iff.1 ha).1
    simp at hl
    omega
theorem Up.top {l : List (E × Nat)} (h : Up key l 0) : Hp key l := fun i a b hi ha hb => h.rest i a b hi (by omega) ha hb
theorem Up.stop {l : List (E × Nat)} {k : Nat} {x y : E × Nat} (h : Up key l k) (hx : l[k]? = some x) (hy : l[(k - 1) / 2]? = some y) (hl : lexB key x y = false) : Hp key l := fun i a b hi ha hb => by
  by_cases hk : i = k
  · subst hk
    rw [hx] at ha; rw [hy] at hb
    cases ha; cases hb
    exact hl
  · exact h.rest i a b hi hk ha hb
theorem Up.step {l : List (E × Nat)} {k : Nat} {x y : E × Nat} (h : Up key l k) (h0 : 0 < k) (hx : l[k]? = some x) (hy : l[(k - 1) / 2]? = some y) (hl : lexB key x y = true) : Up key (swp l k ((k - 1) / 2) x y) ((k - 1) / 2) := by
  have kl := (List.getElem?_eq_some_iff.1 hx).1
  have hne : k ≠ (k - 1) / 2 := by omega
  rw [lexB_true] at hl
  refine ⟨fun i a b hi hk ha hb => ?_, fun i a b hi hk hk0 ha hb => ?_⟩
  · by_cases hik : i = k
    · subst hik
      rw [swp_fst kl hne] at ha
      rw [swp_snd (by omega)] at hb
      cases ha; cases hb
      rw [lexB_false]; omega
    · rw [swp_oth hik hk] at ha
      by_cases hp : (i - 1) / 2 = k
      · rw [hp, swp_fst kl hne] at hb
        cases hb
        exact h.over i a y hi hp h0 ha hy
      · by_cases hq : (i - 1) / 2 = (k - 1) / 2
        · rw [hq, swp_snd (by omega)] at hb
          cases hb
          have := h.rest i a y hi hik ha (by rw [hq]; exact hy)
          rw [lexB_false] at this ⊢
          omega
        · rw [swp_oth hp hq] at hb
          exact h.rest i a b hi hik ha hb
  · have hb' : l[((k - 1) / 2 - 1) / 2]? = some b := by
      rw [swp_oth (by omega) (by omega)] at hb
      exact hb
    have hyb := h.rest ((k - 1) / 2) y b hk0 (by omega) hy hb'
    by_cases hik : i = k
    · subst hik
      rw [swp_fst kl hne] at ha
      cases ha
      exact hyb
    · rw [swp_oth hik (by omega)] at ha
      have := h.rest i a y hi hik ha (by rw [hk]; exact hy)
      rw [lexB_false] at this hyb ⊢
      omega
theorem Hp.dn {l : List (E × Nat)} (h : Hp key l) (x : E × Nat) : Dn key (l.set 0 x) 0 := by
  refine ⟨fun i a b hi hk ha hb => ?_, fun i a b hi hk h0 => by omega⟩
  rw [List.getElem?_set_ne (by omega)] at ha
  rw [List.getElem?_set_ne (by omega)] at hb
  exact h i a b hi ha hb
theorem Dn.take {l : List (E × Nat)} {k n : Nat} (h : Dn key l k) : Dn key (l.take n) k := by
  have t : ∀ {i : Nat} {a : E × Nat}, (l.take n)[i]? = some a → l[i]? = some a := fun {i a} ha => by
    rw [List.getElem?_take] at ha
    split at ha
    · exact ha
    · cases ha
  exact ⟨fun i a b hi hk ha hb => h.rest i a b hi hk (t ha) (t hb), fun i a b hi hk h0 ha hb => h.over i a b hi hk h0 (t ha) (t hb)⟩
theorem Dn.bottom {l : List (E × Nat)} {k : Nat} (h : Dn key l k) (hk : l.length ≤ 2 * k + 1) : Hp key l := fun i a b hi ha hb => by
  have hl := (List.getElem?_eq_some_iff.1 ha).1
  exact h.rest i a b hi (by omega) ha hb
/-- The side that goes first of both. -/
def Side (key : E → Int) (l : List (E × Nat)) (k s : Nat) (y : E × Nat) : Prop := (s = 2 * k + 1 ∨ s = 2 * k + 2) ∧ l[s]? = some y ∧ ∀ i a, 0 < i → (i - 1) / 2 = k → l[i]? = some a → lexB key a y = false
theorem side_left {l : List (E × Nat)} {k : Nat} {y : E × Nat} (hy : l[2 * k + 1]? = some y) (h : l.length ≤ 2 * k + 2 ∨ ∃ z, l[2 * k + 2]? = some z ∧ lexB key z y = false) : Side key l k (2 * k + 1) y := by
  refine ⟨.inl rfl, hy, fun i a hi hk ha => ?_⟩
  have hl := (List.getElem?_eq_some_iff.1 ha).1
  rcases (by omega : i = 2 * k + 1 ∨ i = 2 * k + 2) with rfl | rfl
  · rw [hy] at ha; cases ha
    rw [lexB_false]; omega
  · rcases h with h | ⟨z, hz, h⟩
    · omega
    · rw [hz] at ha; cases ha
      exact h
theorem side_right {l : List (E × Nat)} {k : Nat} {y z : E × Nat} (hy : l[2 * k + 1]? = some y) (hz : l[2 * k + 2]? = some z) (h : lexB key z y = true) : Side key l k (2 * k + 2) z := by
  refine ⟨.inr rfl, hz, fun i a hi hk ha => ?_⟩
  rcases (by omega : i = 2 * k + 1 ∨ i = 2 * k + 2) with rfl | rfl
  · rw [hy] at ha; cases ha
    rw [lexB_true] at h
    rw [lexB_false]; omega
  · rw [hz] at ha; cases ha
    rw [lexB_false]; omega
theorem Dn.stop {l : List (E × Nat)} {k s : Nat} {x y : E × Nat} (h : Dn key l k) (hx : l[k]? = some x) (hs : Side key l k s y) (hl : lexB key x y = true) : Hp key l := fun i a b hi ha hb => by
  by_cases hp : (i - 1) / 2 = k
  · rw [hp, hx] at hb
    cases hb
    have := hs.2.2 i a hi hp ha
    rw [lexB_true] at hl
    rw [lexB_false] at this ⊢
    omega
  · exact h.rest i a b hi hp ha hb
theorem Dn.step {l : List (E × Nat)} {k s : Nat} {x y : E × Nat} (h : Dn key l k) (hx : l[k]? = some x) (hs : Side key l k s y) (hl : lexB key x y = false) : Dn key (swp l k s x y) s := by
  obtain ⟨hks, hy, hmin⟩ := hs
  have kl := (List.getElem?_eq_some_iff.1 hx).1
  have sl := (List.getElem?_eq_some_iff.1 hy).1
  have hne : k ≠ s := by omega
  have hps : (s - 1) / 2 = k := by omega
  refine ⟨fun i a b hi hk ha hb => ?_, fun i a b hi hk h0 ha hb => ?_⟩
  · by_cases his : i = s
    · subst his
      rw [swp_snd sl] at ha
      rw [hps, swp_fst kl hne] at hb
      cases ha; cases hb
      exact hl
    · by_cases hik : i = k
      · subst hik
        rw [swp_fst kl hne] at ha
        cases ha
        rw [swp_oth (by omega) hk] at hb
        exact h.over s y b (by omega) hps hi hy hb
      · rw [swp_oth hik his] at ha
        by_cases hp : (i - 1) / 2 = k
        · rw [hp, swp_fst kl hne] at hb
          cases hb
          exact hmin i a hi hp ha
        · rw [swp_oth hp hk] at hb
          exact h.rest i a b hi hp ha hb
  · rw [swp_oth (by omega) (by omega)] at ha
    rw [hps, swp_fst kl hne] at hb
    cases hb
    exact h.rest i a y hi (by omega) ha (by rw [hk]; exact hy)

/-! ### What goes first -/
/-- The order in which things go. -/
def Srt (key : E → Int) (s : List (E × Nat)) : Prop := s.Pairwise (fun a b => lexB key a b = true)
/-- Of a heap the top goes first. -/
theorem Hp.least {l : List (E × Nat)} (h : Hp key l) {x : E × Nat} (hx : l[0]? = some x) : ∀ (n i : Nat) (a : E × Nat), i ≤ n → l[i]? = some a → lexB key a x = false
  | _, 0, a, _, ha => by
    rw [hx] at ha; cases ha
    rw [lexB_false]; omega
  | 0, i + 1, a, hi, ha => by omega
  | n + 1, i + 1, a, hi, ha => by
    obtain ⟨b, hb⟩ : ∃ b, l[(i + 1 - 1) / 2]? = some b := by
      have hl := (List.getElem?_eq_some_iff.1 ha).1
      exact ⟨l[(i + 1 - 1) / 2]'(by omega), List.getElem?_eq_getElem (by omega)⟩
    have h1 := h (i + 1) a b (by omega) ha hb
    have h2 := h.least hx n ((i + 1 - 1) / 2) b (by omega) hb
    rw [lexB_false] at h1 h2 ⊢
    omega
theorem head_is {l s : List (E × Nat)} {x y : E × Nat} {r : List (E × Nat)} (h : Hp key l) (hp : s.Perm l) (hs : Srt key s) (hx : l[0]? = some x) (he : s = y :: r) : x = y := by
  subst he
  have hy : y ∈ l := hp.mem_iff.1 (by simp)
  have hxm : x ∈ y :: r := hp.mem_iff.2 (List.mem_of_getElem? hx)
  obtain ⟨i, hi⟩ := List.getElem?_of_mem hy
  have h1 := h.least hx i i y (Nat.le_refl _) hi
  rcases List.mem_cons.1 hxm with rfl | hm
  · rfl
  · have h2 : lexB key y x = true := (List.pairwise_cons.1 hs).1 x hm
    rw [h1] at h2; cases h2
/-- A thing is put in its place. -/
def ins (key : E → Int) (x : E) : List E → List E
  | [] => [x]
  | a :: l => if key x < key a then x :: a :: l else a :: ins key x l
def insT (key : E → Int) (x : E × Nat) : List (E × Nat) → List (E × Nat)
  | [] => [x]
  | a :: l => if key x.1 < key a.1 then x :: a :: l else a :: insT key x l
theorem insT_fst (x : E × Nat) : ∀ l : List (E × Nat), (insT key x l).map Prod.fst = ins key x.1 (l.map Prod.fst)
  | [] => rfl
  | a :: l => by
    unfold insT ins
    simp only [List.map_cons]
    split
    · simp
    · simp [insT_fst x l]
theorem insT_perm (x : E × Nat) : ∀ l : List (E × Nat), (insT key x l).Perm (x :: l)
  | [] => List.Perm.refl _
  | a :: l => by
    unfold insT
    split
    · exact List.Perm.refl _
    · exact ((insT_perm x l).cons a).trans (List.Perm.swap _ _ _)
theorem insT_srt {x : E × Nat} : ∀ {l : List (E × Nat)}, Srt key l → (∀ a ∈ l, a.2 < x.2) → Srt key (insT key x l)
  | [], _, _ => List.pairwise_singleton _ _
  | a :: l, h, hx => by
    unfold insT
    obtain ⟨h1, h2⟩ := List.pairwise_cons.1 h
    split
    · rename_i hk
      refine List.pairwise_cons.2 ⟨fun b hb => ?_, h⟩
      rw [lexB_true]
      rcases List.mem_cons.1 hb with rfl | hb
      · exact .inl hk
      · have := h1 b hb
        rw [lexB_true] at this
        omega
    · rename_i hk
      refine List.pairwise_cons.2 ⟨fun b hb => ?_, insT_srt h2 (fun c hc => hx c (by simp [hc]))⟩
      rcases List.mem_cons.1 ((insT_perm x l).mem_iff.1 hb) with rfl | hb
      · have := hx a (by simp)
        rw [lexB_true]
        omega
      · exact h1 b hb
/-- A heap's row l, of which c came: it tells L. -/
structure Tells (key : E → Int) (l : List (E × Nat)) (c : Nat) (L : List E) : Prop where
  hp : Hp key l
  ex : ∃ s, s.Perm l ∧ Srt key s ∧ s.map Prod.fst = L
  few : ∀ a ∈ l, a.2 < c
theorem Tells.nil (c : Nat) : Tells key [] c [] := ⟨fun i a b _ h => by simp at h, ⟨[], List.Perm.refl _, List.Pairwise.nil, rfl⟩, by simp⟩
theorem Tells.length {l : List (E × Nat)} {c : Nat} {L : List E} (h : Tells key l c L) : l.length = L.length := by
  obtain ⟨s, hp, _, rfl⟩ := h.ex
  rw [List.length_map, hp.length_eq]
theorem Tells.head {l : List (E × Nat)} {c : Nat} {L : List E} (h : Tells key l c L) {x : E × Nat} (hx : l[0]? = some x) : ∃ r, L = x.1 :: r := by
  obtain ⟨s, hp, hs, rfl⟩ := h.ex
  cases s with
  | nil => rw [List.nil_perm.1 hp] at hx; simp at hx
  | cons y r =>
    obtain rfl := head_is h.hp hp hs hx rfl
    exact ⟨r.map Prod.fst, rfl⟩
theorem Tells.push {l l' : List (E × Nat)} {c : Nat} {L : List E} {x : E} (h : Tells key l c L) (hp : l'.Perm (l ++ [(x, c)])) (hh : Hp key l') : Tells key l' (c + 1) (ins key x L) := by
  obtain ⟨s, h1, h2, rfl⟩ := h.ex
  refine ⟨hh, ⟨insT key (x, c) s, ?_, insT_srt h2 (fun a ha => h.few a (h1.mem_iff.1 ha)), insT_fst _ _⟩, fun a ha => ?_⟩
  · exact (insT_perm _ _).trans (((h1.cons _).trans (List.perm_append_singleton _ _).symm).trans hp.symm)
  · rcases List.mem_append.1 (hp.mem_iff.1 ha) with ha | ha
    · have := h.few a ha; omega
    · rw [List.mem_singleton.1 ha]; exact Nat.lt_succ_self c
theorem Tells.pop {l l' : List (E × Nat)} {c : Nat} {L : List E} {x : E × Nat} (h : Tells key l c L) (hx : l[0]? = some x) (hp : (x :: l').Perm l) (hh : Hp key l') : Tells key l' c L.tail := by
  obtain ⟨s, h1, h2, rfl⟩ := h.ex
  cases s with
  | nil => rw [List.nil_perm.1 h1] at hx; simp at hx
  | cons y r =>
    obtain rfl := head_is h.hp h1 h2 hx rfl
    refine ⟨hh, ⟨r, (List.Perm.cons_inv (h1.trans hp.symm)), (List.pairwise_cons.1 h2).2, rfl⟩, fun a ha => h.few a (hp.mem_iff.1 (by simp [ha]))⟩
/-- The last thing comes to the top: what is left. -/
theorem last_top {l : List (E × Nat)} {x y : E × Nat} (hx : l[0]? = some x) (hy : l[l.length - 1]? = some y) : (x :: (l.set 0 y).take (l.length - 1)).Perm l := by
  cases l with
  | nil => simp at hx
  | cons a r =>
    simp at hx; subst hx
    cases r with
    | nil => simp
    | cons b r =>
      have e : (b :: r) = (b :: r).dropLast ++ [y] := by
        have := List.dropLast_concat_getLast (l := b :: r) (by simp)
        have hg : (b :: r).getLast (by simp) = y := by
          rw [List.getLast_eq_getElem]
          simp at hy
          have h1 : (a :: b :: r)[r.length + 1]? = some y := by simpa using hy
          simpa using h1
        rw [hg] at this
        exact this.symm
      have e2 : ((a :: b :: r).set 0 y).take ((a :: b :: r).length - 1) = y :: (b :: r).dropLast := by
        simp [List.dropLast_eq_take]
      rw [e2]
      refine List.Perm.cons _ ?_
      conv => rhs; rw [e]
      exact (List.perm_append_singleton _ _).symm
end
end Go.Proofs.Ytebbpgokhelmdaa
