/- Texts about the program, one after the other: HPure, EBase, ESpn, EFin, EGen, EWrk, EUrg. -/
import Derived.Below
import Derived.WalkKit
import Derived.WalkMore
import Derived.ProofKit
import Derived.LaidMore
import Derived.Laws.AppendOwn
import Derived.Laws.CopyOwn
import Derived.Lib.Hide
import Derived.IntWalk
import Derived.Handy
import Derived.OwnWalk
import Derived.RangeFuncBox
import Derived.Deep.QuietTactic
import Derived.BigQuiet
import Derived.Deep.RegionHeld3
import Derived.Deep.RegionLaw
import Derived.BigRegion
import Derived.Deep.CutBlock
import Derived.Deep.DrawnRows
import Derived.Deep.LoopGhost
import Derived.Deep.MidRow
import Derived.Deep.Quiet
import Derived.Deep.RegionHeldLaw
import Derived.LoopIn
import Derived.LoopNIn
import Derived.TacticsInMore
import Derived.OwnWalkIn
import Derived.RangeFuncNested
import Derived.RangeFuncBound
import Derived.RangeFuncCalls
import Derived.RangeFuncLeaves
import Derived.RangeFuncWrites
import Derived.Shelf.Abstract
import Derived.StillTailTactics
import Derived.Lib.SliceRun
import Derived.Deep.AppendSrc
import Derived.Deep.Upon
import Derived.Deep.DeepAppendWide
import Derived.OrdersIn
import Derived.Sort.LoopGhostIn
import Derived.Test.YtngmaiiibinkaaaJClo
import Derived.Test.YtngmaiiibinkaaaJFewR
import Derived.Test.YtngmaiiibinkaaaJRead
import Derived.Test.YtngmaiiibinkaaaEMany
import Derived.Test.YtngmaiiibinkaaaELg
/- Things of which the least goes first: rows that stand as trees; plain facts. -/
namespace Go.Proofs.Ytngmaiiibinkaaa
set_option linter.unusedVariables false
set_option linter.unusedSimpArgs false
section
variable {E : Type} (key : E → Int)
/-- Of two things, does the first one go first? -/
def lexB (a b : E × Nat) : Bool := decide (key a.1 < key b.1) || (decide (key a.1 = key b.1) && decide (a.2 < b.2))
theorem lexB_true {a b : E × Nat} : lexB key a b = true ↔ key a.1 < key b.1 ∨ (key a.1 = key b.1 ∧ a.2 < b.2) := by simp [lexB]
theorem lexB_false {a b : E × Nat} : lexB key a b = false ↔ ¬ (key a.1 < key b.1 ∨ (key a.1 = key b.1 ∧ a.2 < b.2)) := by
  rw [← lexB_true, Bool.not_eq_true]
/-- As the program asks. -/
theorem lexB_first (a b : E × Nat) : lexB key a b = (if a.2 < b.2 then !decide (key b.1 < key a.1) else decide (key a.1 < key b.1)) := by
  rw [Bool.eq_iff_iff, lexB_true]
  split <;> simp <;> omega

/-- Each thing but the top one stands behind the one above it. -/
def Hp (l : List (E × Nat)) : Prop := ∀ i a b, 0 < i → l[i]? = some a → l[(i - 1) / 2]? = some b → lexB key a b = false
/-- .. but the one at 'at', which may go further up. -/
structure Up (l : List (E × Nat)) (k : Nat) : Prop where
  rest : ∀ i a b, 0 < i → i ≠ k → l[i]? = some a → l[(i - 1) / 2]? = some b → lexB key a b = false
  over : ∀ i a b, 0 < i → (i - 1) / 2 = k → 0 < k → l[i]? = some a → l[(k - 1) / 2]? = some b → lexB key a b = false
/-- .. but those under the one at k, which may go further down. -/
structure Dn (l : List (E × Nat)) (k : Nat) : Prop where
  rest : ∀ i a b, 0 < i → (i - 1) / 2 ≠ k → l[i]? = some a → l[(i - 1) / 2]? = some b → lexB key a b = false
  over : ∀ i a b, 0 < i → (i - 1) / 2 = k → 0 < k → l[i]? = some a → l[(k - 1) / 2]? = some b → lexB key a b = false
/-- Two places change what they hold. -/
def swp (l : List (E × Nat)) (i j : Nat) (x y : E × Nat) : List (E × Nat) := (l.set i y).set j x
variable {key}
theorem swp_length (l : List (E × Nat)) (i j : Nat) (x y : E × Nat) : (swp l i j x y).length = l.length := by simp [swp]
theorem swp_fst {l : List (E × Nat)} {i j : Nat} {x y : E × Nat} (hi : i < l.length) (h : i ≠ j) : (swp l i j x y)[i]? = some y := by
  unfold swp
  rw [List.getElem?_set_ne (Ne.symm h), List.getElem?_set_self hi]
theorem swp_snd {l : List (E × Nat)} {i j : Nat} {x y : E × Nat} (hj : j < l.length) : (swp l i j x y)[j]? = some x := by
  unfold swp
  rw [List.getElem?_set_self (by simpa using hj)]
theorem swp_oth {l : List (E × Nat)} {i j k : Nat} {x y : E × Nat} (hi : k ≠ i) (hj : k ≠ j) : (swp l i j x y)[k]? = l[k]? := by
  unfold swp
  rw [List.getElem?_set_ne (Ne.symm hj), List.getElem?_set_ne (Ne.symm hi)]
theorem set_perm {α : Type} : ∀ (l : List α) (i : Nat) (x y : α), l[i]? = some x → (y :: l).Perm (x :: l.set i y)
  | [], i, x, y, h => by simp at h
  | a :: l, 0, x, y, h => by
    simp at h; subst h
    exact List.Perm.swap _ _ _
  | a :: l, i + 1, x, y, h => by
    have ih := set_perm l i x y (by simpa using h)
    rw [List.set_cons_succ]
    exact (List.Perm.swap _ _ _).trans ((ih.cons a).trans (List.Perm.swap _ _ _))
theorem swp_perm {l : List (E × Nat)} {i j : Nat} {x y : E × Nat} (hx : l[i]? = some x) (hy : l[j]? = some y) (h : i ≠ j) : (swp l i j x y).Perm l := by
  have h1 := set_perm l i x y hx
  have h2 := set_perm (l.set i y) j y x (by rw [List.getElem?_set_ne h]; exact hy)
  -- y :: l ~ x :: l.set i y ~ y :: swp
  exact (List.Perm.cons_inv (h1.trans h2)).symm
theorem Hp.up_last {l : List (E × Nat)} {x : E × Nat} (h : Hp key l) : Up key (l ++ [x]) l.length := by
  refine ⟨fun i a b hi hk ha hb => ?_, fun i a b hi hk h0 ha hb => ?_⟩
  · have hl := (List.getElem?_eq_some_iff.1 ha).1
    simp at hl
    rw [List.getElem?_append_left (by omega)] at ha hb
    exact h i a b hi ha hb
  · have hl := (List.getElem?_eq_some_iff.1 ha).1
    simp at hl
    omega
theorem Up.top {l : List (E × Nat)} (h : Up key l 0) : Hp key l := fun i a b hi ha hb => h.rest i a b hi (by omega) ha hb
theorem Up.stop {l : List (E × Nat)} {k : Nat} {x y : E × Nat} (h : Up key l k) (hx : l[k]? = some x) (hy : l[(k - 1) / 2]? = some y) (hl : lexB key x y = false) : Hp key l := fun i a b hi ha hb => by
  by_cases hk : i = k
  · subst hk
    rw [hx] at ha; rw [hy] at hb
    cases ha; cases hb
    exact hl
  · exact h.rest i a b hi hk ha hb
theorem Up.step {l : List (E × Nat)} {k : Nat} {x y : E × Nat} (h : Up key l k) (h0 : 0 < k) (hx : l[k]? = some x) (hy : l[(k - 1) / 2]? = some y) (hl : lexB key x y = true) : Up key (swp l k ((k - 1) / 2) x y) ((k - 1) / 2) := by
  have kl := (List.getElem?_eq_some_iff.1 hx).1
  have hne : k ≠ (k - 1) / 2 := by omega
  rw [lexB_true] at hl
  refine ⟨fun i a b hi hk ha hb => ?_, fun i a b hi hk hk0 ha hb => ?_⟩
  · by_cases hik : i = k
    · subst hik
      rw [swp_fst kl hne] at ha
      rw [swp_snd (by omega)] at hb
      cases ha; cases hb
      rw [lexB_false]; omega
    · rw [swp_oth hik hk] at ha
      by_cases hp : (i - 1) / 2 = k
      · rw [hp, swp_fst kl hne] at hb
        cases hb
        exact h.over i a y hi hp h0 ha hy
      · by_cases hq : (i - 1) / 2 = (k - 1) / 2
        · rw [hq, swp_snd (by omega)] at hb
          cases hb
          have := h.rest i a y hi hik ha (by rw [hq]; exact hy)
          rw [lexB_false] at this ⊢
          omega
        · rw [swp_oth hp hq] at hb
          exact h.rest i a b hi hik ha hb
  · have hb' : l[((k - 1) / 2 - 1) / 2]? = some b := by
      rw [swp_oth (by omega) (by omega)] at hb
      exact hb
    have hyb := h.rest ((k - 1) / 2) y b hk0 (by omega) hy hb'
    by_cases hik : i = k
    · subst hik
      rw [swp_fst kl hne] at ha
      cases ha
      exact hyb
    · rw [swp_oth hik (by omega)] at ha
      have := h.rest i a y hi hik ha (by rw [hk]; exact hy)
      rw [lexB_false] at this hyb ⊢
      omega
theorem Hp.dn {l : List (E × Nat)} (h : Hp key l) (x : E × Nat) : Dn key (l.set 0 x) 0 := by
  refine ⟨fun i a b hi hk ha hb => ?_, fun i a b hi hk h0 => by omega⟩
  rw [List.getElem?_set_ne (by omega)] at ha
  rw [List.getElem?_set_ne (by omega)] at hb
  exact h i a b hi ha hb
theorem Dn.take {l : List (E × Nat)} {k n : Nat} (h : Dn key l k) : Dn key (l.take n) k := by
  have t : ∀ {i : Nat} {a : E × Nat}, (l.take n)[i]? = some a → l[i]? = some a := fun {i a} ha => by
    rw [List.getElem?_take] at ha
    split at ha
    · exact ha
    · cases ha
  exact ⟨fun i a b hi hk ha hb => h.rest i a b hi hk (t ha) (t hb), fun i a b hi hk h0 ha hb => h.over i a b hi hk h0 (t ha) (t hb)⟩
theorem Dn.bottom {l : List (E × Nat)} {k : Nat} (h : Dn key l k) (hk : l.length ≤ 2 * k + 1) : Hp key l := fun i a b hi ha hb => by
  have hl := (List.getElem?_eq_some_iff.1 ha).1
  exact h.rest i a b hi (by omega) ha hb
/-- The side that goes first of both. -/
def Side (key : E → Int) (l : List (E × Nat)) (k s : Nat) (y : E × Nat) : Prop := (s = 2 * k + 1 ∨ s = 2 * k + 2) ∧ l[s]? = some y ∧ ∀ i a, 0 < i → (i - 1) / 2 = k → l[i]? = some a → lexB key a y = false
theorem side_left {l : List (E × Nat)} {k : Nat} {y : E × Nat} (hy : l[2 * k + 1]? = some y) (h : l.length ≤ 2 * k + 2 ∨ ∃ z, l[2 * k + 2]? = some z ∧ lexB key z y = false) : Side key l k (2 * k + 1) y := by
  refine ⟨.inl rfl, hy, fun i a hi hk ha => ?_⟩
  have hl := (List.getElem?_eq_some_iff.1 ha).1
  rcases (by omega : i = 2 * k + 1 ∨ i = 2 * k + 2) with rfl | rfl
  · rw [hy] at ha; cases ha
    rw [lexB_false]; omega
  · rcases h with h | ⟨z, hz, h⟩
    · omega
    · rw [hz] at ha; cases ha
      exact h
theorem side_right {l : List (E × Nat)} {k : Nat} {y z : E × Nat} (hy : l[2 * k + 1]? = some y) (hz : l[2 * k + 2]? = some z) (h : lexB key z y = true) : Side key l k (2 * k + 2) z := by
  refine ⟨.inr rfl, hz, fun i a hi hk ha => ?_⟩
  rcases (by omega : i = 2 * k + 1 ∨ i = 2 * k + 2) with rfl | rfl
  · rw [hy] at ha; cases ha
    rw [lexB_true] at h
    rw [lexB_false]; omega
  · rw [hz] at ha; cases ha
    rw [lexB_false]; omega
theorem Dn.stop {l : List (E × Nat)} {k s : Nat} {x y : E × Nat} (h : Dn key l k) (hx : l[k]? = some x) (hs : Side key l k s y) (hl : lexB key x y = true) : Hp key l := fun i a b hi ha hb => by
  by_cases hp : (i - 1) / 2 = k
  · rw [hp, hx] at hb
    cases hb
    have := hs.2.2 i a hi hp ha
    rw [lexB_true] at hl
    rw [lexB_false] at this ⊢
    omega
  · exact h.rest i a b hi hp ha hb
theorem Dn.step {l : List (E × Nat)} {k s : Nat} {x y : E × Nat} (h : Dn key l k) (hx : l[k]? = some x) (hs : Side key l k s y) (hl : lexB key x y = false) : Dn key (swp l k s x y) s := by
  obtain ⟨hks, hy, hmin⟩ := hs
  have kl := (List.getElem?_eq_some_iff.1 hx).1
  have sl := (List.getElem?_eq_some_iff.1 hy).1
  have hne : k ≠ s := by omega
  have hps : (s - 1) / 2 = k := by omega
  refine ⟨fun i a b hi hk ha hb => ?_, fun i a b hi hk h0 ha hb => ?_⟩
  · by_cases his : i = s
    · subst his
      rw [swp_snd sl] at ha
      rw [hps, swp_fst kl hne] at hb
      cases ha; cases hb
      exact hl
    · by_cases hik : i = k
      · subst hik
        rw [swp_fst kl hne] at ha
        cases ha
        rw [swp_oth (by omega) hk] at hb
        exact h.over s y b (by omega) hps hi hy hb
      · rw [swp_oth hik his] at ha
        by_cases hp : (i - 1) / 2 = k
        · rw [hp, swp_fst kl hne] at hb
          cases hb
          exact hmin i a hi hp ha
        · rw [swp_oth hp hk] at hb
          exact h.rest i a b hi hp ha hb
  · rw [swp_oth (by omega) (by omega)] at ha
    rw [hps, swp_fst kl hne] at hb
    cases hb
    exact h.rest i a y hi (by omega) ha (by rw [hk]; exact hy)

/-! ### What goes first -/
/-- The order in which things go. -/
def Srt (key : E → Int) (s : List (E × Nat)) : Prop := s.Pairwise (fun a b => lexB key a b = true)
/-- Of a heap the top goes first. -/
theorem Hp.least {l : List (E × Nat)} (h : Hp key l) {x : E × Nat} (hx : l[0]? = some x) : ∀ (n i : Nat) (a : E × Nat), i ≤ n → l[i]? = some a → lexB key a x = false
  | _, 0, a, _, ha => by
    rw [hx] at ha; cases ha
    rw [lexB_false]; omega
  | 0, i + 1, a, hi, ha => by omega
  | n + 1, i + 1, a, hi, ha => by
    obtain ⟨b, hb⟩ : ∃ b, l[(i + 1 - 1) / 2]? = some b := by
      have hl := (List.getElem?_eq_some_iff.1 ha).1
      exact ⟨l[(i + 1 - 1) / 2]'(by omega), List.getElem?_eq_getElem (by omega)⟩
    have h1 := h (i + 1) a b (by omega) ha hb
    have h2 := h.least hx n ((i + 1 - 1) / 2) b (by omega) hb
    rw [lexB_false] at h1 h2 ⊢
    omega
theorem head_is {l s : List (E × Nat)} {x y : E × Nat} {r : List (E × Nat)} (h : Hp key l) (hp : s.Perm l) (hs : Srt key s) (hx : l[0]? = some x) (he : s = y :: r) : x = y := by
  subst he
  have hy : y ∈ l := hp.mem_iff.1 (by simp)
  have hxm : x ∈ y :: r := hp.mem_iff.2 (List.mem_of_getElem? hx)
  obtain ⟨i, hi⟩ := List.getElem?_of_mem hy
  have h1 := h.least hx i i y (Nat.le_refl _) hi
  rcases List.mem_cons.1 hxm with rfl | hm
  · rfl
  · have h2 : lexB key y x = true := (List.pairwise_cons.1 hs).1 x hm
    rw [h1] at h2; cases h2
/-- A thing is put in its place. -/
def ins (key : E → Int) (x : E) : List E → List E
  | [] => [x]
  | a :: l => if key x < key a then x :: a :: l else a :: ins key x l
def insT (key : E → Int) (x : E × Nat) : List (E × Nat) → List (E × Nat)
  | [] => [x]
  | a :: l => if key x.1 < key a.1 then x :: a :: l else a :: insT key x l
theorem insT_fst (x : E × Nat) : ∀ l : List (E × Nat), (insT key x l).map Prod.fst = ins key x.1 (l.map Prod.fst)
  | [] => rfl
  | a :: l => by
    unfold insT ins
    simp only [List.map_cons]
    split
    · simp
    · simp [insT_fst x l]
theorem insT_perm (x : E × Nat) : ∀ l : List (E × Nat), (insT key x l).Perm (x :: l)
  | [] => List.Perm.refl _
  | a :: l => by
    unfold insT
    split
    · exact List.Perm.refl _
    · exact ((insT_perm x l).cons a).trans (List.Perm.swap _ _ _)
theorem insT_srt {x : E × Nat} : ∀ {l : List (E × Nat)}, Srt key l → (∀ a ∈ l, a.2 < x.2) → Srt key (insT key x l)
  | [], _, _ => List.pairwise_singleton _ _
  | a :: l, h, hx => by
    unfold insT
    obtain ⟨h1, h2⟩ := List.pairwise_cons.1 h
    split
    · rename_i hk
      refine List.pairwise_cons.2 ⟨fun b hb => ?_, h⟩
      rw [lexB_true]
      rcases List.mem_cons.1 hb with rfl | hb
      · exact .inl hk
      · have := h1 b hb
        rw [lexB_true] at this
        omega
    · rename_i hk
      refine List.pairwise_cons.2 ⟨fun b hb => ?_, insT_srt h2 (fun c hc => hx c (by simp [hc]))⟩
      rcases List.mem_cons.1 ((insT_perm x l).mem_iff.1 hb) with rfl | hb
      · have := hx a (by simp)
        rw [lexB_true]
        omega
      · exact h1 b hb
/-- A heap's row l, of which c came: it tells L. -/
structure Tells (key : E → Int) (l : List (E × Nat)) (c : Nat) (L : List E) : Prop where
  hp : Hp key l
  ex : ∃ s, s.Perm l ∧ Srt key s ∧ s.map Prod.fst = L
  few : ∀ a ∈ l, a.2 < c
theorem Tells.nil (c : Nat) : Tells key [] c [] := ⟨fun i a b _ h => by simp at h, ⟨[], List.Perm.refl _, List.Pairwise.nil, rfl⟩, by simp⟩
theorem Tells.length {l : List (E × Nat)} {c : Nat} {L : List E} (h : Tells key l c L) : l.length = L.length := by
  obtain ⟨s, hp, _, rfl⟩ := h.ex
  rw [List.length_map, hp.length_eq]
theorem Tells.head {l : List (E × Nat)} {c : Nat} {L : List E} (h : Tells key l c L) {x : E × Nat} (hx : l[0]? = some x) : ∃ r, L = x.1 :: r := by
  obtain ⟨s, hp, hs, rfl⟩ := h.ex
  cases s with
  | nil => rw [List.nil_perm.1 hp] at hx; simp at hx
  | cons y r =>
    obtain rfl := head_is h.hp hp hs hx rfl
    exact ⟨r.map Prod.fst, rfl⟩
theorem Tells.push {l l' : List (E × Nat)} {c : Nat} {L : List E} {x : E} (h : Tells key l c L) (hp : l'.Perm (l ++ [(x, c)])) (hh : Hp key l') : Tells key l' (c + 1) (ins key x L) := by
  obtain ⟨s, h1, h2, rfl⟩ := h.ex
  refine ⟨hh, ⟨insT key (x, c) s, ?_, insT_srt h2 (fun a ha => h.few a (h1.mem_iff.1 ha)), insT_fst _ _⟩, fun a ha => ?_⟩
  · exact (insT_perm _ _).trans (((h1.cons _).trans (List.perm_append_singleton _ _).symm).trans hp.symm)
  · rcases List.mem_append.1 (hp.mem_iff.1 ha) with ha | ha
    · have := h.few a ha; omega
    · rw [List.mem_singleton.1 ha]; exact Nat.lt_succ_self c
theorem Tells.pop {l l' : List (E × Nat)} {c : Nat} {L : List E} {x : E × Nat} (h : Tells key l c L) (hx : l[0]? = some x) (hp : (x :: l').Perm l) (hh : Hp key l') : Tells key l' c L.tail := by
  obtain ⟨s, h1, h2, rfl⟩ := h.ex
  cases s with
  | nil => rw [List.nil_perm.1 h1] at hx; simp at hx
  | cons y r =>
    obtain rfl := head_is h.hp h1 h2 hx rfl
    refine ⟨hh, ⟨r, (List.Perm.cons_inv (h1.trans hp.symm)), (List.pairwise_cons.1 h2).2, rfl⟩, fun a ha => h.few a (hp.mem_iff.1 (by simp [ha]))⟩
/-- The last thing comes to the top: what is left. -/
theorem last_top {l : List (E × Nat)} {x y : E × Nat} (hx : l[0]? = some x) (hy : l[l.length - 1]? = some y) : (x :: (l.set 0 y).take (l.length - 1)).Perm l := by
  cases l with
  | nil => simp at hx
  | cons a r =>
    simp at hx; subst hx
    cases r with
    | nil => simp
    | cons b r =>
      have e : (b :: r) = (b :: r).dropLast ++ [y] := by
        have := List.dropLast_concat_getLast (l := b :: r) (by simp)
        have hg : (b :: r).getLast (by simp) = y := by
          rw [List.getLast_eq_getElem]
          simp at hy
          have h1 : (a :: b :: r)[r.length + 1]? = some y := by simpa using hy
          simpa using h1
        rw [hg] at this
        exact this.symm
      have e2 : ((a :: b :: r).set 0 y).take ((a :: b :: r).length - 1) = y :: (b :: r).dropLast := by
        simp [List.dropLast_eq_take]
      rw [e2]
      refine List.Perm.cons _ ?_
      conv => rhs; rw [e]
      exact (List.perm_append_singleton _ _).symm
end
end Go.Proofs.Ytngmaiiibinkaaa
/- What the texts of this stage lean on: rows that are stored to. -/
namespace Go.Proofs.Ytngmaiiibinkaaa
open Go.RowKit
set_option linter.unusedVariables false
set_option linter.unusedSimpArgs false
theorem below_drewN' (w : World) (n : Nat) : Below w.heap.size w (w.drewN n) := ⟨rfl, rfl, rfl, Nat.le_refl _, fun _ _ => rfl⟩
/-- A row cut behind its first m things. -/
theorem own_take {w : World} {B e size n m cap g : Nat} {xs : List Value} (h : w.ownsRow B e size (.slice (some ⟨g, 0, none⟩) n cap) n xs) (hm : m ≤ n) : w.ownsRow B e size (.slice (some ⟨g, 0, none⟩) m cap) m (xs.take (m * size)) := by
  obtain ⟨h1, h2⟩ := h
  have hle : m * size ≤ n * size := Nat.mul_le_mul_right _ hm
  rcases h2 with ⟨hv, _⟩ | ⟨g', cap', cur, hv, hb, hh, hn, hmx, hs, ht⟩
  · simp at hv
  · simp only [Value.slice.injEq, Option.some.injEq, Addr.mk.injEq, and_true, true_and] at hv
    obtain ⟨rfl, rfl⟩ := hv
    exact ⟨by rw [List.length_take]; omega, .inr ⟨g, cap, cur, rfl, hb, hh, by omega, hmx, hs, by rw [← ht, List.take_take, Nat.min_eq_left hle]⟩⟩
theorem kept_push {Y : List Nat} {g : Nat} {w w1 w3 w4 : World} (h1 : Below w.heap.size w w1) (h2 : Kept Y w1 w3) (h3 : Kept [g] w3 w4) (ho : g ∈ Y ∨ w.heap.size ≤ g) : Kept Y w w4 := by
  have h : Kept (g :: Y) w w4 := (((Kept.of Y h1).trans h2).mono (fun k hk => List.mem_cons_of_mem _ hk)).trans (h3.mono (by simp))
  exact h.less (fun k hk => by
    rcases List.mem_cons.1 hk with rfl | hk
    · exact ho
    · exact .inl hk)
/-- Its blocks. -/
def blk (b : Nat) (v : Value) : List Nat := b :: v.ownBlock.toList
def Ans (t : Bool) (w : World) (e : Ending) (w' : World) : Prop := e = .returned (.bool t) ∧ Below w.heap.size w w'
theorem take_set_same {α : Type} (l : List α) (m : Nat) (x : α) : (l.set m x).take m = l.take m := by
  rw [List.take_set, List.set_eq_of_length_le (by rw [List.length_take]; omega)]
def Told (v : Value) (w : World) (e : Ending) (w' : World) : Prop := e = .returned v ∧ Below w.heap.size w w'
theorem tmod_nat (a n : Nat) : (a : Int).tmod (n : Int) = ((a % n : Nat) : Int) := by
  rw [Int.tmod_eq_emod_of_nonneg (by omega)]; omega
theorem below_drewN2 (w : World) (n : Nat) : Below w.heap.size w (w.drewN n) := ⟨rfl, rfl, rfl, Nat.le_refl _, fun _ _ => rfl⟩
def Quiet (v : Value) (w : World) (e : Ending) (w' : World) : Prop := e = .returned v ∧ ∃ m, w' = w.drewN m
theorem Quiet.told {v : Value} {w : World} {e : Ending} {w' : World} (h : Quiet v w e w') : Told v w e w' := by
  obtain ⟨h1, m, rfl⟩ := h
  exact ⟨h1, below_drewN2 w m⟩
theorem below_drew2 (w : World) : Below w.heap.size w w.drew.drew := ⟨rfl, rfl, rfl, Nat.le_refl _, fun _ _ => rfl⟩
theorem own_base {w : World} {B B' e size n : Nat} {v : Value} {xs : List Value} (h : w.ownsRow B e size v n xs) (hB : B' ≤ B) : w.ownsRow B' e size v n xs := by
  refine ⟨h.1, h.2.imp id ?_⟩
  rintro ⟨g, cap, cur, h1, h2, r⟩
  exact ⟨g, cap, cur, h1, Nat.le_trans hB h2, r⟩
end Go.Proofs.Ytngmaiiibinkaaa
/- What the document's run, and the executive's, both lean on: blocks by types, rows of spans, sums. -/
namespace Go.Proofs.Ytngmaiiibinkaaa
open Go.RowKit
set_option linter.unusedVariables false
set_option linter.unusedSimpArgs false
abbrev TSp : TypeId := 44
abbrev T64 : TypeId := 2
abbrev TIn : TypeId := 3
/-- Of what was there nothing has turned but blocks of these types. -/
structure KT (S : List TypeId) (w w' : World) : Prop where
  size : w.heap.size ≤ w'.heap.size
  blk : ∀ (b : Nat) (cs : Array Value) (T : TypeId), w.heap[b]? = some (Obj.cells cs T (0, 0)) → T ∉ S → w'.heap[b]? = some (Obj.cells cs T (0, 0))
section
variable {S S' : List TypeId} {w w' w'' : World}
theorem KT.refl (S : List TypeId) (w : World) : KT S w w := ⟨Nat.le_refl _, fun _ _ _ h _ => h⟩
theorem KT.trans (h : KT S w w') (k : KT S w' w'') : KT S w w'' := ⟨Nat.le_trans h.size k.size, fun b cs T hb hT => k.blk b cs T (h.blk b cs T hb hT) hT⟩
theorem KT.mono (h : KT S w w') (hs : ∀ T ∈ S, T ∈ S') : KT S' w w' := ⟨h.size, fun b cs T hb hT => h.blk b cs T hb (fun hm => hT (hs T hm))⟩
theorem KT.of (h : Below w.heap.size w w') : KT S w w' := ⟨h.size, fun b cs T hb _ => (h.block b (Array.getElem?_eq_some_iff.1 hb).1).trans hb⟩
theorem KT.kept {X : List Nat} (h : Kept X w w') (hX : ∀ k ∈ X, ∃ cs T, w.heap[k]? = some (.cells cs T (0, 0)) ∧ T ∈ S) : KT S w w' := ⟨h.size, fun b cs T hb hT => (h.block b (Array.getElem?_eq_some_iff.1 hb).1 (fun hm => by
  obtain ⟨cs', T', h1, h2⟩ := hX b hm
  rw [hb] at h1
  simp only [Option.some.injEq, Obj.cells.injEq] at h1
  rw [h1.2.1] at hT; exact hT h2)).trans hb⟩
theorem KT.set {b i : Nat} {cs : Array Value} {T : TypeId} {v : Value} (hb : w.heap[b]? = some (.cells cs T (0, 0))) (hT : T ∈ S) : KT S w (w.setCell ⟨b, i, none⟩ v) :=
  KT.kept (X := [b]) ((Kept.refl [b] w).set b i v (by simp)) (fun k hk => by rw [List.mem_singleton.1 hk]; exact ⟨cs, T, hb, hT⟩)
theorem KT.cell (h : KT S w w') {b i : Nat} {cs : Array Value} {T : TypeId} {v : Value} (hb : w.heap[b]? = some (.cells cs T (0, 0))) (hT : T ∉ S) : w'.cell? ⟨b, i, none⟩ = w.cell? ⟨b, i, none⟩ :=
  World.cell?_of_block (w := w) ((h.blk b cs T hb hT).trans hb.symm)
theorem KT.row (h : KT S w w') {B e size n : Nat} {v : Value} {xs : List Value} (hr : w.ownsRow B e size v n xs) (he : e ∉ S) : w'.ownsRow B e size v n xs := by
  obtain ⟨h1, h2⟩ := hr
  refine ⟨h1, ?_⟩
  rcases h2 with h2 | ⟨g, cap, cur, hv, hg, hh, r⟩
  · exact .inl h2
  · exact .inr ⟨g, cap, cur, hv, hg, h.blk g cur e hh he, r⟩
end
/-- The row of a value's own block, if any, is of that type. -/
theorem own_ty {w : World} {B e size n : Nat} {v : Value} {xs : List Value} (hr : w.ownsRow B e size v n xs) {g : Nat} (hg : v.ownBlock = some g) : ∃ cs, w.heap[g]? = some (.cells cs e (0, 0)) := by
  rcases hr.2 with ⟨rfl, _⟩ | ⟨g', cap, cur, rfl, _, hh, _⟩
  · simp [Value.ownBlock] at hg
  · simp only [Value.ownBlock, Option.some.injEq] at hg
    subst hg
    exact ⟨cur, hh⟩
/-- Rows of spans. -/
def spC (l : List Spn) : List Value := l.flatMap fun x => [.int .i64 (x.j : Int), .int .i64 x.f, .int .i64 x.t]
theorem below_set {B b i : Nat} {w0 w : World} {v : Value} (h : Below B w0 w) (hb : B ≤ b) (hw : B ≤ w.heap.size) : Below B w0 (w.setCell ⟨b, i, none⟩ v) :=
  h.trans (((Kept.refl [b] w).set b i v (by simp)).below hw (fun k hk => by rw [List.mem_singleton.1 hk]; exact hb))
theorem infoSp : (Try.prog.info? TSp).map (fun i => (i.zero, i.size, i.bytes)) = some (some (.agg #[.int .i64 0, .int .i64 0, .int .i64 0]), 3, 24) := by kernel_rfl
def snL (x : Spn) : List Value := [.int .i64 (x.j : Int), .int .i64 x.f, .int .i64 x.t]
theorem spC_app (a b : List Spn) : spC (a ++ b) = spC a ++ spC b := by simp [spC]
theorem spC_one (x : Spn) : spC [x] = snL x := rfl
theorem spC_len : ∀ l : List Spn, (spC l).length = l.length * 3
  | [] => rfl
  | x :: l => by
    have := spC_len l
    rw [show x :: l = [x] ++ l from rfl, spC_app, List.length_append, this, List.length_append]
    simp [spC_one, snL]; omega
theorem sp_new (w : World) (x : Spn) : ∀ j u, (snL x)[j]? = some u → (w.alloc (.cells #[.int .i64 (x.j : Int), .int .i64 x.f, .int .i64 x.t] TSp)).cell? ((⟨w.heap.size, 0, none⟩ : Addr).add j) = some u := by
  intro j u hj
  rw [add_none, Nat.zero_add, cell_of_row _ _ j _ _ _ (heap_alloc_new w _)]
  simpa [snL] using hj
theorem sp_one (x : Spn) : ∀ u ∈ snL x, u.oneCell' = true := by
  intro u hu
  simp only [snL, List.mem_cons, List.not_mem_nil, or_false] at hu
  rcases hu with rfl | rfl | rfl <;> rfl
theorem sp_set (l : List Spn) (x : Spn) (t : Int) : (spC (l ++ [x])).set (l.length * 3 + 2) (.int .i64 t) = spC (l ++ [⟨x.j, x.f, t⟩]) := by
  rw [spC_app, spC_app, List.set_append_right _ _ (by rw [spC_len]; omega), spC_len]
  congr 1
  rw [show l.length * 3 + 2 - l.length * 3 = 2 by omega]
  rfl
/-- There are no more spans than ticks that were worked. -/
theorem sum_set : ∀ (l : List Int) (i : Nat) (v : Int), i < l.length → (l.set i (kO l i + v)).sum = l.sum + v
  | [], i, v, h => by simp at h
  | a :: l, 0, v, h => by simp [kO]; omega
  | a :: l, i + 1, v, h => by
    have := sum_set l i v (by simpa using h)
    have e : kO (a :: l) (i + 1) = kO l i := by simp [kO]
    rw [e, List.set_cons_succ, List.sum_cons, List.sum_cons, this]; omega
theorem addN_len (sp : List Spn) (i : Nat) (t m : Int) : (addN sp i t m).length ≤ sp.length + 1 := by
  unfold addN
  cases h : sp.getLast? with
  | none => simp
  | some x =>
    simp only
    split
    · simp <;> omega
    · simp
theorem spn_len {ts : List Ts} {js : List Fv} (hl : Lg js) : ∀ n : Nat, ((tst ts js n).sp.length : Int) ≤ (tst ts js n).dn.sum
  | 0 => by simp [tst]
  | n + 1 => by
    have ih := spn_len (ts := ts) hl n
    have hI := ti_all (ts := ts) hl n
    rw [tst_succ]
    cases hw : whoS ts js (tst ts js n) n with
    | none => rw [tstep_none hw]; exact ih
    | some i =>
      rw [tstep_some hw]
      have h1 := (hI.who_some hl hw).1
      have h2 := addN_len (tst ts js n).sp i n 1
      simp only [runM]
      rw [sum_set _ _ _ (by rw [hI.ld]; exact h1)]
      omega
theorem sum_le : ∀ (a b : List Int), a.length = b.length → (∀ i, i < a.length → kO a i ≤ kO b i) → a.sum ≤ b.sum
  | [], b, h, _ => by
    have : b = [] := List.eq_nil_of_length_eq_zero (by simpa using h.symm)
    subst this; simp
  | x :: a, [], h, _ => by simp at h
  | x :: a, y :: b, h, hk => by
    have h0 := hk 0 (by simp)
    have := sum_le a b (by simpa using h) (fun i hi => by
      have := hk (i + 1) (by simpa using hi)
      simpa [kO] using this)
    simp only [kO, List.getElem?_cons_zero, Option.getD_some] at h0
    rw [List.sum_cons, List.sum_cons]; omega
theorem spn_few {ts : List Ts} {js : List Fv} (hl : Lg js) (n : Nat) : ((tst ts js n).sp.length : Int) ≤ (js.map (·.k)).sum := by
  have h1 := spn_len (ts := ts) hl n
  have hI := ti_all (ts := ts) hl n
  have h2 := sum_le (tst ts js n).dn (js.map (·.k)) (by rw [hI.ld, List.length_map]) (fun i hi => by
    have hi' : i < js.length := by rw [← hI.ld]; exact hi
    have := (hI.d0 i hi').2
    have e : kO (js.map (·.k)) i = (jb js i).k := by simp [kO, jb, hi']
    omega)
  omega
theorem infoI64 : (Try.prog.info? T64).map (fun i => (i.zero, i.size, i.bytes)) = some (some (.int .i64 0), 1, 8) := by kernel_rfl
theorem make_64 (n : Nat) (hn : n ≤ 1000) (W : World) : (Instr.makeSlice 25 (.int .i64 (n : Int)) (.int .i64 (n : Int))).run Try.prog W = .ok (.slice (some ⟨W.heap.size, 0, none⟩) n n) (W.alloc (.cells (madeCells (Value.cells (.int .i64 0)) n) T64)) := by
  obtain ⟨i0, hi, hz0, hz1, hz2⟩ := info_parts infoI64
  have h := run_make (P := Try.prog) W 25 T64 i0 _ Try.underlying25 hi hz0 .i64 .i64 n n (by omega) (Int.le_refl _) (by rw [hz2]; omega) (by omega)
  simp only [Int.toNat_natCast, hz1, Nat.mul_one] at h
  exact h
theorem ltT {a b c : World} (h : Lt a b) (k : Lt b c) : Lt a c := by
  have h : Below a.heap.size a b := h
  have k : Below b.heap.size b c := k
  exact h.trans (k.mono h.size)
theorem ltR (a : World) : Lt a a := Below.refl _ _
theorem ltA {a b : World} (h : Lt a b) (o : Obj) : Lt a (b.alloc o) := ltT h ((Below.refl _ _).alloc (Nat.le_refl _) _)
theorem ltD {a b : World} (h : Lt a b) : Lt a b.drew := ltT h (below_drew b)
theorem ltN {a b : World} (h : Lt a b) (n : Nat) : Lt a (b.drewN n) := ltT h (below_drewN2 b n)
theorem heapLt {W W' : World} {g : Nat} {o : Obj} (h : W.heap[g]? = some o) (k : Lt W W') : W'.heap[g]? = some o := by
  have k : Below W.heap.size W W' := k
  exact (k.block g (Array.getElem?_eq_some_iff.1 h).1).trans h
theorem ownLt {W W' : World} {B e size n : Nat} {v : Value} {xs : List Value} (h : W.ownsRow B e size v n xs) (k : Lt W W') : W'.ownsRow B e size v n xs := by
  have k : Below W.heap.size W W' := k
  exact (Kept.of [] k).row h (by simp)
theorem own_mono {w : World} {B B' e size n : Nat} {v : Value} {xs : List Value} (h : w.ownsRow B' e size v n xs) (hB : B ≤ B') : w.ownsRow B e size v n xs := by
  refine ⟨h.1, ?_⟩
  rcases h.2 with h2 | ⟨g, cap, cur, h1, hb, r⟩
  · exact .inl h2
  · exact .inr ⟨g, cap, cur, h1, by omega, r⟩
theorem ltS {a b : World} (h : Lt a b) : a.heap.size ≤ b.heap.size := Below.size h
/-- Ends are being filled. -/
structure EnR (wc : World) (ge n k : Nat) (wr : World) : Prop where
  row : ∃ cur : Array Value, wr.heap[ge]? = some (Obj.cells cur T64 (0, 0)) ∧ cur.size = n ∧ ∀ j, j < k → cur[j]? = some (.int .i64 (-1))
  kp : Kept [ge] wc wr
theorem EnR.step {wc wr : World} {ge n k : Nat} (h : EnR wc ge n k wr) (hk : k < n) : EnR wc ge n (k + 1) (wr.setCell ⟨ge, k, none⟩ (.int .i64 (-1))) := by
  obtain ⟨cur, h1, h2, h3⟩ := h.row
  refine ⟨⟨cur.setIfInBounds k (.int .i64 (-1)), heap_setCell_same _ _ _ _ _ _ h1, by simp [h2], fun j hj => ?_⟩, h.kp.set ge k _ (by simp)⟩
  by_cases e : k = j
  · subst e; simp [h2, hk]
  · rw [Array.getElem?_setIfInBounds_ne e]; exact h3 j (by omega)
theorem EnR.cell {wc wr : World} {ge n k : Nat} (h : EnR wc ge n k wr) (hk : k < n) : (∃ v, wr.cell? ⟨ge, k, none⟩ = some v) ∧ wr.frozen? ⟨ge, k, none⟩ = false := by
  obtain ⟨cur, h1, h2, h3⟩ := h.row
  exact ⟨⟨cur[k], by rw [cell_of_row wr ge k _ _ _ h1]; exact Array.getElem?_eq_getElem (by omega)⟩, by simp [World.frozen?, h1]⟩
theorem EnR.own {B : Nat} {wc wr : World} {ge n : Nat} (h : EnR wc ge n n wr) (hB : B ≤ ge) (hn : n ≤ 1000) : wr.ownsRow B T64 1 (.slice (some ⟨ge, 0, none⟩) n n) n (numL (List.replicate n (-1))) := by
  obtain ⟨cur, h1, h2, h3⟩ := h.row
  refine ⟨by simp [numL], .inr ⟨ge, n, cur, rfl, hB, h1, Nat.le_refl _, by unfold maxLen; omega, by omega, ?_⟩⟩
  refine List.ext_getElem? fun j => ?_
  rw [List.getElem?_take]
  by_cases hj : j < n
  · rw [if_pos (by omega), Array.getElem?_toList, h3 j hj]
    simp [numL, hj]
  · rw [if_neg (by omega), List.getElem?_eq_none]
    simp [numL]; omega
end Go.Proofs.Ytngmaiiibinkaaa
/- All end at some time. -/
namespace Go.Proofs.Ytngmaiiibinkaaa
set_option linter.unusedVariables false
set_option linter.unusedSimpArgs false
/-- How many have not ended. -/
def lftC (js : List Fv) (dn : List Int) : Nat := (List.range js.length).countP fun i => decide (kO dn i < (jb js i).k)
section
variable {ts : List Ts} {js : List Fv}
theorem lftC_zero {dn : List Int} (h0 : ∀ i, i < js.length → kO dn i ≤ (jb js i).k) : lftC js dn = 0 ↔ ∀ i, i < js.length → kO dn i = (jb js i).k := by
  unfold lftC
  rw [List.countP_eq_zero]
  constructor
  · intro h i hi
    have := h i (List.mem_range.2 hi)
    have := h0 i hi
    simp at *
    omega
  · intro h i hi
    have := h i (List.mem_range.1 hi)
    simp; omega
theorem countP_one (f g : Nat → Bool) (i : Nat) : ∀ l : List Nat, l.Nodup → i ∈ l → f i = true → g i = false → (∀ j, j ≠ i → g j = f j) → l.countP f = l.countP g + 1
  | [], _, h, _, _, _ => by simp at h
  | a :: l, hn, h, hf, hg, he => by
    have hnd := List.nodup_cons.1 hn
    by_cases ha : a = i
    · subst ha
      rw [List.countP_cons_of_pos hf, List.countP_cons_of_neg (by simp [hg])]
      congr 1
      refine List.countP_congr fun j hj => ?_
      rw [he j (fun e => hnd.1 (by rw [← e]; exact hj))]
    · have hi : i ∈ l := by
        rcases List.mem_cons.1 h with h | h
        · exact absurd h.symm ha
        · exact h
      have := countP_one f g i l hnd.2 hi hf hg he
      rw [List.countP_cons, List.countP_cons, he a ha, this]
      omega
theorem lftC_set {dn : List Int} {i : Nat} {v : Int} (hl : dn.length = js.length) (hi : i < js.length) (hk : kO dn i < (jb js i).k) : lftC js (dn.set i v) + (if v < (jb js i).k then 0 else 1) = lftC js dn := by
  unfold lftC
  by_cases hv : v < (jb js i).k
  · rw [if_pos hv]
    refine List.countP_congr fun j hj => ?_
    rw [kO_set _ _ (by omega)]
    by_cases e : j = i
    · subst e; simp [hv, hk]
    · simp [e]
  · rw [if_neg hv]
    symm
    refine countP_one _ _ i _ List.nodup_range (List.mem_range.2 hi) (by simp [hk]) ?_ (fun j hj => ?_)
    · rw [kO_set _ _ (by omega), if_pos rfl]; simp; omega
    · rw [kO_set _ _ (by omega), if_neg hj]
theorem lftC_init (hl : Lg js) : lftC js (tst ts js 0).dn = js.length := by
  unfold lftC
  rw [List.countP_eq_length.2]
  · simp
  · intro i hi
    have hi := List.mem_range.1 hi
    have := hl.k1 i hi
    have e : kO (tst ts js 0).dn i = 0 := kO_rep _ _ _ hi
    exact decide_eq_true (by rw [e]; omega)
/-- By then all have ended. -/
theorem done_by (hl : Lg js) (R : Nat) (hR : ∀ i, i < js.length → (jb js i).r ≤ R) : ∀ m : Nat, (∀ i, i < js.length → kO (tst ts js (R + m)).dn i = (jb js i).k) ∨ (m : Int) ≤ (tst ts js (R + m)).dn.sum
  | 0 => by
    right
    have hI := ti_all (ts := ts) hl R
    have := sum_le (List.replicate js.length 0) (tst ts js R).dn (by simp [hI.ld]) (fun i hi => by
      have hi' : i < js.length := by simpa using hi
      rw [kO_rep _ _ _ hi']
      exact (hI.d0 i hi').1)
    simpa using this
  | m + 1 => by
    have hI := ti_all (ts := ts) hl (R + m)
    rcases done_by hl R hR m with h | h
    · left
      have := (run_done hl h 1).1
      intro i hi
      rw [← Nat.add_assoc, this]
      exact h i hi
    · by_cases hd : ∀ i, i < js.length → kO (tst ts js (R + m)).dn i = (jb js i).k
      · left
        have := (run_done hl hd 1).1
        intro i hi
        rw [← Nat.add_assoc, this]
        exact hd i hi
      · right
        rw [← Nat.add_assoc, tst_succ]
        cases hw : whoS ts js (tst ts js (R + m)) ((R + m : Nat) : Int) with
        | none =>
          exfalso
          apply hd
          intro i hi
          exact not_rdy (hI.d0 i hi).2 (hI.who_none hl hw i hi) (by have := hR i hi; omega)
        | some i =>
          rw [tstep_some hw]
          simp only [runM]
          rw [sum_set _ _ _ (by rw [hI.ld]; exact (hI.who_some hl hw).1)]
          omega
theorem done_at (hl : Lg js) (R S : Nat) (hR : ∀ i, i < js.length → (jb js i).r ≤ R) (hS : (js.map (·.k)).sum ≤ S) : ∀ i, i < js.length → kO (tst ts js (R + (S + 1))).dn i = (jb js i).k := by
  rcases done_by (ts := ts) hl R hR (S + 1) with h | h
  · exact h
  · exfalso
    have hI := ti_all (ts := ts) hl (R + (S + 1))
    have h2 := sum_le (tst ts js (R + (S + 1))).dn (js.map (·.k)) (by rw [hI.ld, List.length_map]) (fun i hi => by
      have hi' : i < js.length := by rw [← hI.ld]; exact hi
      have := (hI.d0 i hi').2
      have e : kO (js.map (·.k)) i = (jb js i).k := by simp [kO, jb, hi']
      omega)
    omega
theorem done_later (hl : Lg js) {a b : Nat} (hab : a ≤ b) (h : ∀ i, i < js.length → kO (tst ts js a).dn i = (jb js i).k) : (tst ts js b).dn = (tst ts js a).dn ∧ (tst ts js b).sp = (tst ts js a).sp ∧ (tst ts js b).en = (tst ts js a).en := by
  have := run_done (ts := ts) hl h (b - a)
  rwa [show a + (b - a) = b by omega] at this
end
end Go.Proofs.Ytngmaiiibinkaaa
/- What is legal; runs of jobs that are made out of others. -/
namespace Go.Proofs.Ytngmaiiibinkaaa
set_option linter.unusedVariables false
set_option linter.unusedSimpArgs false

/-! ### What is legal -/
theorem fitB_of (q : Int) : ∀ (left : Int) (l : List Int), Pos1 l → l.sum ≤ left → (∀ x ∈ l, x ≤ q) → fitB q left l = true
  | left, [], _, _, _ => rfl
  | left, c :: r, h1, h2, h3 => by
    rw [List.sum_cons] at h2
    have := h1.head
    have := h1.tail.sum
    have := h3 c (by simp)
    rw [fitB, fitB_of q (left - c) r h1.tail (by omega) (fun x hx => h3 x (List.mem_cons_of_mem _ hx)), decide_eq_true (by omega)]
    rfl
theorem leg_of {ts : List Ts} : ∀ js : List Fv, (∀ j ∈ js, LJ ts j) → js.Pairwise (fun x y => x.t = y.t → x.a + (tk ts x.t).t ≤ y.a) → legF ts [] js = true := by
  refine snoc_ind (fun _ _ => rfl) fun js j ih h1 h2 => ?_
  rw [List.pairwise_append] at h2
  have hj := h1 j (by simp)
  rw [legF_app, ih (fun x hx => h1 x (by simp [hx])) h2.1, List.nil_append, legF, legF, Bool.true_and, Bool.and_true]
  have hs : soonI ts js j.t ≤ j.a := by
    unfold soonI
    cases hl : lastT js j.t with
    | none => exact hj.a0
    | some l =>
      obtain ⟨m1, m2⟩ := lastT_mem hl
      have := h2.2.2 l m1 j (by simp) m2
      rw [m2] at this
      exact this
  rw [legJ, inB_yes ⟨hj.t0, by have := hj.t1; omega⟩, inB_yes ⟨hs, hj.a1⟩, inB_yes ⟨hj.r0, hj.r1⟩, inB_yes ⟨hj.k0, hj.k1⟩, fitB_of _ _ _ hj.pos hj.fit hj.q]
  rfl
theorem legS_of {ts : List Ts} {js : List Fv} (hc : (chkAll ts).2 = 0) (hl : js.length ≤ 4096) (h1 : ∀ j ∈ js, LJ ts j) (h2 : js.Pairwise (fun x y => x.t = y.t → x.a + (tk ts x.t).t ≤ y.a)) : legS ts js = true := by
  rw [legS, leg_of js h1 h2, decide_eq_true ⟨hc, hl⟩]
  rfl

/-! ### Who runs, of two rows of jobs -/
theorem pkN_congr {ts ts' : List Ts} {js js' : List Fv} {dn dn' : List Int} {t t' : Int} : ∀ n, (∀ i, i < n → rdy js' dn' t' i = rdy js dn t i) → (∀ i j, i < n → j < n → decide (prO ts' js' i < prO ts' js' j) = decide (prO ts js i < prO ts js j)) → pkN ts' js' dn' t' n = pkN ts js dn t n
  | 0, _, _ => rfl
  | n + 1, h1, h2 => by
    have e := pkN_congr n (fun i hi => h1 i (by omega)) (fun i j hi hj => h2 i j (by omega) (by omega))
    rw [pkN_succ, pkN_succ, e]
    unfold pk1
    rw [h1 n (by omega)]
    cases hp : pkN ts js dn t n with
    | none => rfl
    | some b =>
      have hb := ((pkN_spec n).2 b hp).1
      have h3 := h2 n b (by omega) (by omega)
      simp only [h3]
theorem jb_map {f : Fv → Fv} {js : List Fv} {i : Nat} (hi : i < js.length) : jb (js.map f) i = f (jb js i) := by
  have e : js[i]? = some js[i] := List.getElem?_eq_getElem hi
  rw [jb_get e, jb_get (x := f js[i]) (by rw [List.getElem?_map, e]; rfl)]
theorem jb_out {js : List Fv} {i : Nat} (hi : js.length ≤ i) : jb js i = ⟨0, 0, 0, 1, []⟩ := by
  have : js[i]? = none := List.getElem?_eq_none hi
  simp [jb, this]
theorem kO_map {f : Int → Int} {l : List Int} {i : Nat} (hi : i < l.length) : kO (l.map f) i = f (kO l i) := by
  simp [kO, hi]
theorem addN_map (f : Int → Int) (hf : ∀ a b, f a = f b → a = b) (sp : List Spn) (i : Nat) (t u m m' : Int) (ht : f t = u) (hm : f (t + m) = u + m') :
    addN (sp.map fun x => ⟨x.j, f x.f, f x.t⟩) i u m' = (addN sp i t m).map fun x => ⟨x.j, f x.f, f x.t⟩ := by
  rcases List.eq_nil_or_concat sp with h | ⟨l, x, h⟩
  · subst h
    simp [addN, ht, hm]
  · rw [List.concat_eq_append] at h
    subst h
    unfold addN
    rw [List.map_append, List.map_singleton]
    simp only [List.getLast?_concat, List.dropLast_concat]
    by_cases hc : x.j = i ∧ x.t = t
    · rw [if_pos hc, if_pos ⟨hc.1, by rw [hc.2, ht]⟩]
      simp [hm]
    · rw [if_neg hc, if_neg (fun h => hc ⟨h.1, hf _ _ (by rw [h.2, ht])⟩)]
      simp [ht, hm]
end Go.Proofs.Ytngmaiiibinkaaa
/- What spans tell: work, gaps, and who is more urgent. -/
namespace Go.Proofs.Ytngmaiiibinkaaa
set_option linter.unusedVariables false
set_option linter.unusedSimpArgs false
/-- How long a job runs, by spans. -/
def lenS (sp : List Spn) (i : Nat) : Int := ((sp.filter fun x => decide (x.j = i)).map fun x => x.t - x.f).sum
theorem lenS_app (a b : List Spn) (i : Nat) : lenS (a ++ b) i = lenS a i + lenS b i := by simp [lenS]
theorem lenS_one (x : Spn) (i : Nat) : lenS [x] i = if x.j = i then x.t - x.f else 0 := by
  unfold lenS
  by_cases h : x.j = i <;> simp [h]
/-- Spans from a tick on; what is idle between is idle, as nobody waits. -/
def Gap (js : List Fv) (en : List Int) (a b : Int) : Prop := ∀ i, i < js.length → (jb js i).r < b → kO en i ≤ a ∧ 0 < kO en i
def chn (js : List Fv) (en : List Int) : Int → List Spn → Prop
  | _, [] => True
  | a, x :: l => a ≤ x.f ∧ x.f < x.t ∧ x.j < js.length ∧ (jb js x.j).r ≤ x.f ∧ (a < x.f → Gap js en a x.f) ∧ chn js en x.t l
def lastA (sp : List Spn) : Int := (sp.getLast?.map (·.t)).getD 0
theorem lastA_app (l : List Spn) (x : Spn) : lastA (l ++ [x]) = x.t := by simp [lastA]
theorem chn_app {js : List Fv} {en : List Int} (x : Spn) : ∀ (a : Int) (l : List Spn), chn js en a (l ++ [x]) ↔ chn js en a l ∧ chn js en ((l.getLast?.map (·.t)).getD a) [x]
  | a, [] => by simp [chn]
  | a, y :: l => by
    rw [List.cons_append, chn, chn, chn_app x y.t l]
    have : ((y :: l).getLast?.map (·.t)).getD a = (l.getLast?.map (·.t)).getD y.t := by
      rcases List.eq_nil_or_concat l with h | ⟨m, z, h⟩
      · subst h; rfl
      · rw [List.concat_eq_append] at h; subst h
        rw [← List.cons_append, List.getLast?_concat, List.getLast?_concat]
        rfl
    rw [this]
    constructor
    · rintro ⟨h1, h2, h3, h4, h5, h6, h7⟩; exact ⟨⟨h1, h2, h3, h4, h5, h6⟩, h7⟩
    · rintro ⟨⟨h1, h2, h3, h4, h5, h6⟩, h7⟩; exact ⟨h1, h2, h3, h4, h5, h6, h7⟩
theorem chn_en {js : List Fv} {en en' : List Int} (h : ∀ i, i < js.length → 0 < kO en i → kO en' i = kO en i) : ∀ (a : Int) (l : List Spn), chn js en a l → chn js en' a l
  | _, [], _ => trivial
  | a, x :: l, ⟨h1, h2, h3, h4, h5, h6⟩ => ⟨h1, h2, h3, h4, fun hl i hi hr => by
      have := h5 hl i hi hr
      rw [h i hi this.2]; exact this, chn_en h x.t l h6⟩
/-- The last span goes on. -/
def exS0 (sp : List Spn) (i : Nat) (t : Int) : Bool := match sp.getLast? with | none => false | some x => decide (x.j = i) && decide (x.t = t)
theorem ex0_no {sp : List Spn} {i : Nat} {t m : Int} (h : exS0 sp i t = false) : addN sp i t m = sp ++ [⟨i, t, t + m⟩] := by
  unfold exS0 at h
  unfold addN
  cases hl : sp.getLast? with
  | none => rfl
  | some x =>
    rw [hl] at h
    simp only at h ⊢
    rw [if_neg]
    rintro ⟨h1, h2⟩
    rw [decide_eq_true h1, decide_eq_true h2] at h
    cases h
theorem ex0_yes {sp : List Spn} {i : Nat} {t m : Int} (h : exS0 sp i t = true) : ∃ l x, sp = l ++ [x] ∧ x.j = i ∧ x.t = t ∧ addN sp i t m = l ++ [⟨x.j, x.f, t + m⟩] := by
  unfold exS0 at h
  unfold addN
  cases hl : sp.getLast? with
  | none => rw [hl] at h; cases h
  | some x =>
    rw [hl] at h
    simp only [Bool.and_eq_true, decide_eq_true_eq] at h ⊢
    obtain ⟨l, rfl⟩ := List.getLast?_eq_some_iff.1 hl
    refine ⟨l, x, rfl, h.1, h.2, ?_⟩
    rw [if_pos h]
    simp [h.1]
theorem chn_mem {js : List Fv} {en : List Int} : ∀ {a : Int} {l : List Spn}, chn js en a l → ∀ x ∈ l, x.j < js.length ∧ (a ≤ x.f ∧ x.f < x.t) ∧ x.t ≤ (l.getLast?.map (·.t)).getD a
  | _, [], _, x, hx => by cases hx
  | a, y :: l, ⟨h1, h2, h3, h4, h5, h6⟩, x, hx => by
    have hl : ((y :: l).getLast?.map (·.t)).getD a = (l.getLast?.map (·.t)).getD y.t := by
      rcases List.eq_nil_or_concat l with h | ⟨m, z, h⟩
      · subst h; rfl
      · rw [List.concat_eq_append] at h; subst h
        rw [← List.cons_append, List.getLast?_concat, List.getLast?_concat]
        rfl
    rw [hl]
    rcases List.mem_cons.1 hx with rfl | hx
    · refine ⟨h3, ⟨h1, h2⟩, ?_⟩
      cases hg : l.getLast? with
      | none => simp
      | some z =>
        have hz := List.mem_of_getLast? hg
        have := chn_mem h6 z hz
        simp
        omega
    · have := chn_mem h6 x hx
      exact ⟨this.1, ⟨by omega, this.2.1.2⟩, this.2.2⟩
/-- What holds of spans at tick n. -/
structure Wk (js : List Fv) (n : Int) (s : TSt) : Prop where
  ch : chn js s.en 0 s.sp
  la : lastA s.sp ≤ n
  l0 : 0 ≤ lastA s.sp
  gp : lastA s.sp < n → Gap js s.en (lastA s.sp) n
  wk : ∀ i, i < js.length → lenS s.sp i = kO s.dn i
  en : ∀ x ∈ s.sp, kO s.dn x.j = (jb js x.j).k → x.t ≤ kO s.en x.j
  tm : ∀ i, i < js.length → 0 < kO s.dn i → (jb js i).r + kO s.dn i ≤ n ∧ (kO s.dn i = (jb js i).k → (jb js i).r + kO s.dn i ≤ kO s.en i)
section
variable {ts : List Ts} {js : List Fv}
theorem wk_all (hl : Lg js) : ∀ n : Nat, Wk js n (tst ts js n)
  | 0 => by
    refine ⟨trivial, Int.le_refl _, Int.le_refl _, fun h => by simp [tst, lastA] at h, fun i hi => ?_, fun x hx => by simp [tst] at hx, fun i hi hp => ?_⟩
    · simp only [tst]; rw [kO_rep _ _ _ hi]; rfl
    · simp only [tst] at hp; rw [kO_rep _ _ _ hi] at hp; omega
  | n + 1 => by
    have h := wk_all hl n
    have hI := ti_all (ts := ts) hl n
    have hn : ((n + 1 : Nat) : Int) = (n : Int) + 1 := by omega
    rw [tst_succ]
    cases hw : whoS ts js (tst ts js n) n with
    | none =>
      have hno := hI.who_none hl hw
      rw [tstep_none hw]
      refine ⟨h.ch, by have := h.la; simp only; omega, h.l0, fun hlt i hi hr => ?_, h.wk, h.en, fun i hi hp => ⟨by have := (h.tm i hi hp).1; simp only; omega, (h.tm i hi hp).2⟩⟩
      have hd : kO (tst ts js n).dn i = (jb js i).k := not_rdy (hI.d0 i hi).2 (hno i hi) (by omega)
      have hk := hl.k1 i hi
      rcases hI.en i hi with he | he
      · omega
      · refine ⟨?_, he.2.1⟩
        by_cases hla : lastA (tst ts js n).sp < n
        · by_cases hr2 : (jb js i).r < n
          · exact (h.gp hla i hi hr2).1
          · exfalso
            have := (h.tm i hi (by omega)).1
            omega
        · have := h.la
          simp only
          omega
    | some i =>
      obtain ⟨h1, h2, h3⟩ := hI.who_some hl hw
      have hid : i < (tst ts js n).dn.length := by rw [hI.ld]; exact h1
      have hie : i < (tst ts js n).en.length := by rw [hI.le]; exact h1
      have hd0 := hI.d0 i h1
      have hr0 := hl.r0 i h1
      have hki := hl.k1 i h1
      rw [tstep_some hw]
      have hen : ∀ j, j < js.length → 0 < kO (tst ts js n).en j → kO (runM js (tst ts js n) n i 1).en j = kO (tst ts js n).en j := by
        intro j hj hp
        simp only [runM]
        split
        · rw [kO_set _ _ hie]
          split
          · subst j
            rcases hI.en i h1 with he | he <;> omega
          · rfl
        · rfl
      have hch := chn_en hen 0 _ h.ch
      obtain ⟨sp', hsp⟩ : ∃ sp', (runM js (tst ts js n) n i 1).sp = sp' := ⟨_, rfl⟩
      have hsp2 : addN (tst ts js n).sp i n 1 = sp' := hsp
      have hla := h.la
      have key : chn js (runM js (tst ts js n) n i 1).en 0 sp' ∧ lastA sp' = (n : Int) + 1 ∧ (∀ j, lenS sp' j = lenS (tst ts js n).sp j + (if i = j then 1 else 0)) ∧ (∀ x ∈ sp', (x ∈ (tst ts js n).sp) ∨ (x.j = i ∧ x.t = (n : Int) + 1)) := by
        cases hx : exS0 (tst ts js n).sp i n with
        | false =>
          have e : sp' = (tst ts js n).sp ++ [⟨i, n, (n : Int) + 1⟩] := by rw [← hsp2]; exact ex0_no hx
          subst e
          refine ⟨(chn_app _ _ _).2 ⟨hch, hla, by simp only; omega, h1, h2, fun hlt => ?_, trivial⟩, lastA_app _ _, fun j => ?_, fun x hx => ?_⟩
          · have hg := h.gp hlt
            intro j hj hr
            have := hg j hj hr
            rw [hen j hj this.2]; exact this
          · rw [lenS_app, lenS_one]
            simp only
            split <;> omega
          · rcases List.mem_append.1 hx with hx | hx
            · exact .inl hx
            · rw [List.mem_singleton.1 hx]; exact .inr ⟨rfl, rfl⟩
        | true =>
          obtain ⟨l, x, e1, e2, e3, e4⟩ := ex0_yes (m := 1) hx
          rw [hsp2] at e4
          subst e4
          rw [e1] at hch
          obtain ⟨c1, c2⟩ := (chn_app _ _ _).1 hch
          obtain ⟨d1, d2, d3, d4, d5, -⟩ := c2
          refine ⟨(chn_app _ _ _).2 ⟨c1, d1, by simp only; omega, d3, d4, d5, trivial⟩, lastA_app _ _, fun j => ?_, fun y hy => ?_⟩
          · rw [e1, lenS_app, lenS_app, lenS_one, lenS_one]
            simp only
            rw [e2]
            split <;> omega
          · rw [e1]
            rcases List.mem_append.1 hy with hy | hy
            · exact .inl (by simp [hy])
            · rw [List.mem_singleton.1 hy]; exact .inr ⟨e2, rfl⟩
      obtain ⟨k1, k2, k3, k4⟩ := key
      have hdn : ∀ j, kO (runM js (tst ts js n) n i 1).dn j = if j = i then kO (tst ts js n).dn i + 1 else kO (tst ts js n).dn j := fun j => by simp only [runM]; rw [kO_set _ _ hid]
      refine ⟨by rw [hsp]; exact k1, by rw [hsp, k2]; omega, by rw [hsp, k2]; omega, fun hlt => by rw [hsp, k2] at hlt; omega, fun j hj => ?_, fun x hx => ?_, fun j hj hp => ?_⟩
      · rw [hsp, k3, hdn, h.wk j hj]
        by_cases e : j = i
        · subst e; simp
        · rw [if_neg e, if_neg (fun h => e h.symm)]; omega
      · rw [hsp] at hx
        rw [hdn]
        intro hk
        have hei : x.j = i → kO (runM js (tst ts js n) n i 1).en x.j = (n : Int) + 1 := fun e => by
          rw [e] at hk ⊢
          rw [if_pos rfl] at hk
          simp only [runM]
          rw [if_pos hk, kO_set _ _ hie, if_pos rfl]
        rcases k4 x hx with hm | ⟨e1, e2⟩
        · by_cases e : x.j = i
          · rw [hei e]
            have := (chn_mem hch x hm).2.2
            have h9 := h.la
            unfold lastA at h9
            omega
          · rw [if_neg e] at hk
            have := h.en x hm hk
            have hxl := (chn_mem hch x hm).1
            rw [hen x.j hxl (by
              have := hl.k1 _ hxl
              rcases hI.en x.j hxl with h | h
              · omega
              · exact h.2.1)]
            exact this
        · rw [hei e1, e2]; exact Int.le_refl _
      · rw [hdn] at hp ⊢
        by_cases e : j = i
        · subst e
          rw [if_pos rfl] at hp ⊢
          have hb : (jb js j).r + kO (tst ts js n).dn j ≤ n := by
            rcases Int.lt_or_le 0 (kO (tst ts js n).dn j) with hq | hq
            · exact (h.tm j hj hq).1
            · omega
          refine ⟨by omega, fun hk => ?_⟩
          simp only [runM]
          rw [if_pos hk, kO_set _ _ hie, if_pos rfl]
          omega
        · rw [if_neg e] at hp ⊢
          have := h.tm j hj hp
          refine ⟨by omega, fun hk => ?_⟩
          rw [hen j hj (by
            have := hl.k1 j hj
            rcases hI.en j hj with h | h
            · omega
            · exact h.2.1)]
          exact this.2 hk
end
end Go.Proofs.Ytngmaiiibinkaaa
/- Nobody waits for a less urgent one, but for the rest of a section. -/
namespace Go.Proofs.Ytngmaiiibinkaaa
set_option linter.unusedVariables false
set_option linter.unusedSimpArgs false
/-- Ticks within sections, one behind the other, are within one. -/
theorem wth_row (q : Int) : ∀ (c : List Int) (lo hi : Int), Pos1 c → (∀ y ∈ c, y ≤ q) → lo ≤ hi → (∀ d, lo ≤ d → d ≤ hi → wthS c d = true) → hi - lo + 1 ≤ q - 1
  | [], lo, hi, _, _, h, hw => by have := hw lo (Int.le_refl _) h; simp [wthS] at this
  | a :: c, lo, hi, hp, hq, h, hw => by
    have ha := hp.head
    have haq := hq a (by simp)
    have hlo := (wthS_lt hp (hw lo (Int.le_refl _) h)).1
    rcases Int.lt_or_le hi a with h1 | h1
    · omega
    · rcases Int.lt_or_le lo a with h2 | h2
      · exfalso
        have := hw a (by omega) h1
        rw [wthS, Int.sub_self, wthS_neg c 0 hp.tail (Int.le_refl _), decide_eq_false (show ¬ a < a by omega)] at this
        simp at this
      · have := wth_row q c (lo - a) (hi - a) hp.tail (fun y hy => hq y (List.mem_cons_of_mem _ hy)) (by omega) (fun d hd1 hd2 => by
          have := hw (d + a) (by omega) (by omega)
          rw [wthS, decide_eq_false (show ¬ d + a < a by omega), Bool.and_false, Bool.false_or, show d + a - a = d by omega] at this
          exact this)
        omega
structure Ug (ts : List Ts) (js : List Fv) (q : Nat → Int) (n : Int) (s : TSt) : Prop where
  ru : ∀ i, s.ru = some i → ∃ l x, s.sp = l ++ [x] ∧ x.j = i ∧ x.t = n
  la : ∀ x, s.sp.getLast? = some x → ∀ k, k < js.length → k ≠ x.j → kO s.en k ≤ x.f
  se : ∀ x, s.sp.getLast? = some x → ∀ k, k < js.length → prO ts js k < prO ts js x.j → kO s.en k = -1 → (jb js k).r < x.t → ∀ u, (jb js k).r ≤ u → u < x.t → wthS (jb js x.j).c (kO s.dn x.j - (x.t - u)) = true
  sp : ∀ x ∈ s.sp, ∀ k, k < js.length → prO ts js k < prO ts js x.j → (kO s.en k = -1 ∨ x.f < kO s.en k) → (jb js k).r < x.t → x.f < (jb js k).r ∧ x.t - (jb js k).r ≤ q x.j - 1
section
variable {ts : List Ts} {js : List Fv} {q : Nat → Int}
theorem ug_all (hl : Lg js) (hq : ∀ i, ∀ y ∈ (jb js i).c, y ≤ q i) : ∀ n : Nat, Ug ts js q n (tst ts js n)
  | 0 => ⟨fun i hi => by simp [tst] at hi, fun x hx => by simp [tst] at hx, fun x hx => by simp [tst] at hx, fun x hx => by simp [tst] at hx⟩
  | n + 1 => by
    have h := ug_all hl hq n
    have hI := ti_all (ts := ts) hl n
    have hW := wk_all (ts := ts) hl n
    have hn : ((n + 1 : Nat) : Int) = (n : Int) + 1 := by omega
    rw [tst_succ]
    cases hw : whoS ts js (tst ts js n) n with
    | none =>
      rw [tstep_none hw]
      exact ⟨(fun i hi => by cases hi), h.la, h.se, h.sp⟩
    | some i =>
      rw [tstep_some hw]
      obtain ⟨h1, h2, h3⟩ := hI.who_some hl hw
      have hid : i < (tst ts js n).dn.length := by rw [hI.ld]; exact h1
      have hie : i < (tst ts js n).en.length := by rw [hI.le]; exact h1
      have hdn : kO (runM js (tst ts js n) n i 1).dn i = kO (tst ts js n).dn i + 1 := by simp only [runM]; rw [kO_set _ _ hid, if_pos rfl]
      have hen : ∀ k, k ≠ i → kO (runM js (tst ts js n) n i 1).en k = kO (tst ts js n).en k := by
        intro k hk
        simp only [runM]
        split
        · rw [kO_set _ _ hie, if_neg hk]
        · rfl
      have hei : kO (runM js (tst ts js n) n i 1).en i = kO (tst ts js n).en i ∨ kO (runM js (tst ts js n) n i 1).en i = (n : Int) + 1 := by
        simp only [runM]
        split
        · rw [kO_set _ _ hie, if_pos rfl]; exact .inr rfl
        · exact .inl rfl
      -- a more urgent one that waits: then it is within a section
      have hwait : ∀ k, k < js.length → prO ts js k < prO ts js i → kO (tst ts js n).en k = -1 → (jb js k).r ≤ n → (tst ts js n).ru = some i ∧ wthS (jb js i).c (kO (tst ts js n).dn i) = true := by
        intro k hk hp hek hr
        have hkd : kO (tst ts js n).dn k < (jb js k).k := by
          rcases hI.en k hk with he | he
          · exact he.1
          · omega
        have hnp : pkN ts js (tst ts js n).dn n js.length ≠ some i := by
          intro hpk
          have := ((pkN_spec _).2 i hpk).2.2 k hk (rdy_iff.2 ⟨hr, hkd⟩)
          omega
        unfold whoS at hw
        cases hru : (tst ts js n).ru with
        | none => rw [hru] at hw; exact absurd hw hnp
        | some c =>
          rw [hru] at hw
          simp only at hw
          split at hw
          · rename_i hwt
            injection hw with hw
            subst hw
            exact ⟨rfl, hwt⟩
          · exact absurd hw hnp
      obtain ⟨sp', hsp⟩ : ∃ sp', (runM js (tst ts js n) n i 1).sp = sp' := ⟨_, rfl⟩
      have hsp2 : addN (tst ts js n).sp i n 1 = sp' := hsp
      -- of spans ahead
      have old : ∀ x ∈ (tst ts js n).sp, ∀ k, k < js.length → prO ts js k < prO ts js x.j → (kO (runM js (tst ts js n) n i 1).en k = -1 ∨ x.f < kO (runM js (tst ts js n) n i 1).en k) → (jb js k).r < x.t → x.f < (jb js k).r ∧ x.t - (jb js k).r ≤ q x.j - 1 := by
        intro x hx k hk hp he hr
        refine h.sp x hx k hk hp ?_ hr
        by_cases e : k = i
        · subst e
          have := hI.en k hk
          rcases this with h5 | h5
          · exact .inl h5.2
          · omega
        · rw [hen k e] at he
          exact he
      cases hx : exS0 (tst ts js n).sp i n with
      | false =>
        have e : sp' = (tst ts js n).sp ++ [⟨i, n, (n : Int) + 1⟩] := by rw [← hsp2]; exact ex0_no hx
        have no : ∀ k, k < js.length → prO ts js k < prO ts js i → kO (tst ts js n).en k = -1 → ¬ (jb js k).r ≤ n := by
          intro k hk hp hek hr
          obtain ⟨hru, _⟩ := hwait k hk hp hek hr
          obtain ⟨l, x, g1, g2, g3⟩ := h.ru i hru
          unfold exS0 at hx
          rw [g1] at hx
          simp [g2, g3] at hx
        have hne : ∀ k, prO ts js k < prO ts js i → k ≠ i := fun k hp e => by rw [e] at hp; omega
        refine ⟨fun j hj => ?_, fun x hx k hk hne => ?_, fun x hx k hk hp hek hr u hu1 hu2 => ?_, fun x hx k hk hp he hr => ?_⟩
        · simp only [runM, Option.some.injEq] at hj
          exact ⟨_, _, by rw [hsp, e], hj, rfl⟩
        · rw [hsp, e, List.getLast?_concat] at hx
          injection hx with hx
          subst hx
          simp only at hne ⊢
          rw [hen k hne]
          rcases hI.en k hk with h5 | h5 <;> omega
        · rw [hsp, e, List.getLast?_concat] at hx
          injection hx with hx
          subst hx
          simp only at hp hr
          rw [hen k (hne k hp)] at hek
          exact absurd (show (jb js k).r ≤ n by omega) (no k hk hp hek)
        · rw [hsp, e] at hx
          rcases List.mem_append.1 hx with hx | hx
          · exact old x hx k hk hp he hr
          · rw [List.mem_singleton.1 hx] at hp he hr ⊢
            simp only at hp he hr ⊢
            rw [hen k (hne k hp)] at he
            exfalso
            rcases hI.en k hk with h5 | h5
            · exact no k hk hp h5.2 (by omega)
            · omega
      | true =>
        obtain ⟨l, x, e1, e2, e3, e4⟩ := ex0_yes (m := 1) hx
        rw [hsp2] at e4
        have hlast : (tst ts js n).sp.getLast? = some x := by rw [e1]; simp
        have hne : ∀ k, prO ts js k < prO ts js i → k ≠ i := fun k hp e => by rw [e] at hp; omega
        have hft : x.f < x.t := (chn_mem hW.ch x (by rw [e1]; simp)).2.1.2
        have hse : ∀ k, k < js.length → prO ts js k < prO ts js i → kO (tst ts js n).en k = -1 → (jb js k).r < (n : Int) + 1 → ∀ u, (jb js k).r ≤ u → u < (n : Int) + 1 → wthS (jb js i).c (kO (tst ts js n).dn i + 1 - ((n : Int) + 1 - u)) = true := by
          intro k hk hp hek hr u hu1 hu2
          obtain ⟨hru, hwt⟩ := hwait k hk hp hek (by omega)
          by_cases hu : u = n
          · subst hu
            rw [show kO (tst ts js n).dn i + 1 - ((n : Int) + 1 - n) = kO (tst ts js n).dn i by omega]
            exact hwt
          · have := h.se x hlast k hk (by rw [e2]; exact hp) hek (by omega) u hu1 (by omega)
            rw [e2, e3] at this
            rw [show kO (tst ts js n).dn i + 1 - ((n : Int) + 1 - u) = kO (tst ts js n).dn i - ((n : Int) - u) by omega]
            exact this
        refine ⟨fun j hj => ?_, fun y hy k hk hkne => ?_, fun y hy k hk hp hek hr u hu1 hu2 => ?_, fun y hy k hk hp he hr => ?_⟩
        · simp only [runM, Option.some.injEq] at hj
          exact ⟨_, _, by rw [hsp, e4], by rw [← hj]; exact e2, rfl⟩
        · rw [hsp, e4, List.getLast?_concat] at hy
          injection hy with hy
          subst hy
          simp only at hkne ⊢
          rw [hen k (by rw [← e2]; exact hkne)]
          exact h.la x hlast k hk hkne
        · rw [hsp, e4, List.getLast?_concat] at hy
          injection hy with hy
          subst hy
          simp only at hp hr hu2 ⊢
          rw [e2] at hp ⊢
          rw [hen k (hne k hp)] at hek
          rw [hdn]
          exact hse k hk hp hek hr u hu1 hu2
        · rw [hsp, e4] at hy
          rcases List.mem_append.1 hy with hy | hy
          · exact old y (by rw [e1]; simp [hy]) k hk hp he hr
          · rw [List.mem_singleton.1 hy] at hp he hr ⊢
            simp only at hp he hr ⊢
            rw [e2] at hp ⊢
            rw [hen k (hne k hp)] at he
            have hlk := h.la x hlast k hk (by rw [e2]; exact hne k hp)
            have hek : kO (tst ts js n).en k = -1 := by rcases he with he | he <;> omega
            refine ⟨?_, ?_⟩
            · rcases Int.lt_or_le (jb js k).r n with hr2 | hr2
              · exact (h.sp x (by rw [e1]; simp) k hk (by rw [e2]; exact hp) (.inl hek) (by omega)).1
              · omega
            · have hse' := hse k hk hp hek hr
              have := wth_row (q i) (jb js i).c (kO (tst ts js n).dn i + 1 - ((n : Int) + 1 - (jb js k).r)) (kO (tst ts js n).dn i) (hl.pos i) (hq i) (by omega) (fun d hd1 hd2 => by
                have := hse' (d - (kO (tst ts js n).dn i + 1) + ((n : Int) + 1)) (by omega) (by omega)
                rw [show kO (tst ts js n).dn i + 1 - ((n : Int) + 1 - (d - (kO (tst ts js n).dn i + 1) + ((n : Int) + 1))) = d by omega] at this
                exact this)
              omega
end
end Go.Proofs.Ytngmaiiibinkaaa
