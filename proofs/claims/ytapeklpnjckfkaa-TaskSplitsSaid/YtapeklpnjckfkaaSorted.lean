/- What an insertion sort of places by urgency makes: the order. -/
import Derived.Test.YtapeklpnjckfkaaRow
import Derived.Sort.LotA
import Derived.Sort.WalkA
import Derived.Shelf.SlSortCmp.Insertion
namespace Go.Proofs.Ytapeklpnjckfkaa
open Go.RowKit Go.Sort
set_option linter.unusedVariables false
set_option linter.unusedSimpArgs false

section
variable {m : Nat} (key : Fin (m + 1) → Int)
def lt1 (x y : Fin (m + 1)) : Bool := decide (key x < key y)
def lt2 (x y : Fin (m + 1)) : Bool := decide (key x < key y ∨ (key x = key y ∧ x.val < y.val))
theorem lt2_swo : SWO (lt2 key) where
  irrefl x := by simp [lt2]
  trans x y z h1 h2 := by simp only [lt2, decide_eq_true_eq] at *; omega
  ntrans x y z h1 h2 := by simp only [lt2, decide_eq_false_iff_not] at *; omega
theorem inner_eq : ∀ (j : Nat) (d : Array (Fin (m + 1))), j < d.size → (∀ k, k < j → d[k]!.val < d[j]!.val) → insInner (lt1 key) 0 j d = insInner (lt2 key) 0 j d
  | 0, d, _, _ => by rw [insInner, insInner]
  | j + 1, d, hj, h => by
    rw [insInner, insInner]
    have hv := h j (by omega)
    have e : lt1 key d[j + 1]! d[j]! = lt2 key d[j + 1]! d[j]! := by
      rw [lt1, lt2, decide_eq_decide]
      omega
    rw [e]
    split
    · refine inner_eq j (swp d (j + 1) j) (by rw [swp_size]; omega) fun k hk => ?_
      rw [swp_get d hj (by omega), swp_get d hj (by omega), if_neg (by omega), if_neg (by omega), if_pos rfl]
      exact h k (by omega)
    · rfl
theorem inner_keep (lt : Fin (m + 1) → Fin (m + 1) → Bool) : ∀ (j : Nat) (d : Array (Fin (m + 1))) (i : Nat), j ≤ i → i < d.size →
    (insInner lt 0 j d).size = d.size ∧ (∀ k, i < k → (insInner lt 0 j d)[k]! = d[k]!) ∧ (∀ B : Nat, (∀ k, k ≤ i → d[k]!.val < B) → ∀ k, k ≤ i → (insInner lt 0 j d)[k]!.val < B)
  | 0, d, i, _, _ => by rw [insInner]; exact ⟨rfl, fun _ _ => rfl, fun _ h => h⟩
  | j + 1, d, i, hj, hi => by
    rw [insInner]
    split
    · obtain ⟨h1, h2, h3⟩ := inner_keep lt j (swp d (j + 1) j) i (by omega) (by rw [swp_size]; exact hi)
      refine ⟨by rw [h1, swp_size], fun k hk => ?_, fun B hB k hk => h3 B (fun q hq => ?_) k hk⟩
      · rw [h2 k hk, swp_get d (by omega) (by omega), if_neg (by omega), if_neg (by omega)]
      · rw [swp_get d (by omega) (by omega)]
        split
        · exact hB _ hj
        · split
          · exact hB _ (by omega)
          · exact hB q hq
    · exact ⟨rfl, fun _ _ => rfl, fun _ h => h⟩
theorem outer_eq (b : Nat) : ∀ (n i : Nat) (d : Array (Fin (m + 1))), b - i = n → b ≤ d.size → (∀ k, k < i → d[k]!.val < i) → (∀ k, i ≤ k → k < b → d[k]!.val = k) → insOuter (lt1 key) 0 b i d = insOuter (lt2 key) 0 b i d
  | 0, i, d, hn, _, _, _ => by rw [insOuter_stop (lt1 key) 0 b i d (by omega), insOuter_stop (lt2 key) 0 b i d (by omega)]
  | n + 1, i, d, hn, hb, h1, h2 => by
    rw [insOuter_go (lt1 key) 0 b i d (by omega), insOuter_go (lt2 key) 0 b i d (by omega)]
    rw [inner_eq key i d (by omega) (fun k hk => by rw [h2 i (Nat.le_refl _) (by omega)]; exact h1 k hk)]
    obtain ⟨k1, k2, k3⟩ := inner_keep (lt2 key) i d i (Nat.le_refl _) (by omega)
    refine outer_eq b n (i + 1) _ (by omega) (by omega) (fun k hk => ?_) (fun k hk hk2 => ?_)
    · refine k3 (i + 1) (fun q hq => ?_) k (by omega)
      by_cases e : q = i
      · subst e; rw [h2 q (Nat.le_refl _) (by omega)]; omega
      · have := h1 q (by omega); omega
    · rw [k2 k (by omega)]; exact h2 k (by omega) hk2

def ids (m : Nat) : Array (Fin (m + 1)) := Array.ofFn id
theorem ids_size (m : Nat) : (ids m).size = m + 1 := by simp [ids]
theorem ids_get {m k : Nat} (h : k < m + 1) : (ids m)[k]!.val = k := by
  rw [getElem!_pos (ids m) k (by rw [ids_size]; exact h)]
  simp [ids]
/-- The order as the sort makes it. -/
def ordF : Array (Fin (m + 1)) := insertionSort (lt1 key) (ids m) 0 (m + 1)
theorem ordF_spec : PermIn 0 (m + 1) (ids m) (ordF key) ∧ SortedIn (lt2 key) 0 (m + 1) (ordF key) := by
  have e : ordF key = insertionSort (lt2 key) (ids m) 0 (m + 1) := outer_eq key (m + 1) _ _ _ rfl (by rw [ids_size]; omega) (fun k hk => by rw [ids_get (by omega)]; omega) (fun k hk hk2 => ids_get hk2)
  rw [e]
  exact insertionSort_holds (lt2_swo key) _ _ _ (by omega) (by rw [ids_size]; omega)
theorem ordF_size : (ordF key).size = m + 1 := by rw [(ordF_spec key).1.1, ids_size]
theorem ids_toList (m : Nat) : (ids m).toList.map Fin.val = List.range (m + 1) := by
  apply List.ext_getElem
  · simp [ids]
  · intro i h1 h2
    have hi : i < (ids m).size := by rw [ids_size]; simpa using h2
    have := ids_get (m := m) (k := i) (by simpa using h2)
    rw [getElem!_pos (ids m) i hi] at this
    rw [List.getElem_map, List.getElem_range]
    exact this
end

/-! ### As a list of places -/
def pOf (l : List Ts) (i : Nat) : Int := (l[i]?.map (·.p)).getD 0
/-- Place a stands ahead of place b. -/
def Ahead (l : List Ts) (a b : Nat) : Prop := pOf l a < pOf l b ∨ (pOf l a = pOf l b ∧ a < b)
structure IsOrd (l : List Ts) (o : List Nat) : Prop where
  perm : o.Perm (List.range l.length)
  srt : ∀ (j k a b : Nat), j < k → o[j]? = some a → o[k]? = some b → Ahead l a b
theorem IsOrd.len {l : List Ts} {o : List Nat} (h : IsOrd l o) : o.length = l.length := by rw [h.perm.length_eq, List.length_range]
theorem IsOrd.lt {l : List Ts} {o : List Nat} (h : IsOrd l o) {k i : Nat} (hk : o[k]? = some i) : i < l.length := by
  have := h.perm.mem_iff.1 (List.mem_of_getElem? hk)
  simpa using this
theorem IsOrd.nodup {l : List Ts} {o : List Nat} (h : IsOrd l o) : o.Nodup := h.perm.nodup_iff.2 List.nodup_range

theorem ordF_isOrd {l : List Ts} {m : Nat} (hl : l.length = m + 1) : IsOrd l ((ordF (m := m) fun x => pOf l x.val).toList.map Fin.val) := by
  obtain ⟨h1, h2⟩ := ordF_spec (m := m) fun x => pOf l x.val
  have hs := ordF_size (m := m) fun x => pOf l x.val
  have hp : ((ordF (m := m) fun x => pOf l x.val).toList.map Fin.val).Perm (List.range l.length) := by
    have := h1.2.2
    have e1 : ((ordF (m := m) fun x => pOf l x.val).extract 0 (m + 1)) = ordF (m := m) fun x => pOf l x.val := Array.extract_eq_self_of_le (by omega)
    have e2 : (ids m).extract 0 (m + 1) = ids m := Array.extract_eq_self_of_le (by rw [ids_size]; omega)
    rw [e1, e2] at this
    have h3 := this.map Fin.val
    rw [ids_toList] at h3
    rw [hl]
    exact h3
  refine ⟨hp, fun j k a b hjk ha hb => ?_⟩
  have hk : k < m + 1 := by
    have := (List.getElem?_eq_some_iff.1 hb).1
    rw [List.length_map, Array.length_toList, hs] at this
    exact this
  have g : ∀ q c, q < m + 1 → ((ordF (m := m) fun x => pOf l x.val).toList.map Fin.val)[q]? = some c → (ordF (m := m) fun x => pOf l x.val)[q]!.val = c := by
    intro q c hq hc
    rw [getElem!_pos _ q (by rw [hs]; exact hq)]
    rw [List.getElem?_map, Array.getElem?_toList, Array.getElem?_eq_getElem (by rw [hs]; exact hq)] at hc
    simpa using hc
  have ea := g j a (by omega) ha
  have eb := g k b hk hb
  have hn := h2 j k (Nat.zero_le _) hjk hk
  have hne : a ≠ b := by
    intro e
    have hnd : ((ordF (m := m) fun x => pOf l x.val).toList.map Fin.val).Nodup := hp.nodup_iff.2 List.nodup_range
    subst e
    have hj' := (List.getElem?_eq_some_iff.1 ha)
    have hk' := (List.getElem?_eq_some_iff.1 hb)
    exact List.pairwise_iff_getElem.1 hnd j k hj'.1 hk'.1 hjk (by rw [hj'.2, hk'.2])
  simp only [lt2, decide_eq_false_iff_not, ea, eb] at hn
  unfold Ahead
  omega
end Go.Proofs.Ytapeklpnjckfkaa
