/- ScriptShifts: what is later, plainly. -/
import Derived.Test.YthfiodjhjhpiaaaJEnc
namespace Go.Proofs.Ythfiodjhjhpiaaa
open Go.RowKit
set_option linter.unusedVariables false
set_option linter.unusedSimpArgs false

def shT (b T : Int) (j : Fv) : Fv := if j.t = T then { j with a := j.a + b, r := j.r + b } else j
theorem shT_t (b T : Int) (j : Fv) : (shT b T j).t = j.t := by unfold shT; split <;> rfl
theorem lastT_sh (b T : Int) (js : List Fv) (p : Int) : lastT (js.map (shT b T)) p = (lastT js p).map (shT b T) := by
  unfold lastT
  rw [← List.map_reverse, List.find?_map]
  congr 1
  apply congrArg (fun q => List.find? q js.reverse)
  funext j
  simp [shT_t]
theorem soonI_sh (ts : List Ts) (b T : Int) (js : List Fv) (p : Int) (h : lastT js T ≠ none) : soonI ts (js.map (shT b T)) p = soonI ts js p + if p = T then b else 0 := by
  unfold soonI
  rw [lastT_sh]
  cases hl : lastT js p with
  | none =>
    have : p ≠ T := by rintro rfl; exact h hl
    simp [this]
  | some j =>
    have ht := (lastT_mem hl).2
    simp only [Option.map_some, shT, ht]
    split
    · simp only; omega
    · simp
theorem decJ_sh (ts : List Ts) (b T : Int) (js : List Fv) (r : Fv) (h : lastT js T ≠ none) : decJ ts (js.map (shT b T)) r = shT b T (decJ ts js r) := by
  by_cases ht : r.t % (ts.length : Int) = T
  · have e : (decJ ts js r).t = T := ht
    rw [shT, if_pos e]
    simp only [decJ, soonI_sh ts b T js _ h, if_pos ht]
    congr 1 <;> omega
  · have e : ¬ (decJ ts js r).t = T := ht
    rw [shT, if_neg e]
    simp only [decJ, soonI_sh ts b T js _ h, if_neg ht, Int.add_zero]
theorem decF_sh (ts : List Ts) (b T : Int) : ∀ (rs js : List Fv), lastT js T ≠ none → decF ts (js.map (shT b T)) rs = (decF ts js rs).map (shT b T)
  | [], js, _ => rfl
  | r :: rs, js, h => by
    rw [decF, decF, decJ_sh ts b T js r h, ← decF_sh ts b T rs]
    · simp
    · rw [lastT_snoc]; split
      · simp
      · exact h
def bump (n b T : Int) : List Fv → List Fv
  | [] => []
  | r :: rs => if r.t % n = T then { r with a := r.a + b } :: rs else r :: bump n b T rs
theorem bump_len (n b T : Int) : ∀ rs : List Fv, (bump n b T rs).length = rs.length
  | [] => rfl
  | r :: rs => by
    rw [bump]
    split
    · rfl
    · rw [List.length_cons, bump_len n b T rs, List.length_cons]
theorem bump_none (n b T : Int) : ∀ rs : List Fv, (∀ (i : Nat) (y : Fv), rs[i]? = some y → y.t % n ≠ T) → bump n b T rs = rs
  | [], _ => rfl
  | r :: rs, h => by
    rw [bump, if_neg (h 0 r rfl), bump_none n b T rs (fun i y hy => h (i + 1) y (by simpa using hy))]
theorem bump_at (n b T : Int) : ∀ (rs : List Fv) (k : Nat) (x : Fv), rs[k]? = some x → x.t % n = T → (∀ (i : Nat) (y : Fv), i < k → rs[i]? = some y → y.t % n ≠ T) → bump n b T rs = rs.set k { x with a := x.a + b }
  | [], k, x, hx, _, _ => by simp at hx
  | r :: rs, 0, x, hx, ht, _ => by
    obtain rfl : r = x := by simpa using hx
    rw [bump, if_pos ht, List.set_cons_zero]
  | r :: rs, k + 1, x, hx, ht, h => by
    rw [bump, if_neg (h 0 r (by omega) rfl), List.set_cons_succ, bump_at n b T rs k x (by simpa using hx) ht (fun i y hi hy => h (i + 1) y (by omega) (by simpa using hy))]
theorem map_sh_none (b T : Int) : ∀ js : List Fv, (∀ j ∈ js, j.t ≠ T) → js.map (shT b T) = js
  | [], _ => rfl
  | j :: js, h => by
    rw [List.map_cons, map_sh_none b T js (fun y hy => h y (by simp [hy])), shT, if_neg (h j (by simp))]
theorem decF_bump (ts : List Ts) (b T : Int) (hb : 0 ≤ b ∧ b ≤ 1000) : ∀ (rs js : List Fv), (∀ r ∈ rs, 0 ≤ r.a ∧ r.a < 12) → (∀ j ∈ js, j.t ≠ T) → decF ts js (bump (ts.length : Int) b T rs) = (decF ts js rs).map (shT b T)
  | [], js, _, hj => by rw [bump, decF, map_sh_none b T js hj]
  | r :: rs, js, hr, hj => by
    rw [bump]
    have hra := hr r (by simp)
    split
    · rename_i ht
      have e : decJ ts js { r with a := r.a + b } = shT b T (decJ ts js r) := by
        have e1 : (r.a + b) % 1048576 = r.a + b := Int.emod_eq_of_lt (by omega) (by omega)
        have e2 : r.a % 1048576 = r.a := Int.emod_eq_of_lt (by omega) (by omega)
        have e0 : (decJ ts js r).t = T := ht
        rw [shT, if_pos e0]
        simp only [decJ, e1, e2]
        congr 1 <;> omega
      rw [decF, decF, e]
      have e3 : js ++ [shT b T (decJ ts js r)] = (js ++ [decJ ts js r]).map (shT b T) := by rw [List.map_append, map_sh_none b T js hj]; rfl
      rw [e3, decF_sh ts b T rs _ (by rw [lastT_snoc, if_pos (show (decJ ts js r).t = T from ht)]; simp)]
    · rename_i ht
      rw [decF, decF, decF_bump ts b T hb rs _ (fun y hy => hr y (by simp [hy])) (fun j hj' => by
        rcases List.mem_append.1 hj' with hj' | hj'
        · exact hj j hj'
        · obtain rfl := List.mem_singleton.1 hj'
          exact ht)]
/-- The first of them turned. -/
def upto {α : Type} (f : α → α) (k : Nat) (l : List α) : List α := l.mapIdx fun i x => if i < k then f x else x
theorem upto_zero {α : Type} (f : α → α) (l : List α) : upto f 0 l = l := by
  apply List.ext_getElem?
  intro i
  rw [upto, List.getElem?_mapIdx]
  cases l[i]? <;> simp
theorem upto_all {α : Type} (f : α → α) (l : List α) : upto f l.length l = l.map f := by
  apply List.ext_getElem?
  intro i
  rw [upto, List.getElem?_mapIdx, List.getElem?_map]
  by_cases h : i < l.length
  · simp [h]
  · rw [List.getElem?_eq_none (by omega)]; rfl
theorem upto_succ {α : Type} (f : α → α) (k : Nat) (l : List α) {x : α} (hx : l[k]? = some x) : (upto f k l).set k (f x) = upto f (k + 1) l := by
  apply List.ext_getElem?
  intro i
  have hk := (List.getElem?_eq_some_iff.1 hx).1
  by_cases h : k = i
  · subst h
    rw [List.getElem?_set_self (by rw [upto, List.length_mapIdx]; exact hk), upto, List.getElem?_mapIdx, hx]
    simp
  · rw [List.getElem?_set_ne h, upto, upto, List.getElem?_mapIdx, List.getElem?_mapIdx]
    have : i < k ↔ i < k + 1 := by omega
    simp only [this]
theorem upto_same {α : Type} (f : α → α) (k : Nat) (l : List α) {x : α} (hx : l[k]? = some x) (hf : f x = x) : upto f k l = upto f (k + 1) l := by
  rw [← upto_succ f k l hx, hf]
  apply List.ext_getElem?
  intro i
  have hk := (List.getElem?_eq_some_iff.1 hx).1
  by_cases h : k = i
  · subst h
    rw [List.getElem?_set_self (by rw [upto, List.length_mapIdx]; exact hk), upto, List.getElem?_mapIdx, hx]
    simp
  · rw [List.getElem?_set_ne h]
theorem upto_get {α : Type} (f : α → α) (k : Nat) (l : List α) {x : α} (hx : l[k]? = some x) : (upto f k l)[k]? = some x := by
  rw [upto, List.getElem?_mapIdx, hx]; simp
theorem upto_len {α : Type} (f : α → α) (k : Nat) (l : List α) : (upto f k l).length = l.length := by rw [upto, List.length_mapIdx]
end Go.Proofs.Ythfiodjhjhpiaaa
