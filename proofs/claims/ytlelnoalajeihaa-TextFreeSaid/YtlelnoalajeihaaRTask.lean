/- The document's task: a line's. -/
import Derived.Test.YtlelnoalajeihaaRField
import Derived.Test.YtlelnoalajeihaaTok
import Derived.Test.YtlelnoalajeihaaTasks
namespace Go.Proofs.Ytlelnoalajeihaa
open Go.RowKit
set_option linter.unusedVariables false
set_option linter.unusedSimpArgs false

theorem knot {a : Nat} {c : Int} (h : (a : Int) ≠ c) : ((a : Int) == c) = false ∧ ((a : Int) != c) = true := by simp [h]
/-- What is left from the i-th token on, and the end. -/
def restS (ts : List Tk) (i n : Nat) : List Tk := ts.drop i ++ [endTk n]
theorem restS_lt {ts : List Tk} {i n : Nat} {x : Tk} (h : ts[i]? = some x) : restS ts i n = x :: restS ts (i + 1) n := by
  obtain ⟨hi, e⟩ := List.getElem?_eq_some_iff.1 h
  rw [restS, restS, List.drop_eq_getElem_cons hi, e]; rfl
theorem restS_end {ts : List Tk} {i n : Nat} (h : ts.length ≤ i) : restS ts i n = [endTk n] := by rw [restS, List.drop_eq_nil_of_le h]; rfl
/-- The token at which a reader stands, or the end. -/
def hd (ts : List Tk) (i n : Nat) : Tk := match ts[i]? with | some x => x | none => endTk n
def tlS (ts : List Tk) (i n : Nat) : List Tk := match ts[i]? with | some _ => restS ts (i + 1) n | none => []
theorem restS_hd (ts : List Tk) (i n : Nat) : restS ts i n = hd ts i n :: tlS ts i n := by
  rw [hd, tlS]
  cases h : ts[i]? with
  | some x => exact restS_lt h
  | none => exact restS_end (List.getElem?_eq_none_iff.1 h)
theorem kAt_hd {ts : List Tk} {i n : Nat} : (∃ x, ts[i]? = some x ∧ hd ts i n = x ∧ kAt ts i = x.k ∧ tAt ts i = x.t) ∨ (ts.length ≤ i ∧ hd ts i n = endTk n ∧ kAt ts i = 0 ∧ tAt ts i = []) := by
  cases h : ts[i]? with
  | some x => exact .inl ⟨x, rfl, by rw [hd, h], by rw [kAt, h], by rw [tAt, h]⟩
  | none => exact .inr ⟨List.getElem?_eq_none_iff.1 h, by rw [hd, h], by rw [kAt, h], by rw [tAt, h]⟩
/-- The kinds 1 to 3 are told alike of both. -/
theorem kAt_is {ts : List Tk} {i n c : Nat} (hc : 1 ≤ c ∧ c ≤ 3) : kAt ts i = c ↔ (hd ts i n).k = c := by
  rcases kAt_hd (ts := ts) (i := i) (n := n) with ⟨x, _, h2, h3, _⟩ | ⟨_, h2, h3, _⟩
  · rw [h2, h3]
  · rw [h2, h3]; simp [endTk]; omega
theorem kAt_lt {ts : List Tk} {i : Nat} (h : kAt ts i ≠ 0) : i < ts.length := by
  rcases kAt_hd (ts := ts) (i := i) (n := 0) with ⟨x, h1, _⟩ | ⟨_, _, h3, _⟩
  · exact (List.getElem?_eq_some_iff.1 h1).1
  · exact absurd h3 h
theorem tAt_hd {ts : List Tk} {i n : Nat} : tAt ts i = (hd ts i n).t := by
  rcases kAt_hd (ts := ts) (i := i) (n := n) with ⟨x, _, h2, _, h4⟩ | ⟨_, h2, _, h4⟩
  · rw [h2, h4]
  · rw [h2, h4]; rfl
/-- The end of a line, or of all. -/
theorem kAt_four {ts : List Tk} {i n : Nat} (hk : ∀ x ∈ ts, x.k ≠ 0) : (kAt ts i = 0 ∨ kAt ts i = 4) ↔ (hd ts i n).k = 4 := by
  rcases kAt_hd (ts := ts) (i := i) (n := n) with ⟨x, h1, h2, h3, _⟩ | ⟨_, h2, h3, _⟩
  · have := hk x (List.mem_of_getElem? h1)
    rw [h2, h3]; omega
  · rw [h2, h3]; simp [endTk]
theorem tlS_lt {ts : List Tk} {i n : Nat} (h : i < ts.length) : tlS ts i n = restS ts (i + 1) n := by
  rw [tlS, List.getElem?_eq_getElem h]

/-! ### The arrays -/
def thereL (F : Fl) : List Value := [.bool (F 0).isSome, .bool (F 1).isSome, .bool (F 2).isSome, .bool (F 3).isSome, .bool (F 4).isSome, .bool (F 5).isSome]
def numL (F : Fl) : List Value := [.int .i64 (fv F 0), .int .i64 (fv F 1), .int .i64 (fv F 2), .int .i64 (fv F 3), .int .i64 (fv F 4), .int .i64 (fv F 5)]
structure LB (w : World) (b5 b6 : Nat) (F : Fl) : Prop where
  th : w.heap[b5]? = some (.cells (thereL F).toArray 92 (0, 0))
  nu : w.heap[b6]? = some (.cells (numL F).toArray 93 (0, 0))
theorem LB.tc {w : World} {b5 b6 : Nat} {F : Fl} (h : LB w b5 b6 F) {k : Nat} (hk : k < 6) : w.cell? ⟨b5, k, none⟩ = some (.bool (F k).isSome) := by
  rw [cell_of_row w b5 k _ _ _ h.th]
  rcases (by omega : k = 0 ∨ k = 1 ∨ k = 2 ∨ k = 3 ∨ k = 4 ∨ k = 5) with rfl | rfl | rfl | rfl | rfl | rfl <;> rfl
theorem LB.nc {w : World} {b5 b6 : Nat} {F : Fl} (h : LB w b5 b6 F) {k : Nat} (hk : k < 6) : w.cell? ⟨b6, k, none⟩ = some (.int .i64 (fv F k)) := by
  rw [cell_of_row w b6 k _ _ _ h.nu]
  rcases (by omega : k = 0 ∨ k = 1 ∨ k = 2 ∨ k = 3 ∨ k = 4 ∨ k = 5) with rfl | rfl | rfl | rfl | rfl | rfl <;> rfl
theorem LB.tf {w : World} {b5 b6 : Nat} {F : Fl} (h : LB w b5 b6 F) (i : Nat) : w.frozen? ⟨b5, i, none⟩ = false := frozen_of_row w b5 i _ _ h.th
theorem LB.nf {w : World} {b5 b6 : Nat} {F : Fl} (h : LB w b5 b6 F) (i : Nat) : w.frozen? ⟨b6, i, none⟩ = false := frozen_of_row w b6 i _ _ h.nu
theorem LB.kept {X : List Nat} {w w' : World} {b5 b6 : Nat} {F : Fl} (h : LB w b5 b6 F) (hk : Kept X w w') (h1 : b5 ∉ X) (h2 : b6 ∉ X) : LB w' b5 b6 F :=
  ⟨(hk.block b5 (Array.getElem?_eq_some_iff.1 h.th).1 h1).trans h.th, (hk.block b6 (Array.getElem?_eq_some_iff.1 h.nu).1 h2).trans h.nu⟩
theorem LB.later {w w' : World} {b5 b6 : Nat} {F : Fl} (h : LB w b5 b6 F) (hb : Below w.heap.size w w') : LB w' b5 b6 F := h.kept (Kept.of [] hb) (by simp) (by simp)
theorem there_set (F : Fl) {k : Nat} (hk : k < 6) (n : Nat) : (thereL F).toArray.setIfInBounds k (.bool true) = (thereL (fset F k n)).toArray := by
  rcases (by omega : k = 0 ∨ k = 1 ∨ k = 2 ∨ k = 3 ∨ k = 4 ∨ k = 5) with rfl | rfl | rfl | rfl | rfl | rfl <;> simp [thereL, fset]
theorem num_set (F : Fl) {k : Nat} (hk : k < 6) (n : Nat) : (numL F).toArray.setIfInBounds k (.int .i64 (n : Int)) = (numL (fset F k n)).toArray := by
  rcases (by omega : k = 0 ∨ k = 1 ∨ k = 2 ∨ k = 3 ∨ k = 4 ∨ k = 5) with rfl | rfl | rfl | rfl | rfl | rfl <;> simp [numL, fset, fv]

/-! ### A line's fields, by places -/
theorem S_not {ts : List Tk} {j n : Nat} {F : Fl} (h4 : (hd ts j n).k ≠ 4) (hf : fieldIx (tAt ts j) = none) : fieldsS (restS ts j n) F = (false, F, restS ts j n) := by
  rw [restS_hd]; exact fieldsS_not h4 (by rw [← tAt_hd]; exact hf)
theorem S_twice {ts : List Tk} {j n k : Nat} {F : Fl} (h4 : (hd ts j n).k ≠ 4) (hf : fieldIx (tAt ts j) = some k) (hk : (F k).isSome = true) : fieldsS (restS ts j n) F = (false, F, restS ts j n) := by
  rw [restS_hd]; exact fieldsS_twice h4 (by rw [← tAt_hd]; exact hf) hk
theorem S_early {ts : List Tk} {j n : Nat} {F : Fl} (h4 : (hd ts j n).k = 4) (hf : full F = false) : fieldsS (restS ts j n) F = (false, F, restS ts j n) := by
  rw [restS_hd]; exact fieldsS_early h4 hf
theorem S_end {ts : List Tk} {j n : Nat} {F : Fl} (h4 : (hd ts j n).k = 4) (hf : full F = true) : fieldsS (restS ts j n) F = (true, F, tlS ts j n) := by
  rw [restS_hd]; exact fieldsS_end h4 hf
theorem S_line {ts : List Tk} {j n : Nat} (h4 : (hd ts j n).k = 4) : tasksS (tlS ts j n) = tasksS (restS ts j n) := by
  rw [restS_hd]; exact (tasksS_line h4).symm
theorem S_eq {ts : List Tk} {j n k : Nat} {F : Fl} (hj : j < ts.length) (h4 : (hd ts j n).k ≠ 4) (hf : fieldIx (tAt ts j) = some k) (hk : (F k).isSome = false) (hy : (hd ts (j + 1) n).k ≠ 3) : fieldsS (restS ts j n) F = (false, F, restS ts (j + 1) n) := by
  rw [restS_hd ts j, tlS_lt hj, restS_hd ts (j + 1)]; exact fieldsS_eq h4 (by rw [← tAt_hd]; exact hf) hk hy
theorem S_num {ts : List Tk} {j n k : Nat} {F : Fl} (hj : j + 1 < ts.length) (h4 : (hd ts j n).k ≠ 4) (hf : fieldIx (tAt ts j) = some k) (hk : (F k).isSome = false) (hy : (hd ts (j + 1) n).k = 3) (hz : (hd ts (j + 1 + 1) n).k ≠ 2) :
    fieldsS (restS ts j n) F = (false, F, restS ts (j + 1 + 1) n) := by
  rw [restS_hd ts j, tlS_lt (by omega), restS_hd ts (j + 1), tlS_lt hj, restS_hd ts (j + 1 + 1)]; exact fieldsS_num h4 (by rw [← tAt_hd]; exact hf) hk hy hz
theorem S_go {ts : List Tk} {j n k : Nat} {F : Fl} (hj : j + 1 + 1 < ts.length) (h4 : (hd ts j n).k ≠ 4) (hf : fieldIx (tAt ts j) = some k) (hk : (F k).isSome = false) (hy : (hd ts (j + 1) n).k = 3) (hz : (hd ts (j + 1 + 1) n).k = 2) :
    fieldsS (restS ts j n) F = fieldsS (restS ts (j + 1 + 1 + 1) n) (fset F k (hd ts (j + 1 + 1) n).n) := by
  rw [restS_hd ts j, tlS_lt (by omega), restS_hd ts (j + 1), tlS_lt (by omega), restS_hd ts (j + 1 + 1), tlS_lt hj]; exact fieldsS_go h4 (by rw [← tAt_hd]; exact hf) hk hy hz
theorem T_bad {ts : List Tk} {i n : Nat} {F : Fl} {l : List Tk} (hi : i + 1 < ts.length) (h4 : (hd ts i n).k ≠ 4) (ht : (hd ts i n).t = taskW) (hy : (hd ts (i + 1) n).k = 1) (he : fieldsS (restS ts (i + 2) n) fnone = (false, F, l)) : tasksS (restS ts i n) = ([], l) := by
  rw [restS_hd ts i, tlS_lt (by omega), restS_hd ts (i + 1), tlS_lt hi]; exact tasksS_bad h4 ht hy he
theorem T_ok {ts : List Tk} {i n : Nat} {F : Fl} {l : List Tk} (hi : i + 1 < ts.length) (h4 : (hd ts i n).k ≠ 4) (ht : (hd ts i n).t = taskW) (hy : (hd ts (i + 1) n).k = 1) (he : fieldsS (restS ts (i + 2) n) fnone = (true, F, l)) :
    tasksS (restS ts i n) = (taskOf (tAt ts (i + 1)) F :: (tasksS l).1, (tasksS l).2) := by
  rw [restS_hd ts i, tlS_lt (by omega), restS_hd ts (i + 1), tlS_lt hi, tAt_hd (n := n)]; exact tasksS_ok h4 ht hy he
end Go.Proofs.Ytlelnoalajeihaa
