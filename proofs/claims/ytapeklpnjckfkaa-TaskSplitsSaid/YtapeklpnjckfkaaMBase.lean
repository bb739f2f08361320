/- Sets as values and as blocks of memory: the words that the walk goes by. -/
import Derived.Test.YtapeklpnjckfkaaRows
import Derived.WalkKit
import Derived.ProofKit
import Derived.Handy
import Derived.Lib.Hide
import Derived.Deep.MidRow
import Derived.Deep.QuietTactic
import Derived.BigQuiet
import Derived.Deep.RegionHeld3
import Derived.Laws.Externs
import Derived.Laws.ShiftsVarLaws
import Derived.Test.YtapeklpnjckfkaaMMath
namespace Go.Proofs.Ytapeklpnjckfkaa
open Go.RowKit
set_option linter.unusedVariables false

/-- The cells of the set of f. -/
def cellsL (f : Nat → Bool) : List Value := (List.range 16).map fun i => .int .u64 (word f i : Int)
theorem cellsL_length (f : Nat → Bool) : (cellsL f).length = 16 := by simp [cellsL]
theorem cellsL_get (f : Nat → Bool) (i : Nat) (h : i < 16) : (cellsL f)[i]? = some (.int .u64 (word f i : Int)) := by
  simp [cellsL, h]
theorem cellsL_one (f : Nat → Bool) : ∀ v ∈ cellsL f, v.oneCell' = true := by
  intro v hv
  simp only [cellsL, List.mem_map] at hv
  obtain ⟨i, _, rfl⟩ := hv
  rfl
theorem cellsL_all (f : Nat → Bool) : (cellsL f).toArray.all (·.oneCell') = true := all_oneCell_toArray (cellsL_one f)
theorem cellsL_none : (cellsL noneF).toArray = #[.int .u64 0, .int .u64 0, .int .u64 0, .int .u64 0, .int .u64 0, .int .u64 0, .int .u64 0, .int .u64 0, .int .u64 0, .int .u64 0, .int .u64 0, .int .u64 0, .int .u64 0, .int .u64 0, .int .u64 0, .int .u64 0] := by
  have h : ∀ i, word noneF i = 0 := fun i => (eq_word (by omega) (by simp [noneF])).symm
  simp [cellsL, h, List.range_succ]
theorem cellsL_ext {f g : Nat → Bool} (h : ∀ i, i < 16 → word f i = word g i) : cellsL f = cellsL g := by
  simp only [cellsL]
  exact List.map_congr_left fun i hi => by rw [h i (by simpa using hi)]
theorem cellsL_set (f g : Nat → Bool) (i : Nat) (v : Nat) (hv : v = word g i) (h : ∀ j, j < 16 → j ≠ i → word f j = word g j) : (cellsL f).set i (.int .u64 v) = cellsL g := by
  apply List.ext_getElem?
  intro j
  by_cases hj : j < 16
  · rw [List.getElem?_set, cellsL_get g j hj, cellsL_get f j hj, cellsL_length]
    by_cases e : i = j
    · subst e; simp [hj, hv]
    · rw [if_neg e, h j hj (fun e' => e e'.symm)]
  · rw [List.getElem?_eq_none (by simp [cellsL_length]; omega), List.getElem?_eq_none (by simp [cellsL_length]; omega)]
theorem info26 (f : Nat → Bool) : (Try.prog.info? 41).map (·.size) = some (cellsL f).length := by rw [cellsL_length]; kernel_rfl
theorem info26' (f : Nat → Bool) : (Try.prog.info? 41).map (·.size) = some (cellsL f).toArray.size := by rw [List.size_toArray]; exact info26 f

/-- The set as a value. -/
abbrev setV (f : Nat → Bool) : Value := .agg (cellsL f).toArray

/-! ### Blocks of memory that hold a set -/
/-- Block b holds the set f, and may be written. -/
structure Box (w : World) (b : Nat) (f : Nat → Bool) : Prop where
  is : w.heap[b]? = some (.cells (cellsL f).toArray 41 (0, 0))

theorem Box.range {w : World} {b : Nat} {f : Nat → Bool} (h : Box w b f) : w.rangeAt b 0 (cellsL f) := fun j v hv => by
  rw [Nat.zero_add, cell_of_row w b j _ _ _ h.is]; simpa using hv
theorem Box.there {w : World} {b : Nat} {f : Nat → Bool} (h : Box w b f) (g : Nat → Bool) : w.there b 0 (cellsL g).toArray.size := fun j hj => by
  rw [Nat.zero_add, cell_of_row w b j _ _ _ h.is, frozen_of_row w b j _ _ h.is]
  simp [cellsL_length] at hj ⊢; omega
theorem Box.cell {w : World} {b : Nat} {f : Nat → Bool} (h : Box w b f) (i : Nat) (hi : i < 16) : w.cell? ⟨b, i, none⟩ = some (.int .u64 (word f i : Int)) := by
  rw [cell_of_row w b i _ _ _ h.is]; simpa using cellsL_get f i hi
theorem Box.frozen {w : World} {b : Nat} {f : Nat → Bool} (h : Box w b f) (i : Nat) : w.frozen? ⟨b, i, none⟩ = false := frozen_of_row w b i _ _ h.is
theorem Box.lt {w : World} {b : Nat} {f : Nat → Bool} (h : Box w b f) : b < w.heap.size := (Array.getElem?_eq_some_iff.1 h.is).1
theorem Box.new (w : World) (f : Nat → Bool) : Box (w.alloc (.cells (cellsL f).toArray 41)) w.heap.size f := ⟨heap_alloc_new w _⟩
theorem Box.below {w w' : World} {b B : Nat} {f : Nat → Bool} (h : Box w b f) (hb : Below B w w') (hB : b < B) : Box w' b f := ⟨(hb.block b hB).trans h.is⟩
theorem Box.alloc {w : World} {b : Nat} {f : Nat → Bool} (h : Box w b f) (o : Obj) : Box (w.alloc o) b f := ⟨(Below.heap_alloc w o b h.lt).trans h.is⟩
theorem Box.drew {w : World} {b : Nat} {f : Nat → Bool} (h : Box w b f) : Box w.drew b f := ⟨h.is⟩
theorem Box.setCell {w : World} {b : Nat} {f : Nat → Bool} (h : Box w b f) (a : Addr) (v : Value) (hb : b ≠ a.block) : Box (w.setCell a v) b f := ⟨(heap_setCell_other w a b v hb).trans h.is⟩
theorem Box.set {w : World} {b : Nat} {f g : Nat → Bool} (h : Box w b f) (i : Nat) (v : Nat) (hv : v = word g i) (hg : ∀ j, j < 16 → j ≠ i → word f j = word g j) : Box (w.setCell ⟨b, i, none⟩ (.int .u64 v)) b g := by
  refine ⟨?_⟩
  rw [heap_setCell_same w b i _ _ _ h.is]
  simp only [List.setIfInBounds_toArray]
  rw [cellsL_set f g i v hv hg]
theorem Box.stored {w : World} {b : Nat} {f : Nat → Bool} (h : Box w b f) (g : Nat → Bool) : w.setCells b 0 (cellsL g) = w.setRow b (cellsL g).toArray := by
  have h1 := run_storeVar_mid (P := Try.prog) w b 0 41 (cellsL g).toArray (h.there g) (info26' g) (cellsL_all g)
  have h2 := run_storeVar_row (P := Try.prog) w b 41 41 (cellsL f).toArray (cellsL g).toArray h.is (info26' g) (by simp [cellsL_length]) (cellsL_all g)
  rw [h1] at h2
  simpa using h2
theorem Box.setCells {w : World} {b : Nat} {f : Nat → Bool} (h : Box w b f) (g : Nat → Bool) : Box (w.setCells b 0 (cellsL g)) b g := by
  rw [h.stored g]; exact ⟨setRow_heap w b _ _ _ _ h.is⟩
theorem Box.setCells_other {w : World} {b b' : Nat} {f f' : Nat → Bool} (h : Box w b f) (h' : Box w b' f') (g : Nat → Bool) (hne : b ≠ b') : Box (w.setCells b' 0 (cellsL g)) b f := by
  rw [h'.stored g]; exact ⟨(setRow_other w b' b _ hne).trans h.is⟩
theorem below_setCells {B : Nat} {a w : World} {b : Nat} {f : Nat → Bool} (hb : Below B a w) (h : Box w b f) (g : Nat → Bool) (hB : B ≤ b) : Below B a (w.setCells b 0 (cellsL g)) := by
  rw [h.stored g]
  exact hb.trans ⟨rfl, rfl, rfl, by simp, fun k hk => setRow_other w b k _ (by omega)⟩
theorem Box.load {w : World} {b : Nat} {f : Nat → Bool} (h : Box w b f) : (loadVar 41 ⟨b, 0, none⟩).run Try.prog w = .ok (setV f) w :=
  run_loadVar_mid w b 0 41 (cellsL f) _ h.range Try.underlying41 rfl (info26 f)
/-- The result of a function that hands a set back out of a block. -/
theorem results_box {fn : Func} {p : Tmp} (h : fn.results = #[.cell p 41]) (tmps : Array Value) (w : World) (b : Nat) (f : Nat → Bool) (hp : tmps.getD p undef = .pointer (some ⟨b, 0, none⟩)) (hb : Box w b f) :
    (results fn tmps).run Try.prog w = .ok (setV f) w :=
  results_cell_row h tmps w b _ _ _ _ hp hb.is Try.underlying41 rfl (info26' f)
theorem drewN_below {B : Nat} {a w : World} (h : Below B a w) (n : Nat) : Below B a (w.drewN n) := h.trans ⟨rfl, rfl, rfl, Nat.le_refl _, fun _ _ => rfl⟩
end Go.Proofs.Ytapeklpnjckfkaa
