/- Texts about the program, one after the other: Srt, Ord, HAI, HBI, HCI. -/
import Derived.WalkKit
import Derived.ProofKit
import Derived.Handy
import Derived.Lib.Hide
import Derived.Deep.MidRow
import Derived.Deep.QuietTactic
import Derived.BigQuiet
import Derived.Deep.RegionHeld3
import Derived.Laws.Externs
import Derived.RangeFuncBox
import Derived.Deep.CutBlock
import Derived.Deep.LoopGhost
import Derived.WalkMore
import Derived.Below
import Derived.LaidMore
import Derived.Laws.AppendOwn
import Derived.Laws.CopyOwn
import Derived.IntWalk
import Derived.OwnWalk
import Derived.Deep.RegionLaw
import Derived.BigRegion
import Derived.Deep.DrawnRows
import Derived.Deep.Quiet
import Derived.Deep.RegionHeldLaw
import Derived.LoopIn
import Derived.LoopNIn
import Derived.TacticsInMore
import Derived.OwnWalkIn
import Derived.RangeFuncNested
import Derived.RangeFuncBound
import Derived.RangeFuncCalls
import Derived.RangeFuncLeaves
import Derived.RangeFuncWrites
import Derived.Shelf.Abstract
import Derived.StillTailTactics
import Derived.Lib.SliceRun
import Derived.Deep.AppendSrc
import Derived.Deep.Upon
import Derived.Deep.DeepAppendWide
import Derived.OrdersIn
import Derived.Sort.LoopGhostIn
import Derived.Laws.OwnMore
import Derived.Shelf.SlGeneric
import Derived.Shelf.SlSortCmp.Whole1
import Derived.Ground.SlsfProg
import Derived.Ground.SlgnProg
import Derived.Laws.BytesString
import Derived.RangeFuncRecord
import Derived.MapKept
import Derived.Shelf.Small.Bits
import Derived.Shelf.Small.Strs
import Derived.Shelf.Small.Wraps
import Derived.Shelf.Strconv.Itoa0
import Derived.Shelf.LaysM
import Derived.Shelf.Strconv.Clone
import Derived.Shelf.Strings.Search1
import Derived.Shelf.Bits.Mul64
import Derived.Ground.Names2Prog
import Derived.Shelf.Slices.SearchI
import Derived.ChangeOld
import Derived.OpenShut
import Derived.Maps.AppendAt
import Derived.Test.YthfkbbiaemmndaaGreatDoorRows
import Derived.Test.YthfkbbiaemmndaaGreatDoorProg
import Derived.Laws.MakeOwn
import Derived.Shelf.SlSortCmp.NoneTotal
import Derived.Test.YthfkbbiaemmndaaGreatDoorG3
import Derived.Test.YthfkbbiaemmndaaGreatDoorG4
import Derived.Test.YthfkbbiaemmndaaGreatDoorG6
import Derived.Test.YthfkbbiaemmndaaGreatDoorG8
import Derived.Test.YthfkbbiaemmndaaGreatDoorG15
set_option linter.unusedVariables false
set_option linter.unusedSimpArgs false
set_option maxRecDepth 100000
set_option maxHeartbeats 16000000
namespace Go.Proofs.YthfkbbiaemmndaaGreatDoor
section
open Go.RowKit Go.Shelf Go.Lib Go.Sort
attribute [local go_sem ↓] Go.wp_at_zero Go.wp_at_succ
theorem cmp64_any (x y : Int) (w : World) : Calls Tryz.prog 124 #[.int .i64 x, .int .i64 y] w fun e w' => e = .returned (.int .i64 (Lib.compareInt x y)) ∧ w' = w := by
 unfold Lib.compareInt
 by_cases h1 : x < y
 ·have t1 : decide (x < y) = true := decide_eq_true h1
  rw [if_pos h1]
  clear h1
  go_enter Tryz.func124, Tryz.ntmps124
  go_wp2
  go_ret
  exact ⟨rfl, rfl⟩
 ·have t1 : decide (x < y) = false := decide_eq_false h1
  rw [if_neg h1]
  by_cases h2 : x > y
  ·have t2 : decide (x > y) = true := decide_eq_true h2
   have t3 : decide (y < x) = true := decide_eq_true h2
   rw [if_pos h2]
   clear h1 h2
   go_enter Tryz.func124, Tryz.ntmps124
   go_wp2
   go_ret
   exact ⟨rfl, rfl⟩
  ·have t2 : decide (x > y) = false := decide_eq_false h2
   have t3 : decide (y < x) = false := decide_eq_false h2
   rw [if_neg h2]
   clear h1 h2
   go_enter Tryz.func124, Tryz.ntmps124
   go_wp2
   go_ret
   exact ⟨rfl, rfl⟩
theorem cmpI_any (x y : Int) (w : World) : Calls Tryz.prog 125 #[.int .i64 x, .int .i64 y] w fun e w' => e = .returned (.int .i64 (Lib.compareInt x y)) ∧ w' = w := by
 unfold Lib.compareInt
 by_cases h1 : x < y
 ·have t1 : decide (x < y) = true := decide_eq_true h1
  rw [if_pos h1]
  clear h1
  go_enter Tryz.func125, Tryz.ntmps125
  go_wp2
  go_ret
  exact ⟨rfl, rfl⟩
 ·have t1 : decide (x < y) = false := decide_eq_false h1
  rw [if_neg h1]
  by_cases h2 : x > y
  ·have t2 : decide (x > y) = true := decide_eq_true h2
   have t3 : decide (y < x) = true := decide_eq_true h2
   rw [if_pos h2]
   clear h1 h2
   go_enter Tryz.func125, Tryz.ntmps125
   go_wp2
   go_ret
   exact ⟨rfl, rfl⟩
  ·have t2 : decide (x > y) = false := decide_eq_false h2
   have t3 : decide (y < x) = false := decide_eq_false h2
   rw [if_neg h2]
   clear h1 h2
   go_enter Tryz.func125, Tryz.ntmps125
   go_wp2
   go_ret
   exact ⟨rfl, rfl⟩
theorem or_any (g : Nat) (a b : Int) (w : World) (h0 : w.cell? ⟨g, 0, none⟩ = some (.int .i64 a)) (h1 : w.cell? ⟨g, 1, none⟩ = some (.int .i64 b)) :
  Calls Tryz.prog 123 #[.slice (some ⟨g, 0, none⟩) 2 2] w fun e w' => e = .returned (.int .i64 (if a = 0 then b else a)) ∧ w' = w := by
 by_cases ha : a = 0
 ·subst ha
  rw [if_pos rfl]
  by_cases hb : b = 0
  ·subst hb
   go_enter Tryz.func123, Tryz.ntmps123
   go_wp2
   go_loopw [8] (fun i wr => ∃ k : Nat, k ≤ 2 ∧ i = .int .i64 (k : Int) ∧ wr = w) (fun i _ => 2 - (intOf i).toNat)
   case atStart => exact ⟨0, by omega, rfl, rfl⟩
   case round =>
    obtain ⟨k, hk, rfl, rfl⟩ := hrel
    rcases (show k = 0 ∨ k = 1 ∨ k = 2 by omega) with rfl | rfl | rfl
    ·go_wp2
     refine ⟨⟨1, by omega, by go_num, by first | rfl | trivial⟩, by first | (simp [intOf]; done) | omega⟩
    ·go_wp2
     refine ⟨⟨2, by omega, by go_num, by first | rfl | trivial⟩, by first | (simp [intOf]; done) | omega⟩
    ·go_wp2
     go_ret
     exact ⟨rfl, rfl⟩
  ·have tb : (b == 0) = false := by simpa using hb
   have tb2 : (b != 0) = true := by simpa using hb
   clear hb
   go_enter Tryz.func123, Tryz.ntmps123
   go_wp2
   go_loopw [8] (fun i wr => ∃ k : Nat, k ≤ 1 ∧ i = .int .i64 (k : Int) ∧ wr = w) (fun i _ => 2 - (intOf i).toNat)
   case atStart => exact ⟨0, by omega, rfl, rfl⟩
   case round =>
    obtain ⟨k, hk, rfl, rfl⟩ := hrel
    rcases (show k = 0 ∨ k = 1 by omega) with rfl | rfl
    ·go_wp2
     refine ⟨⟨1, by omega, by go_num, by first | rfl | trivial⟩, by first | (simp [intOf]; done) | omega⟩
    ·go_wp2
     go_ret
     exact ⟨rfl, rfl⟩
 ·rw [if_neg ha]
  have tb : (a == 0) = false := by simpa using ha
  have tb2 : (a != 0) = true := by simpa using ha
  clear ha
  go_enter Tryz.func123, Tryz.ntmps123
  go_wp2
  go_loopw [8] (fun i wr => i = .int .i64 0 ∧ wr = w) (fun i _ => 0)
  case atStart => exact ⟨rfl, rfl⟩
  case round =>
   obtain ⟨rfl, rfl⟩ := hrel
   go_wp2
   go_ret
   exact ⟨rfl, rfl⟩
def cf2 (rx ry x y : Int) : Int := if Lib.compareInt rx ry = 0 then Lib.compareInt x y else Lib.compareInt rx ry
theorem ord1_any (bx b o n cap x y : Nat) (rx ry : Int) (W : World) (hb : W.cell? ⟨bx, 0, none⟩ = some (.slice (some ⟨b, o, none⟩) n cap)) (hx : W.cell? ⟨b, o + x * 5 + 2, none⟩ = some (.int .i64 rx)) (hy : W.cell? ⟨b, o + y * 5 + 2, none⟩ = some (.int .i64 ry)) (hxn : x < n) (hyn : y < n) :
  Calls Tryz.prog 122 #[.int .i64 (x : Int), .int .i64 (y : Int), .pointer (some ⟨bx, 0, none⟩)] W fun e w' => e = .returned (.int .i64 (cf2 rx ry x y)) ∧ ∃ q os', w' = grow (W.drewN q) os' := by
 have ix0 : (0 : Int) ≤ (x : Int) := by omega
 have ix1 : (x : Int) < (n : Int) := by omega
 have iy0 : (0 : Int) ≤ (y : Int) := by omega
 have iy1 : (y : Int) < (n : Int) := by omega
 have K1 := Lib.hid (fun V => cmp64_any rx ry V)
 have K2 := Lib.hid (fun V => cmpI_any (x : Int) (y : Int) V)
 obtain ⟨r, hr⟩ : ∃ r, cf2 rx ry x y = r := ⟨_, rfl⟩
 rw [hr]
 unfold cf2 at hr
 generalize Lib.compareInt rx ry = c1 at *
 generalize Lib.compareInt (x : Int) (y : Int) = c2 at *
 have HR := Lib.hid hr
 have T0 := Lib.hid (show W.drew.cell? ⟨bx, 0, none⟩ = some (.slice (some ⟨b, o, none⟩) n cap) ∧ W.drew.cell? ⟨b, o + x * 5 + 2, none⟩ = some (.int .i64 rx) ∧ W.drew.cell? ⟨b, o + y * 5 + 2, none⟩ = some (.int .i64 ry) from ⟨hb, hx, hy⟩)
 have T1 : Hid ((W.alloc (.cells #[.int .i64 c1, .int .i64 c2] 3)).drew.cell? ⟨bx, 0, none⟩ = some (.slice (some ⟨b, o, none⟩) n cap) ∧ (W.alloc (.cells #[.int .i64 c1, .int .i64 c2] 3)).drew.cell? ⟨b, o + x * 5 + 2, none⟩ = some (.int .i64 rx) ∧ (W.alloc (.cells #[.int .i64 c1, .int .i64 c2] 3)).drew.cell? ⟨b, o + y * 5 + 2, none⟩ = some (.int .i64 ry)) := Lib.hid (by
  have l1 := World.block_lt_of_cell? W _ hb
  have l2 := World.block_lt_of_cell? W _ hx
  have l3 := World.block_lt_of_cell? W _ hy
  exact ⟨(World.cell?_alloc_lt W _ _ l1).trans hb, (World.cell?_alloc_lt W _ _ l2).trans hx, (World.cell?_alloc_lt W _ _ l3).trans hy⟩)
 have KO := (or_any W.heap.size c1 c2 (W.alloc (.cells #[.int .i64 c1, .int .i64 c2] 3)).drew (by show (W.alloc (.cells #[.int .i64 c1, .int .i64 c2] 3)).cell? _ = _; rw [cell_of_row _ _ 0 _ _ _ (heap_alloc_new _ _)]; rfl) (by show (W.alloc (.cells #[.int .i64 c1, .int .i64 c2] 3)).cell? _ = _; rw [cell_of_row _ _ 1 _ _ _ (heap_alloc_new _ _)]; rfl))
 rw [hr] at KO
 have KO := Lib.hid KO
 clear hr hb hx hy
 go_enter Tryz.func122, Tryz.ntmps122
 go_upto_region 1 with (fail)
 go_region_held_law (fun V => V.cell? ⟨bx, 0, none⟩ = some (.slice (some ⟨b, o, none⟩) n cap) ∧ V.cell? ⟨b, o + x * 5 + 2, none⟩ = some (.int .i64 rx) ∧ V.cell? ⟨b, o + y * 5 + 2, none⟩ = some (.int .i64 ry))
  (first | (with_reducible assumption) | (with_reducible exact T0.out) | (with_reducible exact T1.out) | fail)
  (first
  | (go_at_call 124; (with_reducible refine (K1.out _).mono ?_); rintro e w1 ⟨rfl, rfl⟩)
  | (go_at_call 125; (with_reducible refine (K2.out _).mono ?_); rintro e w1 ⟨rfl, rfl⟩)
  | (go_at_call 123; (with_reducible refine KO.out.mono ?_); rintro e w1 ⟨rfl, rfl⟩)
  | fail)
 all_goals (
  go_wp2
  go_ret
  exact ⟨rfl, 1, #[.cells #[.int .i64 c1, .int .i64 c2] 3], by rw [alloc_eq_grow]; rfl⟩)
end
section
open Go.RowKit Go.Shelf Go.Lib Go.Sort
attribute [local go_sem ↓] Go.wp_at_zero Go.wp_at_succ
theorem make_ints (n : Nat) (hn : n ≤ 1000) (W : World) : ∃ c : Array Value, c.size = n ∧ ∀ W : World, (Instr.makeSlice 51 (.int .i64 (n : Int)) (.int .i64 (n : Int))).run Tryz.prog W = .ok (.slice (some ⟨W.heap.size, 0, none⟩) n n) (W.alloc (.cells c 3)) := by
 obtain ⟨i0, hi, hz0, hz1, hz2⟩ := info_parts infoI
 refine ⟨madeCells (Value.cells (.int .i64 0)) (n * i0.size), by rw [size_madeCells, hz1, Nat.mul_one], fun W => ?_⟩
 have h := run_make (P := Tryz.prog) W 51 3 i0 _ Tryz.underlying51 hi hz0 .i64 .i64 n n (by omega) (Int.le_refl _) (by rw [hz2]; omega) (by omega)
 simpa only [Int.toNat_natCast] using h
def IRow (w : World) (g n k : Nat) : Prop := ∃ cur : Array Value, w.heap[g]? = some (.cells cur 3 (0, 0)) ∧ cur.size = n ∧ ∀ j, j < k → cur[j]? = some (.int .i64 (j : Int))
theorem IRow.cell {w : World} {g n k : Nat} (h : IRow w g n k) {i : Nat} (hi : i < n) : (∃ v, w.cell? ⟨g, i, none⟩ = some v) ∧ w.frozen? ⟨g, i, none⟩ = false := by
 obtain ⟨cur, h1, h2, h3⟩ := h
 exact ⟨⟨cur[i], by rw [cell_of_row w g i _ _ _ h1]; exact Array.getElem?_eq_getElem (by omega)⟩, frozen_of_row w g i _ _ h1⟩
theorem IRow.step {w : World} {g n k : Nat} (h : IRow w g n k) (hk : k < n) : IRow (w.setCell ⟨g, k, none⟩ (.int .i64 (k : Int))) g n (k + 1) := by
 obtain ⟨cur, h1, h2, h3⟩ := h
 refine ⟨cur.setIfInBounds k (.int .i64 (k : Int)), heap_setCell_same _ _ _ _ _ _ h1, by simp [h2], fun j hj => ?_⟩
 by_cases e : k = j
 ·subst e; simp [h2, hk]
 ·rw [Array.getElem?_setIfInBounds_ne e]; exact h3 j (by omega)
abbrev encN (m : Nat) : Fin (m + 1) → Value := fun x => .int .i64 (x.val : Int)
def ids (m : Nat) : Array (Fin (m + 1)) := Array.ofFn id
theorem ids_size (m : Nat) : (ids m).size = m + 1 := by simp [ids]
theorem ids_get {m k : Nat} (h : k < m + 1) : (ids m)[k]!.val = k := by
 rw [getElem!_pos (ids m) k (by rw [ids_size]; exact h)]
 simp [ids]
theorem ids_toList (m : Nat) : (ids m).toList.map Fin.val = List.range (m + 1) := by
 apply List.ext_getElem
 ·simp [ids]
 ·intro i h1 h2
  have hi : i < (ids m).size := by rw [ids_size]; simpa using h2
  have := ids_get (m := m) (k := i) (by simpa using h2)
  rw [getElem!_pos (ids m) i hi] at this
  rw [List.getElem_map, List.getElem_range]
  exact this
theorem IRow.holds {w : World} {g m : Nat} (h : IRow w g (m + 1) (m + 1)) : Holds (encN m) w g 0 (ids m) := by
 intro j hj
 rw [ids_size] at hj
 obtain ⟨cur, h1, h2, h3⟩ := h
 rw [Nat.zero_add, cell_of_row w g j _ _ _ h1, h3 j hj, encN, ids_get hj]
 exact ⟨rfl, frozen_of_row w g j _ _ h1⟩
theorem below_putRow {α : Type} [Inhabited α] {B : Nat} {w0 w : World} (h : RowKit.Below B w0 w) (enc : α → Value) (g off : Nat) (d : Array α) (hg : B ≤ g) : RowKit.Below B w0 (putRow enc w g off d) :=
 h.trans ⟨rfl, rfl, rfl, by simp, fun k hk => by
  unfold putRow mapBlock
  simp only [Array.getElem?_modify]
  rw [if_neg (by omega)]⟩
theorem below_grow {B : Nat} {w0 w : World} (h : RowKit.Below B w0 w) (os : Array Obj) (hB : B ≤ w.heap.size) : RowKit.Below B w0 (grow w os) :=
 h.trans ⟨rfl, rfl, rfl, by simp, fun k hk => heap_grow_old w os (by omega)⟩
theorem cell_sortWorld {α : Type} [Inhabited α] (enc : α → Value) (w : World) (g off m : Nat) (d : Array α) (os : Array Obj) (b i : Nat) (hb : b ≠ g) (hl : b < w.heap.size) : (sortWorld enc w g off m d os).cell? ⟨b, i, none⟩ = w.cell? ⟨b, i, none⟩ := by
 unfold sortWorld
 rw [cell?_grow _ _ _ (by simp; exact hl), cell?_putRow_other _ _ _ _ _ _ (Or.inl hb)]
 rfl
section
variable {m : Nat} (ks : List Int)
def cfK (x y : Fin (m + 1)) : Int := cf2 (kO ks x.val) (kO ks y.val) x.val y.val
theorem ltOf_cfK (x y : Fin (m + 1)) : ltOf (cfK ks) x y = decide (Ahead ks x.val y.val) := by
 unfold ltOf
 rw [Bool.eq_iff_iff, decide_eq_true_eq, decide_eq_true_eq]
 unfold cfK cf2 Ahead Lib.compareInt
 generalize kO ks x.val = a
 generalize kO ks y.val = b
 by_cases h1 : a < b
 ·simp [h1]
 ·by_cases h2 : a > b
  ·have h3 : ¬ a = b := by omega
   simp [h1, h2, h3]
  ·have h3 : a = b := by omega
   subst h3
   by_cases h4 : x.val < y.val
   ·simp [h4]
   ·by_cases h5 : y.val < x.val
    ·simp [h4, h5]
    ·simp [h4, h5]
theorem swoK : SWO (ltOf (cfK (m := m) ks)) where
 irrefl x := by
  rw [ltOf_cfK, decide_eq_false_iff_not]
  unfold Ahead
  omega
 trans x y z h1 h2 := by
  rw [ltOf_cfK, decide_eq_true_eq] at h1 h2 ⊢
  unfold Ahead at h1 h2 ⊢
  omega
 ntrans x y z h1 h2 := by
  rw [ltOf_cfK, decide_eq_false_iff_not] at h1 h2 ⊢
  unfold Ahead at h1 h2 ⊢
  omega
end
theorem ord_of {m : Nat} {ks : List Int} (hl : ks.length = m + 1) {d : Array (Fin (m + 1))} (h1 : PermIn 0 (ids m).size (ids m) d) (h2 : SortedIn (ltOf (cfK ks)) 0 (ids m).size d) : IsOrd ks (d.toList.map Fin.val) := by
 rw [ids_size] at h1 h2
 have hs : d.size = m + 1 := by rw [h1.1, ids_size]
 have hp : (d.toList.map Fin.val).Perm (List.range ks.length) := by
  have := h1.2.2
  have e1 : d.extract 0 (m + 1) = d := Array.extract_eq_self_of_le (by omega)
  have e2 : (ids m).extract 0 (m + 1) = ids m := Array.extract_eq_self_of_le (by rw [ids_size]; omega)
  rw [e1, e2] at this
  have h3 := this.map Fin.val
  rw [ids_toList] at h3
  rw [hl]
  exact h3
 refine ⟨hp, List.pairwise_iff_getElem.2 fun j k hj hk hjk => ?_⟩
 have hk2 : k < m + 1 := by rw [List.length_map, Array.length_toList, hs] at hk; exact hk
 have hn := h2 j k (Nat.zero_le _) hjk hk2
 rw [getElem!_pos d k (by omega), getElem!_pos d j (by omega), ltOf_cfK] at hn
 have hnd : (d.toList.map Fin.val).Nodup := hp.nodup_iff.2 List.nodup_range
 have hne := List.pairwise_iff_getElem.1 hnd j k hj hk hjk
 simp only [List.getElem_map, Array.getElem_toList] at hne ⊢
 simp only [decide_eq_false_iff_not] at hn
 unfold Ahead at hn ⊢
 omega
def nL (o : List Nat) : List Int := o.map (fun i : Nat => (i : Int))
def OrdPost (ks : List Int) (w : World) (e : Ending) (w' : World) : Prop := ∃ v o, e = .returned v ∧ IsOrd ks o ∧ w'.ownsRow w.heap.size 3 1 v ks.length (numL (nL o)) ∧ Below w.heap.size w w' ∧ ∃ g, v = .slice (some ⟨g, 0, none⟩) ks.length ks.length
structure Asks (W : World) (bx g : Nat) (js : List Fv) : Prop where
 ex : ∃ b o cap, W.cell? ⟨bx, 0, none⟩ = some (.slice (some ⟨b, o, none⟩) js.length cap) ∧ b ≠ g ∧ b < W.heap.size ∧ ∀ (k : Nat) (x : Fv), js[k]? = some x → W.cell? ⟨b, o + k * 5 + 2, none⟩ = some (.int .i64 x.r)
 ne : bx ≠ g
 lt : bx < W.heap.size
abbrev rls (js : List Fv) : List Int := js.map (·.r)
theorem Asks.reads {W : World} {bx g m : Nat} {js : List Fv} (h : Asks W bx g js) (hl : js.length = m + 1) (size : Nat) :
  CmpLays1 Tryz.prog 122 #[.pointer (some ⟨bx, 0, none⟩)] (encN m) (cfK (rls js)) g 0 size W := by
 intro q os dk hdk x y
 obtain ⟨b, o, cap, hc, hne, hlt, ht⟩ := h.ex
 have hx : x.val < js.length := by rw [hl]; exact x.isLt
 have hy : y.val < js.length := by rw [hl]; exact y.isLt
 have ex : js[x.val]? = some js[x.val] := List.getElem?_eq_getElem hx
 have ey : js[y.val]? = some js[y.val] := List.getElem?_eq_getElem hy
 have px : kO (rls js) x.val = js[x.val].r := by simp [kO, rls, ex]
 have py : kO (rls js) y.val = js[y.val].r := by simp [kO, rls, ey]
 show Calls _ _ _ _ fun e w' => e = .returned (.int .i64 (cf2 (kO (rls js) x.val) (kO (rls js) y.val) x.val y.val)) ∧ _
 rw [px, py]
 have hcell : ∀ b' i, b' ≠ g → b' < W.heap.size → (sortWorld (encN m) W g 0 q dk os).cell? ⟨b', i, none⟩ = W.cell? ⟨b', i, none⟩ := fun b' i h1 h2 => cell_sortWorld _ _ _ _ _ _ _ _ _ h1 h2
 exact ord1_any bx b o js.length cap x.val y.val _ _ _ ((hcell _ _ h.ne h.lt).trans hc) ((hcell _ _ hne hlt).trans (ht _ _ ex)) ((hcell _ _ hne hlt).trans (ht _ _ ey)) hx hy
theorem own_sorted {m : Nat} {w : World} {g n B : Nat} {d : Array (Fin (m + 1))} {os : Array Obj} (hI : IRow w g (m + 1) (m + 1)) (hB : B ≤ g) (hd : d.size = m + 1) (hm : m + 1 ≤ 1000) (o : List Nat) (ho : d.toList.map Fin.val = o) :
  (sortWorld (encN m) w g 0 n d os).ownsRow B 3 1 (.slice (some ⟨g, 0, none⟩) (m + 1) (m + 1)) (m + 1) (numL (nL o)) := by
 have hH := hI.holds
 obtain ⟨cur, h1, h2, h3⟩ := hI
 have hgl := (Array.getElem?_eq_some_iff.1 h1).1
 have hblk : (sortWorld (encN m) w g 0 n d os).heap[g]? = some (.cells (putCells (encN m) 0 d cur) 3 (0, 0)) := by
  unfold sortWorld
  rw [heap_grow_old _ _ (by simp; exact hgl)]
  unfold putRow mapBlock
  simp only [Array.getElem?_modify, if_true]
  show (w.heap[g]?).map _ = _
  rw [h1]; rfl
 have hol : o.length = m + 1 := by rw [← ho, List.length_map, Array.length_toList, hd]
 refine ⟨by simp [numL, nL, hol], .inr ⟨g, m + 1, _, rfl, hB, hblk, by omega, by unfold maxLen; omega, by simp [putCells, h2], ?_⟩⟩
 refine List.ext_getElem? fun j => ?_
 rw [List.getElem?_take]
 by_cases hj : j < m + 1
 ·rw [if_pos (by omega), Array.getElem?_toList]
  have h4 : (sortWorld (encN m) w g 0 n d os).cell? ⟨g, j, none⟩ = some (encN m d[j]!) := by
   unfold sortWorld
   rw [cell?_grow _ _ _ (by simp; exact hgl)]
   have h5 := (holds_putRow (encN m) (Sort.ahead w n) g 0 (ids m) d (holds_ahead (encN m) w n g 0 (ids m) hH) (by rw [hd, ids_size]) j (by omega)).1
   rwa [Nat.zero_add] at h5
  rw [cell_of_row _ g j _ _ _ hblk] at h4
  rw [h4, ← ho]
  simp only [numL, nL, List.getElem?_map, Array.getElem?_toList]
  rw [Array.getElem?_eq_getElem (by omega), getElem!_pos d j (by omega)]
  rfl
 ·rw [if_neg (by omega), List.getElem?_eq_none]
  simp [numL, nL, hol]; omega
theorem order_any (A : Option Addr) (cap : Nat) (js : List Fv) (w : World) (hR : FRow w A cap js) (hn : js.length ≤ 1000) :
  Calls Tryz.prog 103 #[.slice A js.length cap] w (OrdPost (rls js) w) := by
 obtain ⟨c, hc, hmk⟩ := make_ints js.length (by omega) w
 obtain ⟨W0, hW0, hbx, hI0, hB0, hs0⟩ : ∃ W0, (w.alloc (.cells #[.slice A js.length cap] 37)).alloc (.cells c 3) = W0 ∧ W0.cell? ⟨w.heap.size, 0, none⟩ = some (.slice A js.length cap) ∧ IRow W0 (w.heap.size + 1) js.length 0 ∧ RowKit.Below w.heap.size w W0 ∧ W0.heap.size = w.heap.size + 1 + 1 := by
  refine ⟨_, rfl, ?_, ⟨c, ?_, hc, fun j hj => absurd hj (by omega)⟩, ((Below.refl w.heap.size w).alloc (Nat.le_refl _) _).alloc (by simp) _, by simp⟩
  ·rw [World.cell?_alloc_lt _ _ _ (by simp), cell_of_row _ _ 0 _ _ _ (heap_alloc_new w _)]; rfl
  ·have := heap_alloc_new (w.alloc (.cells #[.slice A js.length cap] 37)) (.cells c 3)
   rwa [World.size_alloc] at this
 have HW0 := Lib.hid hW0
 have ROW := Lib.hid hR
 have HB0 := Lib.hid hB0
 have HBX := Lib.hid hbx
 clear hW0 hR hc hB0
 go_enter Tryz.func103, Tryz.ntmps103
 go_upto_region 2 with (fail)
 rw [HW0.out]
 clear HW0 hmk
 go_wp2
 go_loopw [10] (fun i wr => ∃ k : Nat, k ≤ js.length ∧ i = .int .i64 k ∧ IRow wr (w.heap.size + 1) js.length k ∧ (∀ b i, b ≠ w.heap.size + 1 → b < W0.heap.size → wr.cell? ⟨b, i, none⟩ = W0.cell? ⟨b, i, none⟩) ∧ wr.heap.size = W0.heap.size ∧ RowKit.Below w.heap.size w wr) (fun i _ => js.length - (intOf i).toNat)
 case atStart => exact ⟨0, Nat.zero_le _, rfl, hI0, fun _ _ _ _ => rfl, rfl, HB0.out⟩
 case round =>
  obtain ⟨k, hk, rfl, hI, hkeep, hsz, hB⟩ := hrel
  clear hI0
  by_cases hlt : k < js.length
  ·obtain ⟨⟨v, cv⟩, fv⟩ := hI.cell hlt
   have hi0 : (0 : Int) ≤ (k : Int) := by omega
   have hi1 : (k : Int) < (js.length : Int) := by omega
   have HI := Lib.hid hI
   have HK := Lib.hid hkeep
   have HB := Lib.hid hB
   have HS := Lib.hid hsz
   clear hI hkeep hB hsz hs0
   go_wp2
   go_roundw
   case rel => exact ⟨k + 1, by omega, by go_num, HI.out.step hlt, fun b i h1 h2 => by rw [World.cell?_setCell_other _ _ _ _ (by intro e; exact h1 (congrArg Addr.block e).symm)]; exact HK.out b i h1 h2, by simp [HS.out], HB.out.setCell (p := ⟨w.heap.size + 1, k, none⟩) (by simp) _⟩
   case measure => simp [intOf]; omega
  ·obtain rfl : k = js.length := by omega
   have hbox : wr.cell? ⟨w.heap.size, 0, none⟩ = some (.slice A js.length cap) := (hkeep _ _ (by omega) (by omega)).trans HBX.out
   have HB := Lib.hid hB
   have HS : Hid (wr.heap.size = w.heap.size + 1 + 1) := Lib.hid (hsz.trans hs0)
   by_cases h0 : js = []
   ·subst h0
    have S := AnyF.slices_SortFunc_none { Tryz.sortL with } (some ⟨w.heap.size + 1, 0, none⟩) 0 (.func (.func 122) #[] #[.pointer (some ⟨w.heap.size, 0, none⟩)]) wr
    change Calls Tryz.prog 121 _ _ _ at S
    have HSS := Lib.hid S
    have HI := Lib.hid hI
    clear hI hkeep hsz hs0 S
    simp only [List.length_nil] at *
    go_wp2_with (go_at_call 121; (with_reducible refine HSS.out.mono ?_); rintro e w2 ⟨rfl, rfl⟩)
    go_ret
    obtain ⟨cur, h1, h2, _⟩ := HI.out
    exact ⟨_, [], rfl, ⟨by simp, by simp⟩, ⟨rfl, .inr ⟨w.heap.size + 1, 0, cur, rfl, by omega, h1, Nat.le_refl _, by unfold maxLen; omega, by simpa using h2, by simp [numL, nL]⟩⟩, HB.out, ⟨_, rfl⟩⟩
   ·obtain ⟨m, hm⟩ : ∃ m, js.length = m + 1 := ⟨js.length - 1, by have : js.length ≠ 0 := fun h => h0 (List.eq_nil_of_length_eq_zero h); omega⟩
    obtain ⟨b, o, x0, C0, cc0, rfl, hx0, hbl, hT0⟩ := ROW.out.get (k := 0) (by omega)
    have hA : Asks wr w.heap.size (w.heap.size + 1) js := ⟨⟨b, o, cap, hbox, by omega, by omega, fun k x hx => by
     obtain ⟨b', o', C, cc, e, hF⟩ := ROW.out.at_ k x hx
     cases e
     exact (hF.later HB.out).c2⟩, by omega, by omega⟩
    have hI2 := hI
    rw [hm] at hI2
    have hH := hI2.holds
    have eg : ∀ args w, (callFunc 122 args).run Tryz.prog w = .ok (.enter 122 args) w := enters_of Tryz.func122 (by kernel_rfl) rfl
    have S := Any.slices_SortFunc Tryz.sortL (encN m) (fun _ => rfl) (cfK (rls js)) (swoK _) 122 #[.pointer (some ⟨w.heap.size, 0, none⟩)] (w.heap.size + 1) 0 js.length (ids m) wr eg (hA.reads hm _) hH (by omega) (by rw [ids_size]; omega)
    change Calls Tryz.prog 121 _ _ _ at S
    have e0 : (ids m).size = js.length := by rw [ids_size, hm]
    have S2 := S
    rw [e0] at S2
    have HSS := Lib.hid S2
    have HM := Lib.hid hm
    have HI2 := Lib.hid hI2
    have HE := Lib.hid e0
    clear hI hkeep hsz hs0 hA hI2 hH h0 hx0 hT0 hm S S2 eg e0
    go_wp2_with (go_at_call 121; (with_reducible refine HSS.out.mono ?_); rintro e w2 ⟨rfl, d', nq, os, hp, hs, rfl⟩; have HP := Lib.hid hp; have HQ := Lib.hid hs; clear hp hs)
    go_ret
    have hks : (rls js).length = m + 1 := by rw [List.length_map, HM.out]
    have hO := ord_of hks (by rw [HE.out]; exact HP.out) (by rw [HE.out]; exact HQ.out)
    have hds : d'.size = m + 1 := by have := HP.out.1; rw [this, ids_size]
    refine ⟨_, _, rfl, hO, ?_, ?_, ⟨w.heap.size + 1, by rw [List.length_map]; rfl⟩⟩
    ·rw [hks, HM.out]
     exact own_sorted HI2.out (by omega) hds (by have := HM.out; omega) _ rfl
    ·unfold sortWorld
     have hb1 : RowKit.Below w.heap.size w (Sort.ahead wr nq) := HB.out.trans ⟨rfl, rfl, rfl, Nat.le_refl _, fun _ _ => rfl⟩
     exact below_grow (below_putRow hb1 (encN m) (w.heap.size + 1) 0 d' (by omega)) os (by have := HS.out; simp [Sort.ahead]; omega)
end
section
open Go.RowKit
structure LK where
 bl : Nat
 lb : Nat
 lo : Nat
 cap : Nat
 ps : List Int
abbrev LK.fv (K : LK) : Value := .func (.func 105) #[] #[.pointer (some ⟨K.bl, 0, none⟩)]
def keyK (K : LK) (x : Int) : Int := (K.ps[x.toNat]?).getD 0
def okK (K : LK) (x : Int) : Prop := ∃ i : Nat, x = (i : Int) ∧ i < K.ps.length
structure LessOk (K : LK) (B : Nat) (w : World) : Prop where
 lt : K.bl < B
 lb : K.lb < B
 sz : B ≤ w.heap.size
 few : K.ps.length ≤ 1000000
 cp : K.ps.length ≤ K.cap ∧ K.cap ≤ 9223372036854775807
 box : w.cell? ⟨K.bl, 0, none⟩ = some (.slice (some ⟨K.lb, K.lo, none⟩) K.ps.length K.cap)
 rd : ∀ (i : Nat) (p : Int), K.ps[i]? = some p → w.cell? ⟨K.lb, K.lo + i * 7 + 6, none⟩ = some (.int .i64 p)
theorem LessOk.off {K : LK} {B : Nat} {w : World} (h : LessOk K B w) {k : Nat} (hk : B ≤ k) : k ≠ K.bl ∧ k ≠ K.lb := by
 have := h.lt; have := h.lb; omega
theorem LessOk.kept {K : LK} {B : Nat} {X : List Nat} {w w' : World} (h : LessOk K B w) (hk : Kept X w w') (hz : ∀ k ∈ X, k ≠ K.bl ∧ k ≠ K.lb) : LessOk K B w' := by
 have l1 := h.lt
 have l2 := h.lb
 have l3 := h.sz
 exact ⟨l1, l2, Nat.le_trans l3 hk.size, h.few, h.cp, (hk.cell (by omega) (fun e => (hz _ e).1 rfl)).trans h.box, fun i p hp => (hk.cell (by omega) (fun e => (hz _ e).2 rfl)).trans (h.rd i p hp)⟩
theorem LessOk.later {K : LK} {B : Nat} {w w' : World} (h : LessOk K B w) (hb : Below w.heap.size w w') : LessOk K B w' := h.kept (Kept.of [] hb) (by simp)
variable {K : LK}
def thI (p : Int × Nat) : List Value := [.int .i64 p.1, .int .i64 (p.2 : Int)]
def thCI (l : List (Int × Nat)) : List Value := l.flatMap thI
theorem th_lenI (p : Int × Nat) : (thI p).length = 2 := rfl
theorem thC_appI (a b : List (Int × Nat)) : thCI (a ++ b) = thCI a ++ thCI b := by simp [thCI]
theorem thC_getI (l : List (Int × Nat)) : ∀ (i : Nat) (p : Int × Nat), l[i]? = some p → ∀ j u, (thI p)[j]? = some u → (thCI l)[i * 2 + j]? = some u := by
 induction l with
 | nil => intro i p h; simp at h
 | cons a r ih =>
   intro i p h j v hv
   have hj : j < 2 := by
    rcases Nat.lt_or_ge j 2 with h | h
    ·exact h
    ·rw [List.getElem?_eq_none (by rw [th_lenI]; exact h)] at hv; cases hv
   cases i with
   | zero =>
     simp at h; subst h
     rw [Nat.zero_mul, Nat.zero_add, thCI, List.flatMap_cons, List.getElem?_append_left (by rw [th_lenI]; exact hj)]
     exact hv
   | succ i =>
     simp only [List.getElem?_cons_succ] at h
     have := ih i p h j v hv
     rw [thCI, List.flatMap_cons, List.getElem?_append_right (by rw [th_lenI]; omega), th_lenI]
     rw [show (i + 1) * 2 + j - 2 = i * 2 + j by omega]
     exact this
theorem thC_setI (l : List (Int × Nat)) : ∀ (i : Nat) (p : Int × Nat), i < l.length → thCI (l.set i p) = (((thCI l).set (i * 2) (.int .i64 p.1)).set (i * 2 + 1) (.int .i64 (p.2 : Int))) := by
 induction l with
 | nil => intro i p h; simp at h
 | cons a r ih =>
   intro i p h
   cases i with
   | zero => simp [thCI, thI]
   | succ i =>
     have := ih i p (by simpa using h)
     rw [List.set_cons_succ, thCI, List.flatMap_cons]
     rw [thCI] at this
     rw [this]
     have e : thCI (a :: r) = thI a ++ thCI r := by simp [thCI]
     rw [e]
     simp only [thI, List.cons_append, List.nil_append, show (i + 1) * 2 = i * 2 + 2 by omega, show ∀ m : Nat, i * 2 + 2 + m = i * 2 + m + 2 by intro m; omega]
     simp [thCI]
theorem thC_takeI (l : List (Int × Nat)) : ∀ m, m ≤ l.length → thCI (l.take m) = (thCI l).take (m * 2) := by
 induction l with
 | nil => intro m h; simp at h; subst h; simp [thCI]
 | cons a r ih =>
   intro m h
   cases m with
   | zero => simp [thCI]
   | succ m =>
     have := ih m (by simpa using h)
     rw [List.take_succ_cons, thCI, List.flatMap_cons]
     rw [thCI] at this
     rw [this]
     have e : thCI (a :: r) = thI a ++ thCI r := by simp [thCI]
     rw [e, List.take_append, th_lenI, show (m + 1) * 2 - 2 = m * 2 by omega, List.take_of_length_le (l := thI a) (by rw [th_lenI]; omega)]
structure HBI (K : LK) (B : Nat) (w : World) (b : Nat) (v : Value) (c : Nat) (l : List (Int × Nat)) : Prop where
 hB : B ≤ b
 is : w.heap[b]? = some (.cells #[K.fv, v, .int .i64 (c : Int)] 180 (0, 0))
 row : w.ownsRow B 208 2 v l.length (thCI l)
 ok : ∀ p ∈ l, okK K p.1
 few : ∀ p ∈ l, p.2 < 1000000
 lim : c ≤ 1000000
 less : LessOk K B w
section
variable {B : Nat} {w w' : World} {b c : Nat} {v : Value} {l : List (Int × Nat)}
theorem HBI.lt (h : HBI K B w b v c l) : b < w.heap.size := (Array.getElem?_eq_some_iff.1 h.is).1
theorem HBI.cell (h : HBI K B w b v c l) (i : Nat) : w.cell? ⟨b, i, none⟩ = (#[K.fv, v, .int .i64 (c : Int)] : Array Value)[i]? := cell_of_row w b i _ _ _ h.is
theorem HBI.c0 (h : HBI K B w b v c l) : w.cell? ⟨b, 0, none⟩ = some (K.fv) := h.cell 0
theorem HBI.c1 (h : HBI K B w b v c l) : w.cell? ⟨b, 1, none⟩ = some v := h.cell 1
theorem HBI.c2 (h : HBI K B w b v c l) : w.cell? ⟨b, 2, none⟩ = some (.int .i64 (c : Int)) := h.cell 2
theorem HBI.fz (h : HBI K B w b v c l) (i : Nat) : w.frozen? ⟨b, i, none⟩ = false := by simp [World.frozen?, h.is]
theorem HBI.ne (h : HBI K B w b v c l) : v.ownBlock ≠ some b := own_ne h.row h.is (by decide)
theorem HBI.kept {X : List Nat} (h : HBI K B w b v c l) (hk : Kept X w w') (hx : ∀ k ∈ blk b v, k ∉ X) (hz : ∀ k ∈ X, k ≠ K.bl ∧ k ≠ K.lb) : HBI K B w' b v c l :=
 ⟨h.hB, (hk.block b h.lt (hx b (by simp [blk]))).trans h.is, hk.row h.row (fun g hg => hx g (by simp [blk, hg])), h.ok, h.few, h.lim, h.less.kept hk hz⟩
theorem HBI.later (h : HBI K B w b v c l) (hb : Below w.heap.size w w') : HBI K B w' b v c l := h.kept (Kept.of [] hb) (by simp) (by simp)
theorem HBI.blk_ge (h : HBI K B w b v c l) : ∀ k ∈ blk b v, B ≤ k ∧ k < w.heap.size := by
 intro k hk
 simp only [blk, List.mem_cons] at hk
 rcases hk with rfl | hk
 ·exact ⟨h.hB, h.lt⟩
 ·exact h.row.lt k (by simpa using hk)
end
theorem run_neq_nilI (fn : Fn) (a b : Array Value) (w : World) : (binOp .neq 114 (.func fn a b) .nilFunc).run Tryz.prog w = .ok (.bool true) w := by
 have h : ∀ d, (Op.equalIn (d + 1) 114 (.func fn a b) .nilFunc).run Tryz.prog w = .ok false w := fun d => by simp [Op.equalIn, run_underlying Tryz.underlying114]
 simp only [binOp]
 simp [Op.equal, Op.maxDepth, h 9999]
theorem less_anyI {B : Nat} (x y : Int) (w : World) (hL : LessOk K B w) (hx : okK K x) (hy : okK K y) : Calls Tryz.prog 105 #[.int .i64 x, .int .i64 y, .pointer (some ⟨K.bl, 0, none⟩)] w (Ans (decide (keyK K x < keyK K y)) w) := by
 obtain ⟨i, rfl, hi⟩ := hx
 obtain ⟨j, rfl, hj⟩ := hy
 obtain ⟨p, hp⟩ : ∃ p, K.ps[i]? = some p := ⟨K.ps[i], List.getElem?_eq_getElem hi⟩
 obtain ⟨q, hq⟩ : ∃ q, K.ps[j]? = some q := ⟨K.ps[j], List.getElem?_eq_getElem hj⟩
 have ep : keyK K (i : Int) = p := by simp [keyK, hp]
 have eq : keyK K (j : Int) = q := by simp [keyK, hq]
 rw [ep, eq]
 have c0 := hL.box
 have c1 := hL.rd i p hp
 have c2 := hL.rd j q hq
 have i0 : (0 : Int) ≤ (i : Int) := by omega
 have j0 : (0 : Int) ≤ (j : Int) := by omega
 have i1 : (i : Int) < (K.ps.length : Int) := by omega
 have j1 : (j : Int) < (K.ps.length : Int) := by omega
 generalize K.ps.length = n at *
 clear hL hp hq ep eq
 go_enter Tryz.func105, Tryz.ntmps105
 go_upto_region 1 with (fail)
 go_quiet (fail)
 go_wp2
 go_ret
 exact ⟨rfl, below_drewN2 _ _⟩
end
section
open Go.RowKit
variable {K : LK}
theorem isLessI {B b : Nat} (x y : Int) (w : World) (h0 : w.cell? ⟨b, 0, none⟩ = some (K.fv)) (hL : LessOk K B w) (hx : okK K x) (hy : okK K y) :
  Calls Tryz.prog 180 #[.pointer (some ⟨b, 0, none⟩), .int .i64 x, .int .i64 y] w (Ans (decide ((keyK K) x < (keyK K) y)) w) := by
 have KL := Lib.hid (less_anyI x y w hL hx hy)
 generalize decide ((keyK K) x < (keyK K) y) = t at *
 have hb : b < w.heap.size := World.block_lt_of_cell? w _ h0
 have hnn := run_neq_nilI (.func 105) #[] #[.pointer (some ⟨K.bl, 0, none⟩)]
 clear hL hx hy
 go_enter Tryz.func180, Tryz.ntmps180
 go_wp2_with (go_at_call 105; (with_reducible refine KL.out.mono ?_); rintro e w' ⟨rfl, hB⟩)
 go_ret
 exact ⟨rfl, hB⟩
theorem firstI {B b : Nat} (p q : Int × Nat) (w : World) (h0 : w.cell? ⟨b, 0, none⟩ = some (K.fv)) (hL : LessOk K B w) (hx : okK K p.1) (hy : okK K q.1) :
  Calls Tryz.prog 168 #[.pointer (some ⟨b, 0, none⟩), .agg #[.int .i64 p.1, .int .i64 (p.2 : Int)], .agg #[.int .i64 q.1, .int .i64 (q.2 : Int)]] w (Ans (lexB (keyK K) p q) w) := by
 have hb : b < w.heap.size := World.block_lt_of_cell? w _ h0
 have C : ((w.alloc (.cells #[.int .i64 p.1, .int .i64 (p.2 : Int)] 208)).alloc (.cells #[.int .i64 q.1, .int .i64 (q.2 : Int)] 208)).cell? ⟨b, 0, none⟩ = some (K.fv) := by
  rw [World.cell?_alloc_lt _ _ _ (by simp; omega), World.cell?_alloc_lt _ _ _ (by simpa using hb)]; exact h0
 have hL2 := hL.later (((Below.refl w.heap.size w).alloc (Nat.le_refl _) (.cells #[.int .i64 p.1, .int .i64 (p.2 : Int)] 208)).alloc (by simp) (.cells #[.int .i64 q.1, .int .i64 (q.2 : Int)] 208))
 have K1 := Lib.hid (isLessI q.1 p.1 _ C hL2 hy hx)
 have K2 := Lib.hid (isLessI p.1 q.1 _ C hL2 hx hy)
 clear hL hL2 hx hy
 have hB0 : Below w.heap.size w ((w.alloc (.cells #[.int .i64 p.1, .int .i64 (p.2 : Int)] 208)).alloc (.cells #[.int .i64 q.1, .int .i64 (q.2 : Int)] 208)) := ((Below.refl _ _).alloc (Nat.le_refl _) _).alloc (by simp) _
 have hlx := lexB_first (keyK K) p q
 by_cases hlt : p.2 < q.2
 ·rw [if_pos hlt] at hlx
  rw [hlx]
  have ht : decide (p.2 < q.2) = true := decide_eq_true hlt
  have HB := Lib.hid hB0
  clear hlx C h0 hB0
  go_enter Tryz.func168, Tryz.ntmps168
  go_wp2_with (go_at_call 180; (with_reducible refine K1.out.mono ?_); rintro e w' ⟨rfl, hB⟩)
  go_ret
  exact ⟨rfl, HB.out.trans (hB.mono HB.out.size)⟩
 ·rw [if_neg hlt] at hlx
  rw [hlx]
  have ht : decide (p.2 < q.2) = false := decide_eq_false hlt
  have HB := Lib.hid hB0
  clear hlx C h0 hB0
  go_enter Tryz.func168, Tryz.ntmps168
  go_wp2_with (go_at_call 180; (with_reducible refine K2.out.mono ?_); rintro e w' ⟨rfl, hB⟩)
  go_ret
  exact ⟨rfl, HB.out.trans (hB.mono HB.out.size)⟩
end
section
open Go.RowKit
variable {K : LK}
attribute [local go_sem ↓] Go.wp_at_zero Go.wp_at_succ
def ptI (w : World) (g i : Nat) (p : Int × Nat) : World := (w.setCell ⟨g, i * 2, none⟩ (.int .i64 p.1)).setCell ⟨g, i * 2 + 1, none⟩ (.int .i64 (p.2 : Int))
section
variable {B : Nat} {w w' : World} {b c : Nat} {v : Value} {l : List (Int × Nat)} {g n cap : Nat}
theorem Kept.storedI {X : List Nat} {a : World} (h : Kept X a w) (g i : Nat) (p : Int × Nat) (hg : g ∈ X) : Kept X a (ptI w g i p) := by
 unfold ptI
 exact (h.set g _ _ hg).set g _ _ hg
theorem HBI.put (h : HBI K B w b v c l) (hg : v.ownBlock = some g) {i : Nat} (hi : i < l.length) {p : Int × Nat} (hp : okK K p.1) (hc : p.2 < 1000000) : HBI K B (ptI w g i p) b v c (l.set i p) := by
 have hne : b ≠ g := fun e => h.ne (by rw [hg, e])
 have hk := Kept.storedI (Kept.refl [g] w) g i p (by simp)
 refine ⟨h.hB, (hk.block b h.lt (by simp; exact hne)).trans h.is, ?_, fun q hq => ?_, fun q hq => ?_, h.lim, h.less.kept hk (fun k e => h.less.off (by rw [List.mem_singleton.1 e]; exact (h.row.lt g hg).1))⟩
 ·rw [List.length_set, thC_setI l i p hi]
  have hz : i * 2 + 2 ≤ l.length * 2 := by
   have := Nat.mul_le_mul_right 2 (show i + 1 ≤ l.length from hi)
   omega
  unfold ptI
  exact own_set (own_set h.row hg (by omega) _) hg (by omega) _
 ·rcases List.mem_or_eq_of_mem_set hq with hq | rfl
  ·exact h.ok q hq
  ·exact hp
 ·rcases List.mem_or_eq_of_mem_set hq with hq | rfl
  ·exact h.few q hq
  ·exact hc
theorem HBI.th (h : HBI K B w b v c l) (hg : v.ownBlock = some g) {i : Nat} {p : Int × Nat} (hi : l[i]? = some p) (j : Nat) (u : Value) (hu : (thI p)[j]? = some u) : w.cell? ⟨g, i * 2 + j, none⟩ = some u :=
 own_cell h.row hg (thC_getI l i p hi j u hu)
theorem HBI.glt (h : HBI K B w b v c l) (hg : v.ownBlock = some g) : B ≤ g ∧ g < w.heap.size := h.row.lt g hg
theorem HBI.gfz (h : HBI K B w b v c l) (hg : v.ownBlock = some g) (i : Nat) : w.frozen? ⟨g, i, none⟩ = false := by
 rcases h.row.2 with ⟨rfl, _⟩ | ⟨g', cp, cur, rfl, _, hh, _⟩
 ·simp [Value.ownBlock] at hg
 ·simp only [Value.ownBlock, Option.some.injEq] at hg
  subst hg
  simp [World.frozen?, hh]
end
structure TwoAtI (K : LK) (B : Nat) (w0 : World) (b g i j : Nat) (x y : Int × Nat) (W : World) : Prop where
 f : W.cell? ⟨b, 0, none⟩ = some (K.fv)
 x0 : W.cell? ⟨g, i * 2, none⟩ = some (.int .i64 x.1)
 x1 : W.cell? ⟨g, i * 2 + 1, none⟩ = some (.int .i64 (x.2 : Int))
 y0 : W.cell? ⟨g, j * 2, none⟩ = some (.int .i64 y.1)
 y1 : W.cell? ⟨g, j * 2 + 1, none⟩ = some (.int .i64 (y.2 : Int))
 bel : Below w0.heap.size w0 W
 ls : LessOk K B W
 ox : okK K x.1
 oy : okK K y.1
theorem TwoAtI.step {B : Nat} {w0 W W' : World} {b g i j : Nat} {x y : Int × Nat} (h : TwoAtI K B w0 b g i j x y W) (hb : b < w0.heap.size) (hg : g < w0.heap.size) (hB : Below W.heap.size W W') : TwoAtI K B w0 b g i j x y W' := by
 have hs := h.bel.size
 have k := fun i => hB.cell (p := ⟨g, i, none⟩) (Nat.lt_of_lt_of_le hg hs)
 exact ⟨(hB.cell (p := ⟨b, 0, none⟩) (Nat.lt_of_lt_of_le hb hs)).trans h.f, (k _).trans h.x0, (k _).trans h.x1, (k _).trans h.y0, (k _).trans h.y1, h.bel.trans (hB.mono hs), h.ls.later hB, h.ox, h.oy⟩
theorem HBI.two {B : Nat} {w : World} {b c g i j : Nat} {v : Value} {l : List (Int × Nat)} {x y : Int × Nat} (h : HBI K B w b v c l) (hg : v.ownBlock = some g) (hx : l[i]? = some x) (hy : l[j]? = some y) : TwoAtI K B w b g i j x y w.drew :=
 ⟨h.c0, h.th hg hx 0 _ rfl, h.th hg hx 1 _ rfl, h.th hg hy 0 _ rfl, h.th hg hy 1 _ rfl, below_drew w, h.less.later (below_drew w), h.ok _ (List.mem_of_getElem? hx), h.ok _ (List.mem_of_getElem? hy)⟩
def RisePostI (K : LK) (B b c g : Nat) (v : Value) (l : List (Int × Nat)) (w : World) (e : Ending) (w' : World) : Prop := e = .returned (.tuple #[]) ∧ ∃ l', l'.Perm l ∧ Hp (keyK K) l' ∧ HBI K B w' b v c l' ∧ Kept [g] w w'
theorem riseI {B : Nat} {b c g n cap : Nat} {l : List (Int × Nat)} (w : World) (h : HBI K B w b (.slice (some ⟨g, 0, none⟩) n cap) c l) (hn : l.length = n) (h1 : 1 ≤ n) (hU : Up (keyK K) l (n - 1)) :
  Calls Tryz.prog 145 #[.pointer (some ⟨b, 0, none⟩), .slice (some ⟨g, 0, none⟩) n cap] w (RisePostI K B b c g (.slice (some ⟨g, 0, none⟩) n cap) l w) := by
 have hlim : n ≤ 9223372036854775807 := by
  obtain ⟨A, cp, hv, hle, hmx⟩ := own_len h.row
  unfold maxLen at hmx
  omega
 have hm1 : ((n - 1 : Nat) : Int) = (n : Int) - 1 := by omega
 have HH := Lib.hid h
 have HU := Lib.hid hU
 have HN := Lib.hid hn
 have HM := Lib.hid hm1
 clear h hU hn hm1
 go_enter Tryz.func145, Tryz.ntmps145
 go_wp2
 go_loopw [4] (fun a wr => ∃ (k : Nat) (l' : List (Int × Nat)), k < n ∧ a = .int .i64 k ∧ Hid (l'.Perm l) ∧ Hid (Up (keyK K) l' k) ∧ Hid (HBI K B wr b (.slice (some ⟨g, 0, none⟩) n cap) c l') ∧ Hid (Kept [g] w wr)) (fun a _ => (intOf a).toNat)
 case atStart => exact ⟨n - 1, l, by omega, by rw [HM.out], Lib.hid (List.Perm.refl _), HU, HH, Lib.hid (Kept.refl _ _)⟩
 case round =>
  obtain ⟨k, l', hk, rfl, hP, hU, hH, hK⟩ := hrel
  have hln : l'.length = n := by rw [hP.out.length_eq, HN.out]
  by_cases h0 : 0 < k
  ·obtain ⟨q, hq⟩ : ∃ q, (k - 1) / 2 = q := ⟨_, rfl⟩
   have hqk : q < k := by omega
   obtain ⟨x, hx⟩ : ∃ x, l'[k]? = some x := ⟨l'[k], List.getElem?_eq_getElem (by omega)⟩
   obtain ⟨y, hy⟩ : ∃ y, l'[q]? = some y := ⟨l'[q], List.getElem?_eq_getElem (by omega)⟩
   have T0 := Lib.hid (hH.out.two rfl hx hy)
   have hqI : ((k : Int) - 1) / 2 = (q : Int) := by omega
   have hqn : q < n := by omega
   have hbl := hH.out.lt
   have hgl := (hH.out.glt rfl).2
   have HX := Lib.hid hx
   have HY := Lib.hid hy
   have HQ := Lib.hid hq
   have HLN := Lib.hid hln
   have ik : (1 : Int) ≤ (k : Int) := by omega
   have ik2 : (k : Int) < (n : Int) := by omega
   have iq : (q : Int) < (n : Int) := by omega
   have iq0 : (0 : Int) ≤ (q : Int) := by omega
   clear hx hy hq hln
   go_upto_region 3 with (fail)
   rw [hqI]
   have F0 := firstI x y wr.drew T0.out.f T0.out.ls T0.out.ox T0.out.oy
   have B0 := Lib.hid (below_drew wr)
   obtain ⟨t, ht⟩ : ∃ t, lexB (keyK K) x y = t := ⟨_, rfl⟩
   rw [ht] at F0
   have HT := Lib.hid ht
   have F0 := Lib.hid F0
   clear ht hqI
   go_region_held3 (fun W => W.cell? ⟨g, k * 2, none⟩ = some (.int .i64 x.1) ∧ W.cell? ⟨g, k * 2 + 1, none⟩ = some (.int .i64 (x.2 : Int)) ∧ W.cell? ⟨g, q * 2, none⟩ = some (.int .i64 y.1) ∧ W.cell? ⟨g, q * 2 + 1, none⟩ = some (.int .i64 (y.2 : Int)))
    (first | assumption | exact ⟨T0.out.x0, T0.out.x1, T0.out.y0, T0.out.y1⟩ | exact ⟨T1.out.x0, T1.out.x1, T1.out.y0, T1.out.y1⟩)
    ((go_at_call 168; (with_reducible refine F0.out.mono ?_); rintro e w' ⟨rfl, hB⟩; have T1 := Lib.hid (T0.out.step hbl hgl hB)))
   have H1 := Lib.hid (hH.out.later T1.out.bel)
   have K1 := Lib.hid (hK.out.later T1.out.bel)
   rcases (Bool.eq_false_or_eq_true t).symm with rfl | rfl
   ·go_wp2
    go_end0
    exact ⟨rfl, l', hP.out, hU.out.stop HX.out (by rw [HQ.out]; exact HY.out) HT.out, H1.out, K1.out⟩
   ·have x0 := T1.out.x0
    have x1 := T1.out.x1
    have y0 := T1.out.y0
    have y1 := T1.out.y1
    have fx := H1.out.gfz rfl
    have f0 := fx (k * 2)
    have f1 := fx (k * 2 + 1)
    have g0 := fx (q * 2)
    have g1 := fx (q * 2 + 1)
    have d0 : ¬ q * 2 = k * 2 + 1 := by omega
    have d1 : ¬ k * 2 = q * 2 + 1 := by omega
    have d2 : ¬ q * 2 + 1 = k * 2 := by omega
    have d3 : ¬ k * 2 + 1 = q * 2 := by omega
    have e0 : ¬ q = k := by omega
    have e1 : ¬ k = q := by omega
    have U2 : Hid (Up (keyK K) (swp l' k q x y) q) := Lib.hid (by
     have := hU.out.step h0 HX.out (by rw [HQ.out]; exact HY.out) HT.out
     rw [HQ.out] at this
     exact this)
    have P2 := Lib.hid ((swp_perm HX.out HY.out e1).trans hP.out)
    have hxm := List.mem_of_getElem? HX.out
    have hym := List.mem_of_getElem? HY.out
    have H2 := Lib.hid ((H1.out.put rfl (i := k) (p := y) (by rw [HLN.out]; exact hk) (H1.out.ok y hym) (H1.out.few y hym)).put rfl (i := q) (p := x) (by rw [List.length_set, HLN.out]; omega) (H1.out.ok x hxm) (H1.out.few x hxm))
    have K2 := Lib.hid ((K1.out.storedI g k y (by simp)).storedI g q x (by simp))
    clear fx T0 T1 F0 B0 hB hxm hym
    go_upto_region 4 with (fail)
    go_region
    go_wp2
    go_roundw
    case rel => exact ⟨q, swp l' k q x y, by omega, rfl, P2, U2, Lib.hid (H2.out.later (below_drew _)), Lib.hid (K2.out.later (below_drew _))⟩
    case measure => simp [intOf]; omega
  ·obtain rfl : k = 0 := by omega
   have hz : decide (((0 : Nat) : Int) > 0) = false := rfl
   go_wp2
   go_end0
   exact ⟨rfl, l', hP.out, hU.out.top, hH.out, hK.out⟩
end
end Go.Proofs.YthfkbbiaemmndaaGreatDoor
