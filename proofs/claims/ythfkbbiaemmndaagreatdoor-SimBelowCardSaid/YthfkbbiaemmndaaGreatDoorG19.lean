/- Texts about the program, one after the other: FAP, FBP, FCP, FDP, FEP. -/
import Derived.WalkKit
import Derived.ProofKit
import Derived.Handy
import Derived.Lib.Hide
import Derived.Deep.MidRow
import Derived.Deep.QuietTactic
import Derived.BigQuiet
import Derived.Deep.RegionHeld3
import Derived.Laws.Externs
import Derived.RangeFuncBox
import Derived.Deep.CutBlock
import Derived.Deep.LoopGhost
import Derived.WalkMore
import Derived.Below
import Derived.LaidMore
import Derived.Laws.AppendOwn
import Derived.Laws.CopyOwn
import Derived.IntWalk
import Derived.OwnWalk
import Derived.Deep.RegionLaw
import Derived.BigRegion
import Derived.Deep.DrawnRows
import Derived.Deep.Quiet
import Derived.Deep.RegionHeldLaw
import Derived.LoopIn
import Derived.LoopNIn
import Derived.TacticsInMore
import Derived.OwnWalkIn
import Derived.RangeFuncNested
import Derived.RangeFuncBound
import Derived.RangeFuncCalls
import Derived.RangeFuncLeaves
import Derived.RangeFuncWrites
import Derived.Shelf.Abstract
import Derived.StillTailTactics
import Derived.Lib.SliceRun
import Derived.Deep.AppendSrc
import Derived.Deep.Upon
import Derived.Deep.DeepAppendWide
import Derived.OrdersIn
import Derived.Sort.LoopGhostIn
import Derived.Shelf.SlGeneric
import Derived.Shelf.Spec.SlicesGrow
import Derived.Ground.Names8Prog
import Derived.Laws.OwnMore
import Derived.Laws.BytesString
import Derived.RangeFuncRecord
import Derived.MapKept
import Derived.Shelf.Small.Bits
import Derived.Shelf.Small.Strs
import Derived.Shelf.Small.Wraps
import Derived.Shelf.Strconv.Itoa0
import Derived.Shelf.LaysM
import Derived.Shelf.Strconv.Clone
import Derived.Shelf.Strings.Search1
import Derived.Shelf.Bits.Mul64
import Derived.Ground.Names2Prog
import Derived.Shelf.Slices.SearchI
import Derived.ChangeOld
import Derived.OpenShut
import Derived.Maps.AppendAt
import Derived.Test.YthfkbbiaemmndaaGreatDoorRows
import Derived.Test.YthfkbbiaemmndaaGreatDoorProg
import Derived.Test.YthfkbbiaemmndaaGreatDoorG3
import Derived.Test.YthfkbbiaemmndaaGreatDoorG4
import Derived.Test.YthfkbbiaemmndaaGreatDoorG6
import Derived.Test.YthfkbbiaemmndaaGreatDoorG8
import Derived.Test.YthfkbbiaemmndaaGreatDoorG18
set_option linter.unusedVariables false
set_option linter.unusedSimpArgs false
set_option maxRecDepth 100000
set_option maxHeartbeats 16000000
namespace Go.Proofs.YthfkbbiaemmndaaGreatDoor
section
open Go.RowKit
attribute [local go_sem ↓] Go.wp_at_zero Go.wp_at_succ
def clP (l : List Nat) : List Value := l.map (fun x => .pointer (some ⟨x, 0, none⟩))
theorem cl_lenP (l : List Nat) : (clP l).length = l.length := by simp [clP]
theorem cl_appP (a b : List Nat) : clP (a ++ b) = clP a ++ clP b := by simp [clP]
theorem cl_getP {l : List Nat} {i : Nat} {x : Nat} (h : l[i]? = some x) : (clP l)[i]? = some (.pointer (some ⟨x, 0, none⟩)) := by simp [clP, h]
theorem cl_get'P {l : List Nat} {i : Nat} {u : Value} (h : (clP l)[i]? = some u) : ∃ x, l[i]? = some x ∧ u = .pointer (some ⟨x, 0, none⟩) := by
 simp only [clP, List.getElem?_map, Option.map_eq_some_iff] at h
 obtain ⟨x, h1, h2⟩ := h
 exact ⟨x, h1, h2.symm⟩
theorem cl_oneP (l : List Nat) : ∀ u ∈ clP l, u.oneCell' = true := by
 intro u hu
 simp only [clP, List.mem_map] at hu
 obtain ⟨x, -, rfl⟩ := hu
 simp [Value.oneCell']
def RingP (B : Nat) (w : World) (v : Value) (N f : Nat) (l : List Nat) : Prop := (v = .slice none 0 0 ∧ N = 0 ∧ f = 0 ∧ l = []) ∨
 ∃ g cur, v = .slice (some ⟨g, 0, none⟩) N N ∧ B ≤ g ∧ w.heap[g]? = some (.cells cur 162 (0, 0)) ∧ N ≤ cur.size ∧ f < N ∧ l.length ≤ N ∧ ∀ i x, l[i]? = some x → cur[(f + i) % N]? = some (.pointer (some ⟨x, 0, none⟩))
structure FQP (B : Nat) (w : World) (b o : Nat) (v : Value) (N f : Nat) (l : List Nat) : Prop where
 hB : B ≤ b
 row : ∃ cur, w.heap[b]? = some (.cells cur 185 (0, 0))
 c0 : w.cell? ⟨b, o, none⟩ = some v
 c1 : w.cell? ⟨b, o + 1, none⟩ = some (.int .i64 (f : Int))
 c2 : w.cell? ⟨b, o + 2, none⟩ = some (.int .i64 (l.length : Int))
 ring : RingP B w v N f l
 lim : N ≤ 1000000
theorem cell_set_at {w : World} {p : Addr} {u v : Value} (h : w.cell? p = some u) : (w.setCell p v).cell? p = some v := by
 apply World.cell?_setCell_same; exact h
theorem cell_set_far {w : World} {p q : Addr} {v : Value} (h : p ≠ q) : (w.setCell p v).cell? q = w.cell? q := by
 apply World.cell?_setCell_other; exact h
def FrQ (b o : Nat) (w w' : World) : Prop := ∀ i, (i < o ∨ o + 3 ≤ i) → w'.cell? ⟨b, i, none⟩ = w.cell? ⟨b, i, none⟩
theorem FrQ.of {b o : Nat} {w w' : World} (h : Below w.heap.size w w') (hb : b < w.heap.size) : FrQ b o w w' := fun i _ => h.cell (p := ⟨b, i, none⟩) hb
theorem FrQ.kept {b o : Nat} {X : List Nat} {w w' : World} (h : Kept X w w') (hb : b < w.heap.size) (hx : b ∉ X) : FrQ b o w w' := fun i _ => h.cell hb hx
theorem FrQ.trans {b o : Nat} {w w' w'' : World} (h : FrQ b o w w') (k : FrQ b o w' w'') : FrQ b o w w'' := fun i hi => (k i hi).trans (h i hi)
theorem FrQ.setg {b o : Nat} {a w : World} (h : FrQ b o a w) (g i : Nat) (v : Value) (hg : g ≠ b) : FrQ b o a (w.setCell ⟨g, i, none⟩ v) := fun k hk => (cell_set_far (by intro e; injection e with e1 e2; exact hg e1)).trans (h k hk)
theorem FrQ.setb {b o : Nat} {a w : World} (h : FrQ b o a w) (i : Nat) (v : Value) (hi : o ≤ i ∧ i < o + 3) : FrQ b o a (w.setCell ⟨b, i, none⟩ v) := fun k hk => (cell_set_far (by intro e; injection e with e1 e2; omega)).trans (h k hk)
section
variable {B : Nat} {w w' : World} {b o N f : Nat} {v : Value} {l : List Nat}
theorem FQP.lt (h : FQP B w b o v N f l) : b < w.heap.size := World.block_lt_of_cell? w _ h.c0
theorem FQP.fz (h : FQP B w b o v N f l) (i : Nat) : w.frozen? ⟨b, i, none⟩ = false := by
 obtain ⟨cur, hc⟩ := h.row
 simp [World.frozen?, hc]
theorem FQP.blk_ge (h : FQP B w b o v N f l) : ∀ k ∈ blk b v, B ≤ k ∧ k < w.heap.size := by
 intro k hk
 simp only [blk, List.mem_cons] at hk
 rcases hk with rfl | hk
 ·exact ⟨h.hB, h.lt⟩
 ·rcases h.ring with ⟨rfl, _⟩ | ⟨g, cur, rfl, hg, hh, _⟩
  ·simp [Value.ownBlock] at hk
  ·simp [Value.ownBlock] at hk
   subst hk
   exact ⟨hg, (Array.getElem?_eq_some_iff.1 hh).1⟩
theorem RingP.kept {X : List Nat} (h : RingP B w v N f l) (hk : Kept X w w') (hx : ∀ k ∈ v.ownBlock.toList, k ∉ X) : RingP B w' v N f l := by
 rcases h with h | ⟨g, cur, rfl, hg, hh, r⟩
 ·exact .inl h
 ·exact .inr ⟨g, cur, rfl, hg, (hk.block g (Array.getElem?_eq_some_iff.1 hh).1 (hx g (by simp [Value.ownBlock]))).trans hh, r⟩
theorem FQP.kept {X : List Nat} (h : FQP B w b o v N f l) (hk : Kept X w w') (hx : ∀ k ∈ blk b v, k ∉ X) : FQP B w' b o v N f l :=
 ⟨h.hB, (by obtain ⟨cur, hc⟩ := h.row; exact ⟨cur, (hk.block b h.lt (hx b (by simp [blk]))).trans hc⟩), (hk.cell h.lt (hx b (by simp [blk]))).trans h.c0, (hk.cell h.lt (hx b (by simp [blk]))).trans h.c1, (hk.cell h.lt (hx b (by simp [blk]))).trans h.c2, h.ring.kept hk (fun k hm => hx k (by simp only [blk, List.mem_cons]; exact .inr hm)), h.lim⟩
theorem FQP.later (h : FQP B w b o v N f l) (hb : Below w.heap.size w w') : FQP B w' b o v N f l := h.kept (Kept.of [] hb) (by simp)
theorem FQP.len_le (h : FQP B w b o v N f l) : l.length ≤ N := by
 rcases h.ring with ⟨_, rfl, _, rfl⟩ | ⟨g, cur, _, _, _, _, _, h, _⟩
 ·exact Nat.le_refl _
 ·exact h
theorem FQP.open (h : FQP B w b o v N f l) (hN : 0 < N) : ∃ g cur, v = .slice (some ⟨g, 0, none⟩) N N ∧ B ≤ g ∧ w.heap[g]? = some (.cells cur 162 (0, 0)) ∧ N ≤ cur.size ∧ f < N ∧ (∀ i x, l[i]? = some x → cur[(f + i) % N]? = some (.pointer (some ⟨x, 0, none⟩))) ∧ b ≠ g := by
 rcases h.ring with ⟨_, rfl, _⟩ | ⟨g, cur, rfl, h1, h2, h3, h4, h5, h6⟩
 ·omega
 ·refine ⟨g, cur, rfl, h1, h2, h3, h4, h6, ?_⟩
  rintro rfl
  obtain ⟨cq, this⟩ := h.row
  rw [h2] at this
  simp only [Option.some.injEq, Obj.cells.injEq] at this
  exact absurd this.2.1 (by decide)
theorem FQP.ringv (h : FQP B w b o v N f l) : ∃ A, v = .slice A N N := by
 rcases h.ring with ⟨rfl, rfl, _⟩ | ⟨g, cur, rfl, _⟩
 ·exact ⟨_, rfl⟩
 ·exact ⟨_, rfl⟩
end
theorem len_anyP {B b o N f : Nat} {v : Value} {l : List Nat} (w : World) (h : FQP B w b o v N f l) : Calls Tryz.prog 127 #[.pointer (some ⟨b, o, none⟩)] w fun e w' => e = .returned (.int .i64 (l.length : Int)) ∧ w = w' := by
 have c2 := h.c2
 generalize l.length = n at *
 clear h
 go_enter Tryz.func127, Tryz.ntmps127
 go_wp2
 go_ret
 exact ⟨rfl, rfl⟩
theorem place_cP {b o N f : Nat} {A : Option Addr} (w : World) (c0 : w.cell? ⟨b, o, none⟩ = some (.slice A N N)) (c1 : w.cell? ⟨b, o + 1, none⟩ = some (.int .i64 (f : Int))) (hf : f < N) (hl : N ≤ 1000000) (i : Nat) (hi : i ≤ 1000000) : Calls Tryz.prog 148 #[.pointer (some ⟨b, o, none⟩), .int .i64 (i : Int)] w (Quiet (.int .i64 (((f + i) % N : Nat) : Int)) w) := by
 obtain ⟨s, hs⟩ : ∃ s, f + i = s := ⟨_, rfl⟩
 have hm := tmod_nat s N
 have he : (f : Int) + (i : Int) = (s : Int) := by omega
 have hs2 : s ≤ 2000000 := by omega
 rw [hs]
 have hz : (N : Int) ≠ 0 := by omega
 generalize s % N = r at *
 clear hs
 go_enter Tryz.func148, Tryz.ntmps148
 go_upto_region 1 with (fail)
 go_quiet (fail)
 go_wp2
 go_ret
 exact ⟨rfl, _, rfl⟩
theorem place_anyP {B b o N f : Nat} {v : Value} {l : List Nat} (w : World) (h : FQP B w b o v N f l) (i : Nat) (hN : 0 < N) (hi : i ≤ 1000000) : Calls Tryz.prog 148 #[.pointer (some ⟨b, o, none⟩), .int .i64 (i : Int)] w (Quiet (.int .i64 (((f + i) % N : Nat) : Int)) w) := by
 obtain ⟨g, cur, rfl, -, -, -, hf, -⟩ := h.open hN
 exact place_cP w h.c0 h.c1 hf h.lim i hi
end
section
open Go.RowKit
attribute [local go_sem ↓] Go.wp_at_zero Go.wp_at_succ
theorem infoTP : (Tryz.prog.info? 162).map (fun i => (i.zero, i.size, i.bytes)) = some (some (.pointer none), 1, 8) := by kernel_rfl
theorem grow_zeroP (w : World) : Calls Tryz.prog 169 #[.slice none 0 0, .int .i64 0] w fun e w' => e = .returned (.slice none 0 0) ∧ w' = w :=
 Any8.slices_Grow_room Tryz.growP none 0 0 0 w (by omega) (by omega) (by omega) (by omega)
def GrownToP (n : Nat) (w : World) (e : Ending) (w' : World) : Prop := ∃ cap, e = .returned (.slice (some ⟨w.heap.size, 0, none⟩) 0 cap) ∧ n ≤ cap ∧ cap ≤ 9223372036854775807 ∧ w'.ownsRow w.heap.size 162 1 (.slice (some ⟨w.heap.size, 0, none⟩) 0 cap) 0 [] ∧ Below w.heap.size w w'
theorem grow_someP (w : World) (n : Nat) (h0 : 0 < n) (h1 : n ≤ 4000000) : Calls Tryz.prog 169 #[.slice none 0 0, .int .i64 (n : Int)] w (GrownToP n w) := by
 obtain ⟨i0, hi, hz0, hz1, hz2⟩ := info_parts infoTP
 refine (Any8.slices_Grow_grow Tryz.growP i0 _ hi hz0 (by omega) none 0 0 n [] w (Nat.le_refl _) (by omega) (by rw [hz2]; omega) (by omega) (by simp) (fun _ => rfl) (fun a h => by cases h)).mono ?_
 rintro e w' ⟨rfl, rfl⟩
 have e25 : Tryz.growP_ren.t 25 = 162 := rfl
 have hg := grownCap_ge w (0 + n) 0 162
 have hm := grownCap_le_maxLen w (0 + n) 0 162 (by unfold maxLen; omega)
 refine ⟨grownCap w (0 + n) 0 162, rfl, by omega, by unfold maxLen at hm; omega, ?_, ?_⟩
 ·refine World.ownsRow_made w.drew _ _ (Nat.le_refl _) hm ?_
  rw [Nat.zero_add] at hg
  simp [Builtin.zeroCells, Value.cells, e25]
  omega
 ·exact Below.trans (below_drew w) (show Below w.drew.heap.size w.drew _ from (Below.refl _ _).alloc (Nat.le_refl _) _)
def RowAP (w : World) (a : Addr) (xs : List Nat) : Prop := ∀ (i : Nat) (x : Nat), xs[i]? = some x → w.cell? (a.add i) = some (.pointer (some ⟨x, 0, none⟩))
theorem RowAP.later {w w' : World} {a : Addr} {xs : List Nat} (h : RowAP w a xs) (hb : Below w.heap.size w w') : RowAP w' a xs := by
 intro i x hx
 have h0 := h i x hx
 exact (hb.cell (p := a.add i) (World.block_lt_of_cell? w _ h0)).trans h0
theorem RowAP.cells {w : World} {a : Addr} {xs : List Nat} (h : RowAP w a xs) : ∀ (j : Nat) (u : Value), (clP xs)[j]? = some u → w.cell? (a.add j) = some u := by
 intro j u hu
 obtain ⟨x, hx, rfl⟩ := cl_get'P hu
 exact h j x hx
def RowPP (w : World) (B n : Nat) (xs : List Nat) (e : Ending) (w' : World) : Prop := ∃ v, e = .returned v ∧ w'.ownsRow B 162 1 v n (clP xs) ∧ Below w.heap.size w w'
def TwoP (W0 : World) (t : Nat) (A1 A2 : Option Addr) (p q c1 c2 : Nat) (W : World) : Prop := W.cell? ⟨t, 0, none⟩ = some (.slice A1 p c1) ∧ W.cell? ⟨t, 1, none⟩ = some (.slice A2 q c2) ∧ Below W0.heap.size W0 W
theorem TwoP.step {W0 W W' : World} {t : Nat} {A1 A2 : Option Addr} {p q c1 c2 : Nat} (h : TwoP W0 t A1 A2 p q c1 c2 W) (hb : Below W.heap.size W W') : TwoP W0 t A1 A2 p q c1 c2 W' :=
 ⟨(hb.cell (p := ⟨t, 0, none⟩) (World.block_lt_of_cell? W _ h.1)).trans h.1, (hb.cell (p := ⟨t, 1, none⟩) (World.block_lt_of_cell? W ⟨t, 1, none⟩ h.2.1)).trans h.2.1, h.2.2.trans (hb.mono h.2.2.size)⟩
theorem TwoP.own {W0 W W' : World} {t n : Nat} {A1 A2 : Option Addr} {p q c1 c2 : Nat} {e : TypeId} {u : Value} {zs : List Value} (h : TwoP W0 t A1 A2 p q c1 c2 W) (ht : t < W0.heap.size) (hg : W.grownBy W' u.ownBlock) (hr : W.ownsRow W0.heap.size e 1 u n zs) : TwoP W0 t A1 A2 p q c1 c2 W' := by
 have B : Below W0.heap.size W0 W' := h.2.2.grown hg h.2.2.size (fun k e => (hr.lt k e).1)
 exact ⟨((B.cell (p := ⟨t, 0, none⟩) ht).trans (h.2.2.cell (p := ⟨t, 0, none⟩) ht).symm).trans h.1, ((B.cell (p := ⟨t, 1, none⟩) ht).trans (h.2.2.cell (p := ⟨t, 1, none⟩) ht).symm).trans h.2.1, B⟩
theorem concat_someP (w : World) {t p q c1 c2 : Nat} {a1 a2 : Addr} {xs ys : List Nat} (h1 : w.cell? ⟨t, 0, none⟩ = some (.slice (some a1) p c1)) (h2 : w.cell? ⟨t, 1, none⟩ = some (.slice (some a2) q c2)) (hx : RowAP w a1 xs) (hy : RowAP w a2 ys) (hp : xs.length = p) (hq : ys.length = q) (hn : p + q ≤ 2000000) (h0 : 0 < p + q) :
  Calls Tryz.prog 170 #[.slice (some ⟨t, 0, none⟩) 2 2] w (RowPP w w.heap.size (p + q) (xs ++ ys)) := by
 obtain ⟨i0, hi, hz0, hz1, hz2⟩ := info_parts infoTP
 obtain ⟨n, hpq⟩ : ∃ n, p + q = n := ⟨_, rfl⟩
 have hpqI : (p : Int) + (q : Int) = (n : Int) := by omega
 have TL := Lib.hid (World.block_lt_of_cell? w ⟨t, 0, none⟩ h1)
 have T0 := Lib.hid (show TwoP w t (some a1) (some a2) p q c1 c2 w from ⟨h1, h2, Below.refl _ _⟩)
 have HX := Lib.hid hx
 have HY := Lib.hid hy
 have G := Lib.hid (grow_someP w n (by omega) (by omega))
 have HP := Lib.hid hp
 have HQ := Lib.hid hq
 have HPQ := Lib.hid hpq
 have hn2 : n ≤ 2000000 := by omega
 have hp2 : p ≤ 2000000 := by omega
 have hq2 : q ≤ 2000000 := by omega
 clear hx hy hp hq h0 hn
 rw [hpq]
 clear hpq
 go_enter Tryz.func170, Tryz.ntmps170
 go_wp2
 go_loopw [3, 11] (fun s i wr => wr = w ∧ ((i = .int .i64 0 ∧ s = .int .i64 0) ∨ (i = .int .i64 1 ∧ s = .int .i64 (p : Int)) ∨ (i = .int .i64 2 ∧ s = .int .i64 (n : Int)))) (fun s i _ => 2 - (intOf i).toNat)
 case atStart => exact ⟨rfl, .inl ⟨rfl, rfl⟩⟩
 case round =>
  obtain ⟨hwr, hr⟩ := hrel
  obtain rfl : w = wr := hwr.symm
  rcases hr with ⟨rfl, rfl⟩ | ⟨rfl, rfl⟩ | ⟨rfl, rfl⟩
  ·go_wp2
   go_roundw
   case rel => first | exact ⟨rfl, .inr (.inl ⟨rfl, by simp⟩)⟩ | (simp; done)
   case measure => simp [intOf]
  ·go_wp2
   go_roundw
   case rel => first | exact ⟨rfl, .inr (.inr ⟨rfl, by simp⟩)⟩ | (simp; done)
   case measure => simp [intOf]
  ·clear h1 h2
   go_wp2_with (go_at_call 169; (with_reducible refine G.out.mono ?_); rintro e w1 ⟨cap, rfl, hcap, hcap2, hown, hB1⟩)
   have T1 := Lib.hid (T0.out.step hB1)
   have O1 := Lib.hid hown
   generalize hbase : w.heap.size = base at *
   have hbs : base ≤ w1.heap.size := by have := hB1.size; omega
   clear hown hB1 G
   go_loopw [6, 27] (fun v i wr => Hid (TwoP w t (some a1) (some a2) p q c1 c2 wr) ∧ Hid (base ≤ wr.heap.size) ∧ ((i = .int .i64 0 ∧ Hid (wr.ownsRow base 162 1 v 0 [])) ∨ (i = .int .i64 1 ∧ Hid (wr.ownsRow base 162 1 v p (clP xs))) ∨ (i = .int .i64 2 ∧ Hid (wr.ownsRow base 162 1 v n (clP xs ++ clP ys))))) (fun v i _ => 2 - (intOf i).toNat)
   case atStart => exact ⟨T1, Lib.hid hbs, .inl ⟨rfl, O1⟩⟩
   case round =>
    obtain ⟨hT, hb, hr⟩ := hrel
    clear T1 O1
    have x1 := hT.out.1
    have x2 := hT.out.2.1
    have hX := Lib.hid ((HX.out.later hT.out.2.2).cells)
    have hY := Lib.hid ((HY.out.later hT.out.2.2).cells)
    rcases hr with ⟨rfl, hO⟩ | ⟨rfl, hO⟩ | ⟨rfl, hO⟩
    ·go_wp2_with (at_builtin; refine wpList_append_own _ rfl _ _ 183 rfl base 162 i0 _ 1 8 Tryz.underlying183 hi hz0 hz1 hz2 rfl (by decide) u6 0 [] rfl hO.out a1 p c1 (clP xs) rfl (by rw [cl_lenP, HP.out, Nat.mul_one]) hX.out (cl_oneP xs) (by unfold maxLen; omega) (by omega) hb.out ?_; intro v' w2 hown' hgrow hnil')
     have hT2 := hT.out.own (by rw [hbase]; exact TL.out) hgrow (by rw [hbase]; exact hO.out)
     go_roundw
     case rel => exact ⟨Lib.hid hT2, Lib.hid (by have := hT2.2.2.size; omega), .inr (.inl ⟨rfl, Lib.hid (by simpa using hown')⟩)⟩
     case measure => simp [intOf]
    ·go_wp2_with (at_builtin; refine wpList_append_own _ rfl _ _ 183 rfl base 162 i0 _ 1 8 Tryz.underlying183 hi hz0 hz1 hz2 rfl (by decide) u6 p (clP xs) rfl hO.out a2 q c2 (clP ys) rfl (by rw [cl_lenP, HQ.out, Nat.mul_one]) hY.out (cl_oneP ys) (by unfold maxLen; omega) (by omega) hb.out ?_; intro v' w2 hown' hgrow hnil')
     have hT2 := hT.out.own (by rw [hbase]; exact TL.out) hgrow (by rw [hbase]; exact hO.out)
     go_roundw
     case rel => exact ⟨Lib.hid hT2, Lib.hid (by have := hT2.2.2.size; omega), .inr (.inr ⟨rfl, Lib.hid (by rw [HPQ.out] at hown'; exact hown')⟩)⟩
     case measure => simp [intOf]
    ·go_wp2
     go_ret
     exact ⟨_, rfl, by rw [cl_appP]; exact hO.out, hT.out.2.2⟩
theorem run_append_zeroP (w : World) (ty : TypeId) (A : Option Addr) (c : Nat) : (Builtin.append_ #[183, 183] ty #[.slice none 0 0, .slice A 0 c]).run Tryz.prog w = .ok (.slice none 0 0) w := by
 obtain ⟨i0, hi, hz0, hz1, hz2⟩ := info_parts infoTP
 cases A <;> simp [Builtin.append_, run_underlying (P := Tryz.prog) Tryz.underlying183, sizeOf, typeInfo, hi, Builtin.lenOf, Builtin.firstCells, loadCells, loadCellsFrom]
theorem wpList_app0P (w : World) {ops : Array Oper} {rest : List Oper} {o : Oper} {a : Act} {Q : Exit → Act → World → Prop} (hg : o.guard = none) (s x : Operand)
  (hop : o.op = Op.call { callee := Callee.builtin Builtin.append, args := #[s, x], argTypes := #[183, 183] }) (A : Option Addr) (c : Nat) (hs : a.eval s = .slice none 0 0) (hx : a.eval x = .slice A 0 c)
  (hK : wpList Tryz.prog ops Q rest (a.put o.dst (.slice none 0 0)) w) : wpList Tryz.prog ops Q (o :: rest) a w := by
 refine wpList_plain hg fun K hK' => ?_
 have hrun := run_append_zeroP w o.type A c
 unfold Oper.wp
 simp [execOp, hop, resolve, invoke, builtin, hs, hx, hrun, Result.andThen]
 exact hK' _ _ hK
theorem concat_noneP (w : World) {t c1 c2 : Nat} {A1 A2 : Option Addr} (h1 : w.cell? ⟨t, 0, none⟩ = some (.slice A1 0 c1)) (h2 : w.cell? ⟨t, 1, none⟩ = some (.slice A2 0 c2)) :
  Calls Tryz.prog 170 #[.slice (some ⟨t, 0, none⟩) 2 2] w (RowPP w w.heap.size 0 []) := by
 have G := Lib.hid (grow_zeroP w)
 have RZ := fun ty A c => run_append_zeroP w ty A c
 go_enter Tryz.func170, Tryz.ntmps170
 go_wp2
 go_loopw [3, 11] (fun s i wr => wr = w ∧ ((i = .int .i64 0 ∧ s = .int .i64 0) ∨ (i = .int .i64 1 ∧ s = .int .i64 0) ∨ (i = .int .i64 2 ∧ s = .int .i64 0))) (fun s i _ => 2 - (intOf i).toNat)
 case atStart => exact ⟨rfl, .inl ⟨rfl, rfl⟩⟩
 case round =>
  obtain ⟨hwr, hr⟩ := hrel
  obtain rfl : w = wr := hwr.symm
  rcases hr with ⟨rfl, rfl⟩ | ⟨rfl, rfl⟩ | ⟨rfl, rfl⟩
  ·go_wp2
   go_roundw
   case rel => first | exact ⟨rfl, .inr (.inl ⟨rfl, by simp⟩)⟩ | (simp; done)
   case measure => simp [intOf]
  ·go_wp2
   go_roundw
   case rel => first | exact ⟨rfl, .inr (.inr ⟨rfl, by simp⟩)⟩ | (simp; done)
   case measure => simp [intOf]
  ·go_wp2_with (go_at_call 169; (with_reducible refine G.out.mono ?_); rintro e w1 ⟨rfl, rfl⟩)
   go_loopw [6, 27] (fun v i wr => wr = w1 ∧ v = .slice none 0 0 ∧ ((i = .int .i64 0) ∨ (i = .int .i64 1) ∨ (i = .int .i64 2))) (fun v i _ => 2 - (intOf i).toNat)
   case atStart => exact ⟨rfl, rfl, .inl rfl⟩
   case round =>
    obtain ⟨hwr, rfl, hr⟩ := hrel
    obtain rfl : w1 = wr := hwr.symm
    rcases hr with rfl | rfl | rfl
    ·go_wp2_with (at_builtin; refine wpList_app0P _ rfl _ _ rfl A1 c1 rfl rfl ?_)
     go_roundw
     case rel => first | exact ⟨rfl, rfl, .inr (.inl rfl)⟩ | (simp; done)
     case measure => simp [intOf]
    ·go_wp2_with (at_builtin; refine wpList_app0P _ rfl _ _ rfl A2 c2 rfl rfl ?_)
     go_roundw
     case rel => first | exact ⟨rfl, rfl, .inr (.inr rfl)⟩ | (simp; done)
     case measure => simp [intOf]
    ·go_wp2
     go_ret
     exact ⟨_, rfl, World.ownsRow_nil _ _ _ _, Below.refl _ _⟩
end
section
open Go.RowKit
attribute [local go_sem ↓] Go.wp_at_zero Go.wp_at_succ
def CcP (w : World) (b o : Nat) (v : Value) (f : Nat) (W : World) : Prop := W.cell? ⟨b, o, none⟩ = some v ∧ W.cell? ⟨b, o + 1, none⟩ = some (.int .i64 (f : Int)) ∧ Below w.heap.size w W
theorem CcP.step {w W W' : World} {b o f : Nat} {v : Value} (h : CcP w b o v f W) (hb : Below W.heap.size W W') : CcP w b o v f W' :=
 ⟨(hb.cell (p := ⟨b, o, none⟩) (World.block_lt_of_cell? W _ h.1)).trans h.1, (hb.cell (p := ⟨b, o + 1, none⟩) (World.block_lt_of_cell? W ⟨b, o + 1, none⟩ h.2.1)).trans h.2.1, h.2.2.trans (hb.mono h.2.2.size)⟩
theorem ring_rowsP {w : World} {g N f : Nat} {cur : Array Value} {l : List Nat} (hg : w.heap[g]? = some (.cells cur 162 (0, 0))) (hl : l.length ≤ N) (hf : f < N) (h : ∀ i x, l[i]? = some x → cur[(f + i) % N]? = some (.pointer (some ⟨x, 0, none⟩))) :
  RowAP w ⟨g, f, none⟩ (l.take (N - f)) ∧ RowAP w ⟨g, 0, none⟩ (l.drop (N - f)) := by
 refine ⟨fun i x hx => ?_, fun i x hx => ?_⟩
 ·have hi : i < N - f := by
   have := (List.getElem?_eq_some_iff.1 hx).1
   simp at this; omega
  rw [List.getElem?_take, if_pos hi] at hx
  have := h i x hx
  rw [Nat.mod_eq_of_lt (by omega)] at this
  rw [add_none, cell_of_row w g (f + i) _ _ _ hg, this]
 ·rw [List.getElem?_drop] at hx
  have hi := (List.getElem?_eq_some_iff.1 hx).1
  have := h _ x hx
  rw [show f + (N - f + i) = N + i by omega, Nat.add_mod_left, Nat.mod_eq_of_lt (by omega)] at this
  rw [add_none, cell_of_row w g (0 + i) _ _ _ hg, Nat.zero_add, this]
def WcP (w : World) (x y : Value) : World := (w.alloc (.cells #[x, y] 183)).drew.drew.drew
theorem Wc_belowP (w : World) (x y : Value) : Below w.heap.size w (WcP w x y) ∧ (WcP w x y).heap.size = w.heap.size + 1 ∧ (WcP w x y).cell? ⟨w.heap.size, 0, none⟩ = some x ∧ (WcP w x y).cell? ⟨w.heap.size, 1, none⟩ = some y := by
 have hb : Below w.heap.size w (w.alloc (.cells #[x, y] 183)) := (Below.refl _ w).alloc (Nat.le_refl _) _
 have hs : (w.alloc (.cells #[x, y] 183)).heap.size = w.heap.size + 1 := by simp
 refine ⟨⟨hb.os, hb.tape, hb.output, hb.size, hb.block⟩, hs, ?_, ?_⟩
 ·exact cell_of_row (w.alloc (.cells #[x, y] 183)) w.heap.size 0 _ _ _ (heap_alloc_new w _)
 ·exact cell_of_row (w.alloc (.cells #[x, y] 183)) w.heap.size 1 _ _ _ (heap_alloc_new w _)
theorem things_anyP {B b o N f : Nat} {v : Value} {l : List Nat} (w : World) (h : FQP B w b o v N f l) : Calls Tryz.prog 147 #[.pointer (some ⟨b, o, none⟩)] w (RowPP w w.heap.size l.length l) := by
 have c0 := h.c0
 have c1 := h.c1
 have c2 := h.c2
 have hb := h.lt
 have hlim := h.lim
 rcases Nat.eq_zero_or_pos N with h0 | hN
 ·obtain ⟨rfl, rfl, rfl⟩ : v = .slice none 0 0 ∧ f = 0 ∧ l = [] := by
   rcases h.ring with ⟨h1, h2, h3, h4⟩ | ⟨g, cur, h1, h2, h3, h4, h5, h6⟩
   ·exact ⟨h1, h3, h4⟩
   ·omega
  obtain ⟨wb, ws, t0, t1⟩ := Wc_belowP w (.slice none 0 0) (.slice none 0 0)
  have CC := Lib.hid ((concat_noneP (WcP w (.slice none 0 0) (.slice none 0 0)) (t := w.heap.size) t0 t1).mono (R' := RowPP w w.heap.size 0 []) (by
   rintro e w' ⟨v, rfl, ho, hb⟩
   exact ⟨v, rfl, own_base ho (by omega), wb.trans (hb.mono (by omega))⟩))
  unfold WcP at CC
  clear wb ws t0 t1
  have C0 := Lib.hid (show CcP w b o (.slice none 0 0) 0 w from ⟨c0, c1, Below.refl _ _⟩)
  clear h
  go_enter Tryz.func147, Tryz.ntmps147
  go_upto_region 3 with (fail)
  go_region
  go_upto_region 4 with (fail)
  go_region
  go_upto_region 5 with (fail)
  have C1 := Lib.hid (((C0.out.step (below_drew _)).step (below_drew _)).step (below_drew _))
  go_region_held3 (fun W => W.cell? ⟨b, o, none⟩ = some (.slice none 0 0) ∧ W.cell? ⟨b, o + 1, none⟩ = some (.int .i64 0) ∧ Below w.heap.size w W)
   (first | assumption | exact C1.out | exact C9.out | exact (CcP.step (by assumption : CcP w b o (.slice none 0 0) 0 _) ((Below.refl _ _).alloc (Nat.le_refl _) _)))
   ((go_at_call 170; (with_reducible refine CC.out.mono ?_); rintro e w' ⟨v', rfl, ho, hB⟩; have HO := Lib.hid ho; have HB := Lib.hid hB; have C9 := Lib.hid (C0.out.step hB)))
  go_wp2
  go_ret
  exact ⟨v', rfl, HO.out, HB.out⟩
 ·obtain ⟨g, cur, rfl, hBg, hg, hc, hf, hi, hne⟩ := h.open hN
  have hle := h.len_le
  obtain ⟨R1, R2⟩ := ring_rowsP hg hle hf hi
  obtain ⟨p, hp⟩ : ∃ p, (l.take (N - f)).length = p := ⟨_, rfl⟩
  obtain ⟨q, hq⟩ : ∃ q, (l.drop (N - f)).length = q := ⟨_, rfl⟩
  obtain ⟨n, hn⟩ : ∃ n, l.length = n := ⟨_, rfl⟩
  have hp' := hp
  have hq' := hq
  rw [List.length_take] at hp'
  rw [List.length_drop] at hq'
  rw [hn] at c2 hle hp' hq' ⊢
  obtain ⟨e, he⟩ : ∃ e, f + p = e := ⟨_, rfl⟩
  have hmin : min ((f : Int) + (n : Int)) (N : Int) = (e : Int) := by omega
  have hwd : (n : Int) - ((e : Int) - (f : Int)) = (q : Int) := by omega
  have hpe : e - f = p := by omega
  have hNf : ¬ N = f := by omega
  have hfe : f ≤ e := by omega
  have heN : e ≤ N := by omega
  have hqN : q ≤ N := by omega
  have hpq : p + q = n := by omega
  obtain ⟨wb, ws, t0, t1⟩ := Wc_belowP w (.slice (some ⟨g, f, none⟩) p (N - f)) (.slice (some ⟨g, 0, none⟩) q N)
  have CC := Lib.hid (show Calls Tryz.prog 170 #[.slice (some ⟨w.heap.size, 0, none⟩) 2 2] (WcP w (.slice (some ⟨g, f, none⟩) p (N - f)) (.slice (some ⟨g, 0, none⟩) q N)) (RowPP w w.heap.size n l) from by
   have fin : ∀ e w', RowPP (WcP w (.slice (some ⟨g, f, none⟩) p (N - f)) (.slice (some ⟨g, 0, none⟩) q N)) (WcP w (.slice (some ⟨g, f, none⟩) p (N - f)) (.slice (some ⟨g, 0, none⟩) q N)).heap.size n l e w' → RowPP w w.heap.size n l e w' := by
    rintro e w' ⟨v, rfl, ho, hb⟩
    exact ⟨v, rfl, own_base ho (by omega), wb.trans (hb.mono (by omega))⟩
   by_cases hz : n = 0
   ·subst hz
    obtain rfl : p = 0 := by omega
    obtain rfl : q = 0 := by omega
    obtain rfl : l = [] := List.eq_nil_of_length_eq_zero hn
    exact (concat_noneP _ t0 t1).mono fin
   ·have := concat_someP _ t0 t1 (R1.later wb) (R2.later wb) hp hq (by omega) (by omega)
    rw [List.take_append_drop, hpq] at this
    exact this.mono fin)
  unfold WcP at CC
  clear wb ws t0 t1
  have C0 := Lib.hid (show CcP w b o (.slice (some ⟨g, 0, none⟩) N N) f w from ⟨c0, c1, Below.refl _ _⟩)
  clear h R1 R2 hp hq hn hi hp' hq'
  go_enter Tryz.func147, Tryz.ntmps147
  go_upto_region 3 with (fail)
  go_region
  go_upto_region 4 with (fail)
  go_region
  go_upto_region 5 with (fail)
  have C1 := Lib.hid (((C0.out.step (below_drew _)).step (below_drew _)).step (below_drew _))
  go_region_held3 (fun W => W.cell? ⟨b, o, none⟩ = some (.slice (some ⟨g, 0, none⟩) N N) ∧ W.cell? ⟨b, o + 1, none⟩ = some (.int .i64 (f : Int)) ∧ Below w.heap.size w W)
   (first | assumption | exact C1.out | exact C9.out | exact (CcP.step (by assumption : CcP w b o (.slice (some ⟨g, 0, none⟩) N N) f _) ((Below.refl _ _).alloc (Nat.le_refl _) _)))
   ((go_at_call 170; (with_reducible refine CC.out.mono ?_); rintro e w' ⟨v', rfl, ho, hB⟩; have HO := Lib.hid ho; have HB := Lib.hid hB; have C9 := Lib.hid (C0.out.step hB)))
  go_wp2
  go_ret
  exact ⟨v', rfl, HO.out, HB.out⟩
end
section
open Go.RowKit
attribute [local go_sem ↓] Go.wp_at_zero Go.wp_at_succ
structure RowOP (w : World) (A : Option Addr) (m c : Nat) (xs : List Nat) : Prop where
 len : xs.length = m
 nil : A = none → m = 0 ∧ c = 0
 row : ∀ a, A = some a → RowAP w a xs
theorem RowOP.later {w w' : World} {A : Option Addr} {m c : Nat} {xs : List Nat} (h : RowOP w A m c xs) (hb : Below w.heap.size w w') : RowOP w' A m c xs := ⟨h.len, h.nil, fun a e => (h.row a e).later hb⟩
theorem RowOP.own {w : World} {B m : Nat} {v : Value} {xs : List Nat} (h : w.ownsRow B 162 1 v m (clP xs)) : ∃ A c, v = .slice A m c ∧ RowOP w A m c xs := by
 have hl := h.1
 rw [cl_lenP, Nat.mul_one] at hl
 rcases h.2 with ⟨rfl, rfl⟩ | ⟨g, cap, cur, rfl, _, hg, _, _, _, ht⟩
 ·exact ⟨none, 0, rfl, ⟨hl, fun _ => ⟨rfl, rfl⟩, fun a e => by cases e⟩⟩
 ·refine ⟨_, cap, rfl, ⟨hl, fun e => (by cases e), fun a e => ?_⟩⟩
  cases e
  intro i x hx
  have := h.cells (g := g) rfl i _ (cl_getP hx)
  exact this
structure IsQP (w : World) (b o : Nat) (v0 : Value) (f0 z0 : Int) : Prop where
 row : ∃ cur, w.heap[b]? = some (.cells cur 185 (0, 0))
 c0 : w.cell? ⟨b, o, none⟩ = some v0
 c1 : w.cell? ⟨b, o + 1, none⟩ = some (.int .i64 f0)
 c2 : w.cell? ⟨b, o + 2, none⟩ = some (.int .i64 z0)
theorem IsQP.lt {w : World} {b o : Nat} {v0 : Value} {f0 z0 : Int} (h : IsQP w b o v0 f0 z0) : b < w.heap.size := World.block_lt_of_cell? w _ h.c0
theorem IsQP.fz {w : World} {b o : Nat} {v0 : Value} {f0 z0 : Int} (h : IsQP w b o v0 f0 z0) (i : Nat) : w.frozen? ⟨b, i, none⟩ = false := by
 obtain ⟨cur, hc⟩ := h.row
 simp [World.frozen?, hc]
theorem IsQP.kept {X : List Nat} {w w' : World} {b o : Nat} {v0 : Value} {f0 z0 : Int} (h : IsQP w b o v0 f0 z0) (hk : Kept X w w') (hx : b ∉ X) : IsQP w' b o v0 f0 z0 :=
 ⟨(by obtain ⟨cur, hc⟩ := h.row; exact ⟨cur, (hk.block b h.lt hx).trans hc⟩), (hk.cell h.lt hx).trans h.c0, (hk.cell h.lt hx).trans h.c1, (hk.cell h.lt hx).trans h.c2⟩
theorem IsQP.of {B w b o v N f l} (h : FQP B w b o v N f l) : IsQP w b o v f l.length := ⟨h.row, h.c0, h.c1, h.c2⟩
def LayPP (B b o N : Nat) (xs : List Nat) (w : World) (e : Ending) (w' : World) : Prop := e = .returned (.tuple #[]) ∧ ∃ v, FQP B w' b o v N 0 xs ∧ Kept [b] w w' ∧ FrQ b o w w' ∧ ∀ k ∈ blk b v, k = b ∨ w.heap.size ≤ k
theorem row_setP {w : World} {b i : Nat} {T : TypeId} {v : Value} (h : ∃ cur, w.heap[b]? = some (.cells cur T (0, 0))) : ∃ cur, (w.setCell ⟨b, i, none⟩ v).heap[b]? = some (.cells cur T (0, 0)) := by
 obtain ⟨cur, hc⟩ := h
 exact ⟨_, heap_setCell_same _ b i _ _ _ hc⟩
theorem row_setP2 {w : World} {b g i : Nat} {T : TypeId} {v : Value} (h : ∃ cur, w.heap[b]? = some (.cells cur T (0, 0))) (hg : g ≠ b) : ∃ cur, (w.setCell ⟨g, i, none⟩ v).heap[b]? = some (.cells cur T (0, 0)) := by
 obtain ⟨cur, hc⟩ := h
 exact ⟨cur, (Below.heap_setCell _ _ _ _ (by simpa using Ne.symm hg)).trans hc⟩
theorem set_o {w : World} {b i j : Nat} {u v : Value} (hc : w.cell? ⟨b, j, none⟩ = some u) (h : i ≠ j) : (w.setCell ⟨b, i, none⟩ v).cell? ⟨b, j, none⟩ = some u := (cell_set_far (by intro e; injection e with e1 e2; omega)).trans hc
theorem set_g {w : World} {b g i j : Nat} {u v : Value} (hc : w.cell? ⟨b, j, none⟩ = some u) (h : g ≠ b) : (w.setCell ⟨g, i, none⟩ v).cell? ⟨b, j, none⟩ = some u := (cell_set_far (by intro e; injection e with e1 e2; exact h e1)).trans hc
theorem three_setP {w : World} {b o : Nat} {v0 u0 : Value} {f0 z0 u1 u2 : Int} (h : IsQP w b o v0 f0 z0) :
  IsQP (((w.setCell ⟨b, o, none⟩ u0).setCell ⟨b, o + 1, none⟩ (.int .i64 u1)).setCell ⟨b, o + 2, none⟩ (.int .i64 u2)) b o u0 u1 u2 :=
 ⟨row_setP (row_setP (row_setP h.row)), set_o (set_o (cell_set_at h.c0) (by omega)) (by omega), set_o (cell_set_at (set_o h.c1 (by omega))) (by omega), cell_set_at (set_o (set_o h.c2 (by omega)) (by omega))⟩
theorem lay_midP {B b o N m cap : Nat} {xs : List Nat} {w w1 w2 : World} {v0 : Value} {f0 z0 : Int} (hi0 : IsQP w b o v0 f0 z0) (hB1 : Below w.heap.size w w1) (hgrow : w1.grownBy w2 (some w.heap.size))
  (hown : w2.ownsRow w.heap.size 162 1 (.slice (some ⟨w.heap.size, 0, none⟩) (0 + m) cap) (0 + m) ([] ++ clP xs)) (hcap : N ≤ cap) (hm : m ≤ N) (hN : 0 < N) (hN2 : N ≤ 1000000) (hB : B ≤ b) (hx : xs.length = m) (hBw : B ≤ w.heap.size) :
  (w2.cell? ⟨b, o, none⟩ = some v0 ∧ w2.cell? ⟨b, o + 1, none⟩ = some (.int .i64 f0) ∧ w2.cell? ⟨b, o + 2, none⟩ = some (.int .i64 z0) ∧ ∀ i, w2.frozen? ⟨b, i, none⟩ = false) ∧
  LayPP B b o N xs w (.returned (.tuple #[])) (((w2.setCell ⟨b, o, none⟩ (.slice (some ⟨w.heap.size, 0, none⟩) N N)).setCell ⟨b, o + 1, none⟩ (.int .i64 0)).setCell ⟨b, o + 2, none⟩ (.int .i64 (m : Int))) := by
 have hbl : b < w.heap.size := hi0.lt
 have k2 : Kept [] w w2 := ((Kept.of [w.heap.size] hB1).trans (kept_grown hgrow (by simp))).less (fun k hk => .inr (by simp at hk; omega))
 have hb2 := hi0.kept k2 (by simp)
 have h3 := three_setP (u0 := .slice (some ⟨w.heap.size, 0, none⟩) N N) (u1 := 0) (u2 := (m : Int)) hb2
 refine ⟨⟨hb2.c0, hb2.c1, hb2.c2, hb2.fz⟩, rfl, .slice (some ⟨w.heap.size, 0, none⟩) N N, ⟨hB, h3.row, h3.c0, h3.c1, ?_, ?_, hN2⟩, ?_, ?_, ?_⟩
 ·rw [hx]; exact h3.c2
 ·subst hx
  rcases hown.2 with ⟨h, _⟩ | ⟨g, cp, cur, h, hbg, hg, hnc, hcm, hcs, ht⟩
  ·simp at h
  ·simp only [Value.slice.injEq, Option.some.injEq, Addr.mk.injEq, and_true, true_and] at h
   obtain ⟨rfl, rfl⟩ := h
   have hne : w.heap.size ≠ b := by omega
   refine .inr ⟨w.heap.size, cur, rfl, by omega, ?_, by omega, hN, hm, ?_⟩
   ·rw [Below.heap_setCell _ _ _ _ (by simpa using hne), Below.heap_setCell _ _ _ _ (by simpa using hne), Below.heap_setCell _ _ _ _ (by simpa using hne)]
    exact hg
   ·intro i x hi
    have hil := (List.getElem?_eq_some_iff.1 hi).1
    have h1 := cl_getP hi
    rw [Nat.zero_add, Nat.mod_eq_of_lt (by omega)]
    rw [Nat.zero_add, List.nil_append] at ht
    rw [← ht, List.getElem?_take, if_pos (by omega), Array.getElem?_toList] at h1
    exact h1
 ·exact (((k2.mono (by simp)).set b _ _ (by simp)).set b _ _ (by simp)).set b _ _ (by simp)
 ·exact (((FrQ.kept k2 hbl (by simp)).setb _ _ (by omega)).setb _ _ (by omega)).setb _ _ (by omega)
 ·intro k hk
  simp [blk, Value.ownBlock] at hk
  omega
theorem lay_anyP {B b o N m c : Nat} {v0 : Value} {f0 z0 : Int} {A : Option Addr} {xs : List Nat} (w : World) (hi0 : IsQP w b o v0 f0 z0) (hB : B ≤ b) (hr : RowOP w A m c xs) (hm : m ≤ N) (hN : N ≤ 1000000) :
  Calls Tryz.prog 146 #[.pointer (some ⟨b, o, none⟩), .slice A m c, .int .i64 (N : Int)] w (LayPP B b o N xs w) := by
 have hbl : b < w.heap.size := hi0.lt
 rcases Nat.eq_zero_or_pos N with rfl | hN0
 ·obtain rfl : m = 0 := by omega
  obtain rfl : xs = [] := List.eq_nil_of_length_eq_zero hr.len
  have c0 := hi0.c0
  have c1 := hi0.c1
  have c2 := hi0.c2
  have fz := hi0.fz
  have f0' := fz o
  have f1' := fz (o + 1)
  have f2' := fz (o + 2)
  have e := three_setP (u0 := .slice none 0 0) (u1 := 0) (u2 := 0) hi0
  have k := (((Kept.refl [b] w).set b o (.slice none 0 0) (by simp)).set b (o + 1) (.int .i64 0) (by simp)).set b (o + 2) (.int .i64 0) (by simp)
  have fr := (((FrQ.of (Below.refl _ w) hbl (o := o)).setb o (.slice none 0 0) (by omega)).setb (o + 1) (.int .i64 0) (by omega)).setb (o + 2) (.int .i64 0) (by omega)
  have FR := Lib.hid fr
  have G := Lib.hid (grow_zeroP w)
  have E := Lib.hid e
  have K := Lib.hid k
  clear hr fz e k hi0 fr
  go_enter Tryz.func146, Tryz.ntmps146
  go_wp2_with (first
   | (go_at_call 169; (with_reducible refine G.out.mono ?_); rintro e w1 ⟨rfl, rfl⟩)
   | (at_builtin; refine wpList_app0P _ rfl _ _ rfl A c rfl rfl ?_))
  refine bodyPost_ret (results_none rfl _ _ _) rfl ?_
  refine ⟨rfl, .slice none 0 0, ⟨hB, E.out.row, E.out.c0, E.out.c1, E.out.c2, .inl ⟨rfl, rfl, rfl, rfl⟩, by omega⟩, K.out, FR.out, ?_⟩
  intro k hk
  simp [blk, Value.ownBlock] at hk
  exact .inl hk
 ·obtain ⟨i0, hi, hz0, hz1, hz2⟩ := info_parts infoTP
  have G := Lib.hid (grow_someP w N hN0 (by omega))
  have hBw := Lib.hid (show B ≤ w.heap.size by omega)
  have HR := Lib.hid hr
  have HI := Lib.hid hi0
  have hmN : m ≤ N := hm
  have hN1 : (N : Int) ≤ 1000000 := by omega
  clear hr hi0
  go_enter Tryz.func146, Tryz.ntmps146
  go_wp2_with (first
   | (go_at_call 169; (with_reducible refine G.out.mono ?_); rintro e w1 ⟨cap, rfl, hcap, hcap2, hown, hB1⟩; have R1 := Lib.hid (HR.out.later hB1))
   | (at_builtin; refine wpList_append_fits_any _ rfl _ _ 183 rfl w.heap.size 162 i0 1 Tryz.underlying183 hi hz1 w.heap.size 0 cap [] rfl hown A m c (clP xs) rfl (by rw [cl_lenP, R1.out.len, Nat.mul_one]) R1.out.nil (fun ad e => (R1.out.row ad e).cells) (cl_oneP xs) (by omega) ?_; intro w2 hown' hgrow;
       obtain ⟨⟨c0, c1, c2, fz⟩, hP⟩ := lay_midP HI.out hB1 hgrow hown' hcap hmN hN0 hN hB R1.out.len hBw.out;
       have f0' := fz o; have f1' := fz (o + 1); have f2' := fz (o + 2); have HP := Lib.hid hP; clear hP fz hown' hgrow))
  refine bodyPost_ret (results_none rfl _ _ _) rfl ?_
  exact HP.out
end
section
open Go.RowKit
attribute [local go_sem ↓] Go.wp_at_zero Go.wp_at_succ
theorem FQP.push {B b o N f : Nat} {v : Value} {l : List Nat} {w : World} (h : FQP B w b o v N f l) (hl : l.length < N) {g : Nat} (hv : v.ownBlock = some g) (x : Nat) :
  FQP B ((w.setCell ⟨g, (f + l.length) % N, none⟩ (.pointer (some ⟨x, 0, none⟩))).setCell ⟨b, o + 2, none⟩ (.int .i64 ((l ++ [x]).length : Int))) b o v N f (l ++ [x]) := by
 obtain ⟨g', cur, rfl, h1, h2, h3, h4, h5, h6⟩ := h.open (by omega)
 simp [Value.ownBlock] at hv
 subst hv
 have hm : (f + l.length) % N < N := Nat.mod_lt _ (by omega)
 have hgb : g' ≠ b := Ne.symm h6
 refine ⟨h.hB, row_setP (row_setP2 h.row hgb), set_o (set_g h.c0 hgb) (by omega), set_o (set_g h.c1 hgb) (by omega), cell_set_at (set_g h.c2 hgb), ?_, h.lim⟩
 ·refine .inr ⟨g', cur.setIfInBounds ((f + l.length) % N) (.pointer (some ⟨x, 0, none⟩)), rfl, h1, ?_, by simpa using h3, h4, by simp; omega, ?_⟩
  ·rw [Below.heap_setCell _ _ _ _ (by simpa using Ne.symm h6)]
   exact heap_setCell_same _ g' _ _ _ _ h2
  ·intro i y hy
   by_cases hi : i < l.length
   ·rw [List.getElem?_append_left hi] at hy
    have hne : (f + l.length) % N ≠ (f + i) % N := by
     intro e
     rcases Nat.lt_or_ge (f + i) N with ha | ha <;> rcases Nat.lt_or_ge (f + l.length) N with hb | hb
     ·rw [Nat.mod_eq_of_lt ha, Nat.mod_eq_of_lt hb] at e; omega
     ·rw [Nat.mod_eq_of_lt ha, Nat.mod_eq_sub_mod hb, Nat.mod_eq_of_lt (by omega)] at e; omega
     ·omega
     ·rw [Nat.mod_eq_sub_mod ha, Nat.mod_eq_sub_mod hb, Nat.mod_eq_of_lt (by omega), Nat.mod_eq_of_lt (by omega)] at e; omega
    rw [Array.getElem?_setIfInBounds_ne hne]
    exact h5 i y hy
   ·have hi2 : i = l.length := by
     have := (List.getElem?_eq_some_iff.1 hy).1
     simp at this; omega
    subst hi2
    simp at hy
    subst hy
    exact Array.getElem?_setIfInBounds_self_of_lt (by omega)
def PushPP (B b o N : Nat) (v : Value) (l : List Nat) (w : World) (e : Ending) (w' : World) : Prop := e = .returned (.tuple #[]) ∧ ∃ v' f', FQP B w' b o v' N f' l ∧ Kept (blk b v) w w' ∧ FrQ b o w w' ∧ ∀ k ∈ blk b v', k ∈ blk b v ∨ w.heap.size ≤ k
theorem push_roomP {B b o N f : Nat} {v : Value} {l : List Nat} (x : Nat) (w : World) (h : FQP B w b o v N f l) (hl : l.length < N) :
  Calls Tryz.prog 128 #[.pointer (some ⟨b, o, none⟩), .pointer (some ⟨x, 0, none⟩)] w (PushPP B b o N v (l ++ [x]) w) := by
 obtain ⟨g, cur, rfl, h1, h2, h3, h4, h5, h6⟩ := h.open (by omega)
 have hP := fun k => (h.later (below_drewN2 w k)).push hl (g := g) rfl x
 have PL := Lib.hid (fun W (hB : Below w.heap.size w W) => place_anyP W (h.later hB) l.length (by omega) (by have := h.lim; omega))
 have c0 := h.c0
 have c1 := h.c1
 have c2 := h.c2
 have fb2 := h.fz (o + 2)
 have hlim := h.lim
 have hmod : (f + l.length) % N < N := Nat.mod_lt _ (by omega)
 have hK : Kept (blk b (.slice (some ⟨g, 0, none⟩) N N)) w w := Kept.refl _ _
 have hll : ((l ++ [x]).length : Int) = (l.length : Int) + 1 := by simp
 rw [hll] at hP
 obtain ⟨r, hr⟩ : ∃ r, (f + l.length) % N = r := ⟨_, rfl⟩
 obtain ⟨n, hn⟩ : ∃ n, l.length = n := ⟨_, rfl⟩
 rw [hr] at hP PL hmod
 rw [hn] at hP PL c2 hl
 obtain ⟨u, hu⟩ : ∃ u, w.cell? ⟨g, r, none⟩ = some u := ⟨cur[r]'(by omega), by rw [cell_of_row w g r _ _ _ h2]; exact Array.getElem?_eq_getElem _⟩
 have fg : w.frozen? ⟨g, r, none⟩ = false := by simp [World.frozen?, h2]
 have HP := Lib.hid hP
 have hr1 : (r : Int) < (N : Int) := by omega
 have hbg : g ≠ b := Ne.symm h6
 have hbl := h.lt
 clear h hP h5 h2 hll hr hn hK
 go_enter Tryz.func128, Tryz.ntmps128
 go_upto_region 1 with (fail)
 go_region
 go_upto_region 3 with (fail)
 go_region_with (go_at_call 148; (with_reducible refine (PL.out _ (below_drew2 w)).mono ?_); rintro e w' ⟨rfl, mm, rfl⟩)
 all_goals
  go_wp2
  refine bodyPost_ret (results_none rfl _ _ _) rfl ?_
  refine ⟨rfl, _, f, HP.out _, ((Kept.of _ (below_drewN2 w _)).set g _ _ (by simp [blk, Value.ownBlock])).set b _ _ (by simp [blk]), ((FrQ.of (below_drewN2 w _) hbl).setg g _ _ hbg).setb _ _ (by omega), fun k hk => .inl hk⟩
theorem push_postP {B b o N2 g r n : Nat} {v v' : Value} {l : List Nat} {x : Nat} {w w1 w3 : World} (hb : b < w.heap.size) (hB : Below w.heap.size w w1) (hQ : FQP B w3 b o v' N2 0 l) (hK : Kept [b] w1 w3) (hF : FrQ b o w1 w3) (hgb : g ≠ b) (hX : ∀ k ∈ blk b v', k = b ∨ w1.heap.size ≤ k) (hl : l.length < N2) (hv : v'.ownBlock = some g) (hr : (0 + l.length) % N2 = r) (hn : l.length = n) (k : Nat) :
  PushPP B b o N2 v (l ++ [x]) w (.returned (.tuple #[])) (((w3.drewN k).setCell ⟨g, r, none⟩ (.pointer (some ⟨x, 0, none⟩))).setCell ⟨b, o + 2, none⟩ (.int .i64 ((n : Int) + 1))) := by
 have hP := (hQ.later (below_drewN2 w3 k)).push hl hv x
 have hll : ((l ++ [x]).length : Int) = (n : Int) + 1 := by rw [← hn]; simp
 rw [hll, hr] at hP
 have hs := hB.size
 refine ⟨rfl, v', 0, hP, ?_, ((((FrQ.of hB hb).trans hF).trans (FrQ.of (below_drewN2 w3 k) (Nat.lt_of_lt_of_le hb (Nat.le_trans hs hK.size)))).setg g _ _ hgb).setb _ _ (by omega), ?_⟩
 ·have k1 : Kept [b, g] w ((w3.drewN k).setCell ⟨g, r, none⟩ (.pointer (some ⟨x, 0, none⟩))) := ((((Kept.of [b, g] hB).trans (hK.mono (by simp))).later (below_drewN2 w3 k))).set g _ _ (by simp)
  refine (k1.set b _ _ (by simp)).less ?_
  intro j hj
  simp at hj
  rcases hj with rfl | rfl
  ·exact .inl (by simp [blk])
  ·have := hX j (by simp [blk, hv])
   rcases this with rfl | h
   ·exact .inl (by simp [blk])
   ·exact .inr (by omega)
 ·intro j hj
  rcases hX j hj with rfl | h
  ·exact .inl (by simp [blk])
  ·exact .inr (by omega)
theorem push_fullP {B b o N f : Nat} {v : Value} {l : List Nat} (x : Nat) (w : World) (h : FQP B w b o v N f l) (hl : l.length = N) (hN : N ≤ 10000) :
  Calls Tryz.prog 128 #[.pointer (some ⟨b, o, none⟩), .pointer (some ⟨x, 0, none⟩)] w (PushPP B b o (2 * N + 4) v (l ++ [x]) w) := by
 have hb := h.lt
 have hBb := h.hB
 obtain ⟨A0, rfl⟩ := h.ringv
 obtain ⟨N2, hN2⟩ : ∃ N2, 2 * N + 4 = N2 := ⟨_, rfl⟩
 have hw1 : IntKind.i64.wrap (IntKind.i64.wrap (2 * (N : Int)) + 4) = (N2 : Int) := by rw [IntKind.wrap_i64, IntKind.wrap_i64]; omega
 have TH := Lib.hid (fun W (hB : Below w.heap.size w W) => things_anyP W (h.later hB))
 have LY := Lib.hid (fun W (hB : Below w.heap.size w W) A c (hR : RowOP W A N c l) => lay_anyP W (B := B) (b := b) (o := o) (N := N2) (IsQP.of (h.later hB)) hBb hR (by omega) (by omega))
 have PL := Lib.hid (fun W v (hQ : FQP B W b o v N2 0 l) => place_anyP W hQ l.length (by omega) (by omega))
 have c0 := h.c0
 have c2 := h.c2
 have hn0 : 0 + l.length = N := by omega
 have hmod : N % N2 = N := Nat.mod_eq_of_lt (by omega)
 rw [hn0, hmod] at PL
 rw [hl] at c2 TH PL
 rw [hN2]
 have HL := Lib.hid hl
 clear h hl
 go_enter Tryz.func128, Tryz.ntmps128
 go_upto_region 1 with (fail)
 go_region
 go_upto_region 2 with (fail)
 go_region_with (first
  | (go_at_call 147; (with_reducible refine (TH.out _ (below_drew2 w)).mono ?_); rintro e w1 ⟨v1, rfl, ho, hB1⟩; obtain ⟨A1, cc1, rfl, hR1⟩ := RowOP.own ho; have HB1 := Lib.hid (Below.trans (below_drew2 w) hB1); have HR1 := Lib.hid hR1; have c2' := ((HB1.out.cell (p := ⟨b, o + 2, none⟩) hb)).trans c2; clear ho hB1 hR1)
  | (go_at_call 146; ((with_reducible refine (LY.out _ HB1.out _ _ HR1.out).mono ?_); rintro e w3 ⟨rfl, v3, hQ3, hK3, hF3, hX3⟩; have HF3 := Lib.hid hF3; have HQ3 := Lib.hid hQ3; have HK3 := Lib.hid hK3; have HX3 := Lib.hid hX3; clear hQ3 hK3 hX3 hF3)))
 all_goals
  have hNN : N < N2 := by omega
  obtain ⟨g, cur, rfl, h1, h2, h3, h4, h5, h6⟩ := HQ3.out.open (by omega)
  have d0 := HQ3.out.c0
  have d2 := HQ3.out.c2
  rw [HL.out] at d2
  have fb2 := HQ3.out.fz (o + 2)
  obtain ⟨u, hu⟩ : ∃ u, w3.cell? ⟨g, N, none⟩ = some u := ⟨cur[N]'(by omega), by rw [cell_of_row w3 g N _ _ _ h2]; exact Array.getElem?_eq_getElem _⟩
  have fg : w3.frozen? ⟨g, N, none⟩ = false := by simp [World.frozen?, h2]
  have hr1 : (N : Int) < (N2 : Int) := by omega
  have hbg : g ≠ b := Ne.symm h6
  have PP := Lib.hid (push_postP (v := .slice A0 N N) (x := x) (r := N) hb HB1.out HQ3.out HK3.out HF3.out hbg HX3.out (by rw [HL.out]; omega) (g := g) rfl (by rw [HL.out, Nat.zero_add, Nat.mod_eq_of_lt hNN]) HL.out)
  clear h5 h2
  go_upto_region 3 with (fail)
  go_region_with (go_at_call 148; (with_reducible refine (PL.out _ _ (HQ3.out.later (below_drew w3))).mono ?_); rintro e w' ⟨rfl, mm, rfl⟩)
 all_goals
  go_wp2
  refine bodyPost_ret (results_none rfl _ _ _) rfl ?_
  exact PP.out _
end
end Go.Proofs.YthfkbbiaemmndaaGreatDoor
