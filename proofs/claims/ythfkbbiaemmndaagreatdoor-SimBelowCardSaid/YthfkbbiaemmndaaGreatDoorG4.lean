/- Texts about the program, one after the other: Each1, One, Word, RWord, Tsk, TskR, Row, Spec, Find, Set0. -/
import Derived.WalkKit
import Derived.ProofKit
import Derived.Handy
import Derived.Lib.Hide
import Derived.Deep.MidRow
import Derived.Deep.QuietTactic
import Derived.BigQuiet
import Derived.Deep.RegionHeld3
import Derived.Laws.Externs
import Derived.RangeFuncBox
import Derived.Deep.CutBlock
import Derived.RangeFuncNested
import Derived.RangeFuncBound
import Derived.RangeFuncCalls
import Derived.RangeFuncLeaves
import Derived.RangeFuncWrites
import Derived.Shelf.Abstract
import Derived.OwnWalkIn
import Derived.TacticsInMore
import Derived.LoopNIn
import Derived.LoopIn
import Derived.Shelf.Small.Bits
import Derived.Shelf.Small.Strs
import Derived.Shelf.Small.Wraps
import Derived.Shelf.Strconv.Itoa0
import Derived.Shelf.LaysM
import Derived.Shelf.Strconv.Clone
import Derived.Shelf.Strings.Search1
import Derived.Shelf.Bits.Mul64
import Derived.Ground.Names2Prog
import Derived.Shelf.Slices.SearchI
import Derived.Test.YthfkbbiaemmndaaGreatDoorRows
import Derived.Test.YthfkbbiaemmndaaGreatDoorProg
import Derived.Maps.AppendAt
import Derived.Laws.AppendOwn
import Derived.Deep.Quiet
import Derived.Below
import Derived.ChangeOld
import Derived.OpenShut
import Derived.LaidMore
import Derived.Laws.BytesString
import Derived.Test.YthfkbbiaemmndaaGreatDoorG1
import Derived.Test.YthfkbbiaemmndaaGreatDoorG3
set_option linter.unusedVariables false
set_option linter.unusedSimpArgs false
set_option maxRecDepth 100000
set_option maxHeartbeats 16000000
namespace Go.Proofs.YthfkbbiaemmndaaGreatDoor
section
open Go.RowKit Go.Shelf
attribute [local go_sem] Oper.semAt_some
theorem round_any {m m' l l2 : Nat} {f : FuncId} {tmps : Array Value} {assign body : Code} {w : World} {R : Ending → World → Prop}
  (h : RoundIn Fence.wide m Tryz.prog l f tmps assign body w R) : RoundIn (Fence.wide.inRound l2) m' Tryz.prog l f tmps assign body w R := ⟨h.1, fun c cs _ => h.2 c cs (room_wide _)⟩
theorem own_up {β : Type} {B B' : Nat} {J : β → World → Prop} (h : OwnFrom B J) (hB : B ≤ B') : OwnFrom B' J := fun s X Y row hs hg hr => h s X Y row hs hg (fun r e => ⟨by have := (hr r e).1; omega, (hr r e).2⟩)
theorem TB.kept {W W' : World} {row : Option Nat} {b : Nat} {x : Tk} (h : TB W b x) (hg : W.grownBy W' row) (hr : ∀ r, row = some r → ∃ o : Obj, W.heap[r]? = some o ∧ o.isCells = false) : TB W' b x := ⟨(grownBy_keeps_cells hg hr h.is rfl).trans h.is⟩
theorem boxed_kept {W W' : World} {row : Option Nat} {b : Nat} {t : TypeId} {v : Value} (h : Boxed W b t v) (hg : W.grownBy W' row) (hr : ∀ r, row = some r → ∃ o : Obj, W.heap[r]? = some o ∧ o.isCells = false) : Boxed W' b t v := (grownBy_keeps_cells hg hr h rfl).trans h
theorem toksOf_all {ps : List Tk} (h : ∀ y ∈ ps, y.k ≠ 0) : toksOf ps = ps := by
 unfold toksOf
 induction ps with
 | nil => rfl
 | cons a r ih => rw [List.takeWhile_cons_of_pos (by simpa using h a (by simp)), ih (fun y hy => h y (List.mem_cons_of_mem _ hy))]
theorem toksOf_stop {q r : List Tk} {x : Tk} (h : ∀ y ∈ q, y.k ≠ 0) (hx : x.k = 0) : toksOf (q ++ [x] ++ r) = q := by
 unfold toksOf
 rw [List.append_assoc, List.takeWhile_append_of_pos (fun y hy => by simpa using h y hy)]
 simp [hx]
theorem toksOf_pre {q r : List Tk} (h : ∀ y ∈ q, y.k ≠ 0) : q <+: toksOf (q ++ r) := by
 unfold toksOf
 rw [List.takeWhile_append_of_pos (fun y hy => by simpa using h y hy)]
 exact ⟨_, rfl⟩
theorem toksOf_prefix (ps : List Tk) : toksOf ps <+: ps := List.takeWhile_prefix _
abbrev tokL (s : ByteArray) : List Tk := toksOf (pieceL s)
theorem each1_in (l Bn : Nat) (s : ByteArray) (J Jx : List Tk → World → Prop) (n : Nat) (hn1 : 5 ≤ n) (hs : s.size ≤ 100000) (W : World) (B : Nat) (hBW : B ≤ W.heap.size) (hO : OwnFrom W.heap.size J) (hOx : OwnFrom W.heap.size Jx)
  (hY : ∀ pre (x : Tk) W, J pre W → pre.length < 100001 → YieldAt Fence.wide (n - 1) Tryz.prog l #[tkV x] W fun e W' =>
   (e = .returned (.bool true) ∧ J (pre ++ [x]) W' ∧ Kp pre x W W' ∧ KeepsFrom B W W') ∨ (e = .returned (.bool false) ∧ Jx (pre ++ [x]) W' ∧ KeepsFrom B W W'))
  (hB : Boxed W Bn 9 (.string s)) (hJ : J [] W) :
  CallsIn Fence.wide n Tryz.prog 157 #[.func (.yield l) #[] #[], .pointer (some ⟨Bn, 0, none⟩)] W fun e W' => (∃ v, e = .returned v) ∧
   ((∃ ys, ys = tokL s ∧ J ys W') ∨ (∃ pre, pre <+: tokL s ∧ Jx pre W')) := by
 obtain ⟨W1, hW1, Y1, B1, J1, s1⟩ : ∃ W1, W.alloc (.cells #[.func (.yield l) #[] #[]] 214) = W1 ∧ Boxed W1 W.heap.size 214 (.func (.yield l) #[] #[]) ∧ Boxed W1 Bn 9 (.string s) ∧ J [] W1 ∧ W1.heap.size = W.heap.size + 1 :=
  ⟨_, rfl, Boxed.new _ _ _, Boxed.alloc hB _, hO.alloc _ hJ, by simp⟩
 have b1 := Boxed.cell B1
 have hw0 : W.heap.size ≤ W1.heap.size := by omega
 have h1n : 1 ≤ n := by omega
 have h1n2 : 1 ≤ n - 1 - 1 := by omega
 refine callsIn_of_wp_marks Tryz.func157 rfl trivial ?_ rfl
 simp only [Tryz.ntmps157, List.size_toArray, List.length_cons, List.length_nil, Nat.reduceAdd, Nat.reduceSub, Array.replicate_succ, Array.replicate_zero, List.push_toArray, List.append_toArray, List.nil_append, List.cons_append]
 gi_wp2_with (refine ⟨trivial, ?_⟩; gi_at_call 158; refine (callsIn_wide.2 (pieces_any _ _)).mono ?_; rintro e w' ⟨rfl, rfl⟩)
 clear hW1 b1
 obtain ⟨W2, hW2, Y2, B2, P2, J2, s2⟩ : ∃ W2, W1.alloc (.cells #[.string s] 9) = W2 ∧ Boxed W2 W.heap.size 214 (.func (.yield l) #[] #[]) ∧ Boxed W2 Bn 9 (.string s) ∧ Boxed W2 W1.heap.size 9 (.string s) ∧ J [] W2 ∧ W2.heap.size = W1.heap.size + 1 :=
  ⟨_, rfl, Boxed.alloc Y1 _, Boxed.alloc B1 _, Boxed.new _ _ _, hO.alloc _ J1, by simp⟩
 try rw [hW2]
 clear Y1 B1 J1 hB hJ
 rw [s1] at P2
 have hs2 : W.heap.size ≤ W2.heap.size := by omega
 clear s1 s2 hw0
 refine rangeO (gf := 172) (lb := #[.pointer (some ⟨W.heap.size + 1, 0, none⟩)]) rfl (enters_of Tryz.func172 (by kernel_rfl) rfl)
  (pieces1_seq (n - 1) (by omega) (W.heap.size + 1) s hs W2 P2) (Below.refl _ _) rfl
  (fun pre V => (∀ y ∈ pre, y.k ≠ 0) ∧ J pre V ∧ Boxed V W.heap.size 214 (.func (.yield l) #[] #[]))
  (fun c pre V => c = .ret ∧ ((∃ q x, pre = q ++ [x] ∧ x.k = 0 ∧ (∀ y ∈ q, y.k ≠ 0) ∧ J q V) ∨ ((∀ y ∈ pre, y.k ≠ 0) ∧ Jx pre V)))
  (fun pre X Y row hs hg hr => ⟨hs.1, own_up hO hs2 pre X Y row hs.2.1 hg hr, boxed_kept hs.2.2 hg (fun r e => (hr r e).2)⟩)
  (fun c pre X Y row hs hg hr => ⟨hs.1, hs.2.imp (fun ⟨q, x, e, hx, hq, hj⟩ => ⟨q, x, e, hx, hq, own_up hO hs2 q X Y row hj hg hr⟩) (fun ⟨hq, hj⟩ => ⟨hq, own_up hOx hs2 pre X Y row hj hg hr⟩)⟩)
  ⟨by simp, J2, Y2⟩
  (fun x a' V => ∃ Bx, TB V Bx x ∧ a' = { tmps := #[.func (.yield l) #[] #[], .pointer (some ⟨Bn, 0, none⟩), .pointer (some ⟨W.heap.size, 0, none⟩), .pointer (some ⟨Bx, 0, none⟩), .string s, .func (.func 172) #[] #[.pointer (some ⟨W.heap.size + 1, 0, none⟩)], tkV x, undef, undef, undef, undef, undef, undef, undef, undef, undef], defers := [] })
  (fun x a' _ X Y row hs hg hr => hs.imp fun Bx h => ⟨h.1.kept hg (fun r e => (hr r e).2), h.2⟩)
  ?assign ?body ?done ?stop
 case assign =>
  intro l2 pre x V K hi hK
  gi_wp2
  exact hK _ _ ((KeepsOthers.alloc _ _).from _) (Kp.alloc _ _) ⟨hi.1, own_later hO hi.2.1 ((Below.refl _ _).alloc (Nat.le_refl _) _), Boxed.alloc hi.2.2 _⟩ ⟨_, TB.new V x, rfl⟩
 case body =>
  rintro l2 pre x a' V ⟨hq, hj, hy2⟩ ⟨Bx, hT, rfl⟩ hlen
  have c0 := hT.c0
  by_cases hx0 : x.k = 0
  ·have t0 : ((x.k : Int) == 0) = true := by simp; omega
   have HX := Lib.hid hx0
   clear hx0
   gi_wp2
   refine ⟨fun _ h => (by cases h), ?_⟩
   gi_wp2
   exact ⟨KeepsFrom.refl _ _, rfl, .inl ⟨pre, x, rfl, HX.out, hq, hj⟩⟩
  ·have t0 : ((x.k : Int) == 0) = false := by simp; omega
   have HX := Lib.hid hx0
   have c1 := hT.c1
   have c2 := hT.c2
   have c3 := hT.c3
   have cy := Boxed.cell hy2
   have hq2 : Hid (∀ y ∈ pre ++ [x], y.k ≠ 0) := Lib.hid fun y hy => by
    rw [List.mem_append, List.mem_singleton] at hy
    rcases hy with hy | rfl
    ·exact hq y hy
    ·exact HX.out
   obtain ⟨fn, tmps, assign, body, hy, hR⟩ := hY pre x V hj hlen
   simp only [tkV] at hy
   clear hx0 hq
   gi_wp2
   refine (round_any hR).mono ?_
   rintro e V' (⟨rfl, hj', hk', hf'⟩ | ⟨rfl, hx', hf'⟩)
   ·gi_wp2
    exact ⟨keepsFrom_up hf' (by omega), hk', hq2.out, hj', hk'.fn hy2⟩
   ·gi_wp2
    exact ⟨keepsFrom_up hf' (by omega), rfl, .inr ⟨hq2.out, hx'⟩⟩
 case done =>
  rintro D xs V hD rfl ⟨hq, hj, hy2⟩ hK
  gi_wp2
  refine ⟨by simp, .inl ⟨_, _, rfl, run_takeDeferred hK, ?_⟩⟩
  exact ⟨_, results_none rfl _ _ _, ⟨_, rfl⟩, .inl ⟨_, (toksOf_all hq).symm, hO.putObj _ hj (by omega) hK rfl⟩⟩
 case stop =>
  rintro D c pre V hD hpre ⟨rfl, hc⟩ hK
  gi_wp2
  refine ⟨by simp, .inl ⟨_, _, rfl, run_takeDeferred hK, ?_⟩⟩
  refine ⟨_, results_none rfl _ _ _, ⟨_, rfl⟩, ?_⟩
  obtain ⟨r, hr⟩ := hpre
  rcases hc with ⟨q, x, rfl, hx, hq, hj⟩ | ⟨hq, hj⟩
  ·exact .inl ⟨q, by rw [tokL, ← hr, toksOf_stop hq hx], hO.putObj _ hj (by omega) hK rfl⟩
  ·exact .inr ⟨pre, by rw [tokL, ← hr]; exact toksOf_pre hq, hOx.putObj _ hj (by omega) hK rfl⟩
theorem each1_seq (n : Nat) (hn1 : 5 ≤ n) (Bn : Nat) (s : ByteArray) (hs : s.size ≤ 100000) (w : World) (hB : Boxed w Bn 9 (.string s)) :
  SeqO n 157 #[.pointer (some ⟨Bn, 0, none⟩)] (fun xs => xs = tokL s) (fun pre => pre <+: tokL s) 100001 w :=
 fun l J Jx W hW hJ hJx hY hJ0 => each1_in l Bn s J Jx n hn1 hs W W.heap.size (Nat.le_refl _) hJ hJx hY ((hW.block Bn (Boxed.lt hB)).trans hB) hJ0
end
section
open Go.RowKit
def oneT (i : Nat) (c : UInt8) (r : List UInt8) : Tk := if kind c = 0 then ⟨0, 0, [], 0⟩ else tkOf i c r
end
section
open Go.RowKit Go.Shelf
attribute [local go_sem] Oper.semAt_some
def wordB (s : ByteArray) : Bool := match tokL s with
 | [] => false
 | x :: _ => decide (x.k = 1) && decide (x.t.length = s.size)
theorem word_any (s : ByteArray) (w : World) (hs : s.size ≤ 100000) :
  Calls Tryz.prog 118 #[.string s] w fun e w' => e = .returned (.bool (wordB s)) ∧ Below w.heap.size w w' := by
 refine (callsIn_wide (n := 9)).1 ?_
 refine callsIn_of_wp_marks Tryz.func118 rfl trivial ?_ rfl
 simp only [Tryz.ntmps118, List.size_toArray, List.length_cons, List.length_nil, Nat.reduceAdd, Nat.reduceSub, Array.replicate_succ, Array.replicate_zero, List.push_toArray, List.append_toArray, List.nil_append, List.cons_append]
 obtain ⟨W1, hW1, S1, R1, b1, s1⟩ : ∃ W1, (w.alloc (.cells #[.string s] 9)).alloc (.cells #[.bool false] 4) = W1 ∧ Boxed W1 w.heap.size 9 (.string s) ∧ Boxed W1 (w.heap.size + 1) 4 (.bool false) ∧ Below w.heap.size w W1 ∧ W1.heap.size = w.heap.size + 2 :=
  ⟨_, rfl, Boxed.alloc (Boxed.new _ _ _) _, (by have := Boxed.new (w.alloc (.cells #[.string s] 9)) 4 (.bool false); rwa [World.size_alloc] at this), ((Below.refl _ _).alloc (Nat.le_refl _) _).alloc (by simp) _, by simp⟩
 have c1 := S1.cell
 gi_wp2_with (refine ⟨trivial, ?_⟩; gi_at_call 138; refine (callsIn_wide.2 (each_seq_any _ _)).mono ?_; rintro e w' ⟨rfl, rfl⟩)
 obtain ⟨W2, hW2, S2, R2, P2, B2, s2⟩ : ∃ W2, W1.alloc (.cells #[.string s] 9) = W2 ∧ Boxed W2 w.heap.size 9 (.string s) ∧ Boxed W2 (w.heap.size + 1) 4 (.bool false) ∧ Boxed W2 W1.heap.size 9 (.string s) ∧ Below w.heap.size w W2 ∧ w.heap.size + 2 < W2.heap.size :=
  ⟨_, rfl, Boxed.alloc S1 _, Boxed.alloc R1 _, Boxed.new _ _ _, b1.trans ((Below.refl _ _).alloc b1.size _), by simp; omega⟩
 rw [s1] at P2
 (try rw [hW2])
 clear hW1 hW2 S1 R1 b1 c1 s1
 have hw2 := B2.size
 refine rangeO (gf := 157) (lb := #[.pointer (some ⟨w.heap.size + 2, 0, none⟩)]) rfl (enters_of Tryz.func157 (by kernel_rfl) rfl)
  (each1_seq (9 - 1) (by omega) (w.heap.size + 2) s hs W2 P2) (Below.refl _ _) rfl
  (fun pre V => (pre = [] ∧ Boxed V w.heap.size 9 (.string s) ∧ Boxed V (w.heap.size + 1) 4 (.bool false)) ∧ Below w.heap.size w V)
  (fun c pre V => (c = .ret ∧ ∃ x, pre = [x] ∧ Boxed V (w.heap.size + 1) 4 (.bool (decide (x.k = 1) && decide (x.t.length = s.size)))) ∧ Below w.heap.size w V)
  (OwnFrom.and (fun pre X Y row h hg hr => ⟨h.1, boxed_kept h.2.1 hg (fun r e => (hr r e).2), boxed_kept h.2.2 hg (fun r e => (hr r e).2)⟩) (ownFrom_below (Nat.le_refl _) hw2))
  (fun c => OwnFrom.and (fun pre X Y row h hg hr => ⟨h.1, h.2.imp fun x h => ⟨h.1, boxed_kept h.2 hg (fun r e => (hr r e).2)⟩⟩) (ownFrom_below (Nat.le_refl _) hw2))
  ⟨⟨rfl, S2, R2⟩, B2⟩
  (fun x a' V => ∃ Bx, TB V Bx x ∧ a' = { tmps := #[.string s, .pointer (some ⟨w.heap.size, 0, none⟩), .pointer (some ⟨w.heap.size + 1, 0, none⟩), .pointer (some ⟨Bx, 0, none⟩), .string s, .func (.func 157) #[] #[.pointer (some ⟨w.heap.size + 2, 0, none⟩)], tkV x, undef, undef, undef, undef, undef, undef, undef, undef, undef, undef, undef], defers := [] })
  (fun x a' _ X Y row hs hg hr => hs.imp fun Bx h => ⟨h.1.kept hg (fun r e => (hr r e).2), h.2⟩)
  ?assign ?body ?done ?stop
 case assign =>
  rintro l2 pre x V K ⟨⟨hp, hS, hR⟩, hB⟩ hK
  gi_wp2
  exact hK _ _ ((KeepsOthers.alloc _ _).from _) (Kp.alloc _ _) ⟨⟨hp, Boxed.alloc hS _, Boxed.alloc hR _⟩, hB.trans ((Below.refl _ _).alloc hB.size _)⟩ ⟨_, TB.new V x, rfl⟩
 case body =>
  rintro l2 pre x a' V ⟨⟨rfl, hS, hR⟩, hB⟩ ⟨Bx, hT, rfl⟩ hlen
  have c0 := hT.c0
  have c2 := hT.c2
  have cs := hS.cell
  have cr := hR.cell
  have fr := hR.frozen
  have hbn := bs_size x.t
  by_cases hk : x.k = 1
  ·have t0 : ((x.k : Int) == 1) = true := by simp; omega
   by_cases hl : x.t.length = s.size
   ·have t1 : ((x.t.length : Int) == (s.size : Int)) = true := by simp; omega
    have HX := Lib.hid (And.intro hk hl)
    clear hk hl
    gi_wp2
    exact ⟨(KeepsOthers.setCell _ _ _).from _, ⟨rfl, x, rfl, by rw [HX.out.1, HX.out.2]; simpa using hR.set (.bool true)⟩, hB.setCell (p := ⟨w.heap.size + 1, 0, none⟩) (Nat.le_succ _) _⟩
   ·have t1 : ((x.t.length : Int) == (s.size : Int)) = false := by simp; omega
    have HX := Lib.hid (And.intro hk hl)
    clear hk hl
    gi_wp2
    exact ⟨(KeepsOthers.setCell _ _ _).from _, ⟨rfl, x, rfl, by rw [HX.out.1]; simpa [HX.out.2] using hR.set (.bool false)⟩, hB.setCell (p := ⟨w.heap.size + 1, 0, none⟩) (Nat.le_succ _) _⟩
  ·have t0 : ((x.k : Int) == 1) = false := by simp; omega
   have HX := Lib.hid hk
   clear hk
   gi_wp2
   exact ⟨(KeepsOthers.setCell _ _ _).from _, ⟨rfl, x, rfl, by simpa [HX.out] using hR.set (.bool false)⟩, hB.setCell (p := ⟨w.heap.size + 1, 0, none⟩) (Nat.le_succ _) _⟩
 case done =>
  rintro D xs V hD hS ⟨⟨rfl, _, hR⟩, hB⟩ hK
  have cr := hR.cell
  have fr := hR.frozen
  have hwb : wordB s = false := by unfold wordB; rw [← hS]
  have HW := Lib.hid hwb
  clear hwb hS
  gi_wp2
  have hK' := (KeepsOthers.setCell V ⟨w.heap.size + 1, 0, none⟩ (.bool false)).same D _ hK rfl
  refine ⟨by simp, .inl ⟨_, _, rfl, run_takeDeferred hK', ?_⟩⟩
  have hc := cell_kept (hR.set (.bool false)).cell (grownBy_putObj' _ D (.deferred none)) (fun r e => by cases e; exact ⟨_, hK', rfl⟩)
  refine ⟨.bool false, ?_, by rw [HW.out], (hB.setCell (p := ⟨w.heap.size + 1, 0, none⟩) (Nat.le_succ _) _).trans (belowK_b (w := w) (Nat.le_refl _) _ D _ _ (by omega) hK' rfl rfl)⟩
  simp [results, Tryz.f118, go_sem, hc]
 case stop =>
  rintro D c pre V hD hpre ⟨⟨rfl, x, rfl, hR⟩, hB⟩ hK
  gi_wp2
  refine ⟨by simp, .inl ⟨_, _, rfl, run_takeDeferred hK, ?_⟩⟩
  have hc := cell_kept hR.cell (grownBy_putObj' _ D (.deferred none)) (fun r e => by cases e; exact ⟨_, hK, rfl⟩)
  obtain ⟨r, hr⟩ := hpre
  refine ⟨.bool (decide (x.k = 1) && decide (x.t.length = s.size)), ?_, by rw [wordB, ← hr]; rfl, hB.trans (belowK_b (w := w) (Nat.le_refl _) _ D _ _ (by omega) hK rfl rfl)⟩
  simp [results, Tryz.f118, go_sem, hc]
end
section
open Go.RowKit
theorem pcs_bound : ∀ (n a : Nat) (l : List UInt8), l.length ≤ n → ∀ y ∈ pcs a l, a ≤ y.at' ∧ y.at' + y.t.length ≤ a + l.length := by
 intro n
 induction n with
 | zero => intro a l h y hy; have : l = [] := List.eq_nil_of_length_eq_zero (by omega); subst this; rw [pcs_nil] at hy; simp at hy
 | succ n ih =>
   intro a l h y hy
   cases l with
   | nil => rw [pcs_nil] at hy; simp at hy
   | cons c r =>
     simp only [List.length_cons] at h ⊢
     have hn := noteLen_le r
     have hr := runLen_le (kind c) r
     by_cases hb : blank c = true
     ·rw [pcs_blank hb] at hy
      have := ih (a + 1) r (by omega) y hy
      omega
     ·by_cases h35 : c.toNat = 35
      ·rw [pcs_hash h35] at hy
       have := ih (a + 1 + noteLen r) (r.drop (noteLen r)) (by simp; omega) y hy
       simp at this
       omega
      ·by_cases hk : kind c = 0
       ·rw [pcs_none (by simpa using hb) h35 hk, List.mem_singleton] at hy
        subst hy
        simp
       ·rw [pcs_tok hk, List.mem_cons] at hy
        rcases hy with rfl | hy
        ·simp only [tkOf, List.length_cons, List.length_take]; omega
        ·have := ih (a + 1 + runLen (kind c) r) (r.drop (runLen (kind c) r)) (by simp; omega) y hy
         simp at this
         omega
theorem wordB_late {s : ByteArray} {a : Nat} {l : List UInt8} (h : pieceL s = pcs a l) (hl : l.length < s.size) : wordB s = false := by
 unfold wordB tokL
 cases hp : toksOf (pieceL s) with
 | nil => rfl
 | cons x r =>
   have hx : x ∈ pcs a l := by
    rw [← h]
    exact (toksOf_prefix _).subset (by rw [hp]; simp)
   have := pcs_bound _ a l (Nat.le_refl _) x hx
   have h2 : ¬ x.t.length = s.size := by omega
   simp [h2]
theorem wordB_cons {s : ByteArray} {c : UInt8} {r : List UInt8} (h : s.data.toList = c :: r) : wordB s = (decide ((oneT 0 c r).k = 1) && decide ((oneT 0 c r).t.length = s.size)) := by
 have hs : s.size = r.length + 1 := by rw [Lib.size_eq, h]; rfl
 by_cases hk : kind c = 0
 ·have hf : (decide ((oneT 0 c r).k = 1) && decide ((oneT 0 c r).t.length = s.size)) = false := by rw [oneT, if_pos hk]; simp
  rw [hf]
  by_cases hb : blank c = true
  ·exact wordB_late (a := 1) (l := r) (by rw [pieceL, h, pcs_blank hb]) (by omega)
  ·by_cases h35 : c.toNat = 35
   ·exact wordB_late (a := 0 + 1 + noteLen r) (l := r.drop (noteLen r)) (by rw [pieceL, h, pcs_hash h35]) (by rw [List.length_drop]; omega)
   ·rw [wordB, tokL, pieceL, h, pcs_none (by simpa using hb) h35 hk]
    rfl
 ·have : tokL s = tkOf 0 c r :: toksOf (pcs (0 + 1 + runLen (kind c) r) (r.drop (runLen (kind c) r))) := by
   rw [tokL, pieceL, h, pcs_tok hk, toksOf, List.takeWhile_cons_of_pos (by simp [tkOf, hk])]
   rfl
  rw [wordB, this, oneT, if_neg hk]
end
section
open Go.RowKit
structure Ts where
 n : ByteArray
 c : Int
 t : Int
 d : Int
 j : Int
 q : Int
 p : Int
deriving DecidableEq
abbrev tsV (x : Ts) : Value := .agg #[.string x.n, .int .i64 x.c, .int .i64 x.t, .int .i64 x.d, .int .i64 x.j, .int .i64 x.q, .int .i64 x.p]
def in64 (n : Int) : Prop := -9223372036854775808 ≤ n ∧ n ≤ 9223372036854775807
structure TsW (x : Ts) : Prop where
 n : x.n.size ≤ 9223372036854775807
 c : in64 x.c
 t : in64 x.t
 d : in64 x.d
 j : in64 x.j
 q : in64 x.q
 p : in64 x.p
def inB (n lo hi : Int) : Bool := decide (lo ≤ n ∧ n ≤ hi)
def namedB (x : Ts) : Bool := decide (x.n.size ≤ 32) && wordB x.n
def rangedB (x : Ts) : Bool := inB x.c 1 2147483647 && (inB x.t 1 2147483647 && (inB x.d 1 2147483647 && (inB x.q 1 2147483647 && (inB x.j 0 2147483647 && inB x.p 1 1048576))))
def overB (x : Ts) : Bool := decide (x.q > x.c ∨ x.c + x.j > x.d ∨ x.d > x.t)
def checkE (x : Ts) : Int := if namedB x && rangedB x then (if overB x then 12 else 0) else 11
theorem bcell {W w1 : World} (hb : Below W.heap.size W w1) : (∀ b o, b < W.heap.size → w1.cell? ⟨b, o, none⟩ = W.cell? ⟨b, o, none⟩) ∧ (∀ b o, b < W.heap.size → w1.frozen? ⟨b, o, none⟩ = W.frozen? ⟨b, o, none⟩) :=
 ⟨fun b o h => hb.cell (p := ⟨b, o, none⟩) h, fun b o h => hb.frozen (p := ⟨b, o, none⟩) h⟩
theorem inB_no {n lo hi : Int} (h : ¬ (lo ≤ n ∧ n ≤ hi)) : inB n lo hi = false := by simp [inB]; omega
theorem inB_yes {n lo hi : Int} (h : lo ≤ n ∧ n ≤ hi) : inB n lo hi = true := by simp [inB]; omega
theorem inB_iff {n lo hi : Int} : inB n lo hi = true ↔ lo ≤ n ∧ n ≤ hi := by simp [inB]
theorem named_any (x : Ts) (w : World) : Calls Tryz.prog 93 #[tsV x] w fun e w' => e = .returned (.bool (namedB x)) ∧ Below w.heap.size w w' := by
 have b0 : Below w.heap.size w (w.alloc (.cells #[.string x.n, .int .i64 x.c, .int .i64 x.t, .int .i64 x.d, .int .i64 x.j, .int .i64 x.q, .int .i64 x.p] 26)) := (Below.refl _ _).alloc (Nat.le_refl _) _
 by_cases h : x.n.size ≤ 32
 ·have e : namedB x = wordB x.n := by simp [namedB, h]
  rw [e]
  have W := Lib.hid (fun w => word_any x.n w (by omega))
  have h' : (x.n.size : Int) ≤ 32 := by omega
  generalize wordB x.n = b at *
  clear e
  go_enter Tryz.func93, Tryz.ntmps93
  go_wp2_with (go_at_call 118; (with_reducible refine (W.out _).mono ?_); rintro e w2 ⟨rfl, h2⟩)
  go_ret
  exact ⟨rfl, b0.trans (h2.mono b0.size)⟩
 ·have e : namedB x = false := by simp [namedB, h]
  rw [e]
  have h' : ¬ (x.n.size : Int) ≤ 32 := by omega
  have h'' : decide ((x.n.size : Int) ≤ 32) = false := decide_eq_false (by omega)
  clear e
  go_enter Tryz.func93, Tryz.ntmps93
  go_wp2
  go_ret
  exact ⟨rfl, b0⟩
theorem four_idx (a b c d : Int) (w : World) :
  (Instr.index 170 (.agg #[.int .i64 a, .int .i64 b, .int .i64 c, .int .i64 d]) (.int .i64 0)).run Tryz.prog w = .ok (.int .i64 a) w ∧
  (Instr.index 170 (.agg #[.int .i64 a, .int .i64 b, .int .i64 c, .int .i64 d]) (.int .i64 1)).run Tryz.prog w = .ok (.int .i64 b) w ∧
  (Instr.index 170 (.agg #[.int .i64 a, .int .i64 b, .int .i64 c, .int .i64 d]) (.int .i64 2)).run Tryz.prog w = .ok (.int .i64 c) w ∧
  (Instr.index 170 (.agg #[.int .i64 a, .int .i64 b, .int .i64 c, .int .i64 d]) (.int .i64 3)).run Tryz.prog w = .ok (.int .i64 d) w := by
 refine ⟨?_, ?_, ?_, ?_⟩ <;> rfl
theorem ranged_any (x : Ts) (w : World) : Calls Tryz.prog 94 #[tsV x] w fun e w' => e = .returned (.bool (rangedB x)) ∧ Below w.heap.size w w' := by
 have b0 : Below w.heap.size w (w.alloc (.cells #[.string x.n, .int .i64 x.c, .int .i64 x.t, .int .i64 x.d, .int .i64 x.j, .int .i64 x.q, .int .i64 x.p] 26)) := (Below.refl _ _).alloc (Nat.le_refl _) _
 generalize hr : rangedB x = r
 have HR := Lib.hid hr
 clear hr
 go_enter Tryz.func94, Tryz.ntmps94
 go_wp2
 go_loop [14] (fun i => i = .int .i64 0 ∨ (i = .int .i64 1 ∧ inB x.c 1 2147483647 = true) ∨ (i = .int .i64 2 ∧ inB x.c 1 2147483647 = true ∧ inB x.t 1 2147483647 = true) ∨ (i = .int .i64 3 ∧ inB x.c 1 2147483647 = true ∧ inB x.t 1 2147483647 = true ∧ inB x.d 1 2147483647 = true) ∨ (i = .int .i64 4 ∧ inB x.c 1 2147483647 = true ∧ inB x.t 1 2147483647 = true ∧ inB x.d 1 2147483647 = true ∧ inB x.q 1 2147483647 = true)) (fun i => 4 - (intOf i).toNat)
 case atStart => exact .inl rfl
 case round =>
  obtain ⟨i0, i1, i2, i3⟩ := four_idx x.c x.t x.d x.q (w.alloc (.cells #[.string x.n, .int .i64 x.c, .int .i64 x.t, .int .i64 x.d, .int .i64 x.j, .int .i64 x.q, .int .i64 x.p] 26))
  rcases hrel with rfl | ⟨rfl, hc⟩ | ⟨rfl, hc, ht⟩ | ⟨rfl, hc, ht, hd⟩ | ⟨rfl, hc, ht, hd, hq⟩
  ·by_cases h1 : 1 ≤ x.c
   ·by_cases h2 : x.c ≤ 2147483647
    ·have HF := Lib.hid (inB_yes ⟨h1, h2⟩)
     go_wp2
     go_round
     case rel => exact .inr (.inl ⟨rfl, HF.out⟩)
     case measure => simp [intOf]
    ·have HF := Lib.hid (inB_no (n := x.c) (lo := 1) (hi := 2147483647) (by omega))
     go_wp2
     go_ret
     exact ⟨by rw [← HR.out, rangedB, HF.out]; rfl, b0⟩
   ·have HF := Lib.hid (inB_no (n := x.c) (lo := 1) (hi := 2147483647) (by omega))
    go_wp2
    go_ret
    exact ⟨by rw [← HR.out, rangedB, HF.out]; rfl, b0⟩
  ·have HC := Lib.hid hc
   clear hc
   by_cases h1 : 1 ≤ x.t
   ·by_cases h2 : x.t ≤ 2147483647
    ·have HF := Lib.hid (inB_yes ⟨h1, h2⟩)
     go_wp2
     go_round
     case rel => exact .inr (.inr (.inl ⟨rfl, HC.out, HF.out⟩))
     case measure => simp [intOf]
    ·have HF := Lib.hid (inB_no (n := x.t) (lo := 1) (hi := 2147483647) (by omega))
     go_wp2
     go_ret
     exact ⟨by rw [← HR.out, rangedB, HC.out, HF.out]; rfl, b0⟩
   ·have HF := Lib.hid (inB_no (n := x.t) (lo := 1) (hi := 2147483647) (by omega))
    go_wp2
    go_ret
    exact ⟨by rw [← HR.out, rangedB, HC.out, HF.out]; rfl, b0⟩
  ·have HC := Lib.hid hc
   have HT := Lib.hid ht
   clear hc ht
   by_cases h1 : 1 ≤ x.d
   ·by_cases h2 : x.d ≤ 2147483647
    ·have HF := Lib.hid (inB_yes ⟨h1, h2⟩)
     go_wp2
     go_round
     case rel => exact .inr (.inr (.inr (.inl ⟨rfl, HC.out, HT.out, HF.out⟩)))
     case measure => simp [intOf]
    ·have HF := Lib.hid (inB_no (n := x.d) (lo := 1) (hi := 2147483647) (by omega))
     go_wp2
     go_ret
     exact ⟨by rw [← HR.out, rangedB, HC.out, HT.out, HF.out]; rfl, b0⟩
   ·have HF := Lib.hid (inB_no (n := x.d) (lo := 1) (hi := 2147483647) (by omega))
    go_wp2
    go_ret
    exact ⟨by rw [← HR.out, rangedB, HC.out, HT.out, HF.out]; rfl, b0⟩
  ·have HC := Lib.hid hc
   have HT := Lib.hid ht
   have HD := Lib.hid hd
   clear hc ht hd
   by_cases h1 : 1 ≤ x.q
   ·by_cases h2 : x.q ≤ 2147483647
    ·have HF := Lib.hid (inB_yes ⟨h1, h2⟩)
     go_wp2
     go_round
     case rel => exact .inr (.inr (.inr (.inr ⟨rfl, HC.out, HT.out, HD.out, HF.out⟩)))
     case measure => simp [intOf]
    ·have HF := Lib.hid (inB_no (n := x.q) (lo := 1) (hi := 2147483647) (by omega))
     go_wp2
     go_ret
     exact ⟨by rw [← HR.out, rangedB, HC.out, HT.out, HD.out, HF.out]; rfl, b0⟩
   ·have HF := Lib.hid (inB_no (n := x.q) (lo := 1) (hi := 2147483647) (by omega))
    go_wp2
    go_ret
    exact ⟨by rw [← HR.out, rangedB, HC.out, HT.out, HD.out, HF.out]; rfl, b0⟩
  ·have hr2 : r = (inB x.j 0 2147483647 && inB x.p 1 1048576) := by rw [← HR.out, rangedB, hc, ht, hd, hq]; rfl
   have H2 := Lib.hid hr2
   clear hc ht hd hq HR hr2
   by_cases h1 : 0 ≤ x.j
   ·by_cases h2 : x.j ≤ 2147483647
    ·by_cases h3 : 1 ≤ x.p
     ·by_cases h4 : x.p ≤ 1048576
      ·have HF := Lib.hid (show r = true by rw [H2.out, inB_yes ⟨h1, h2⟩, inB_yes ⟨h3, h4⟩]; rfl)
       go_wp2
       go_ret
       exact ⟨by rw [HF.out]; rfl, b0⟩
      ·have HF := Lib.hid (show r = false by rw [H2.out, inB_yes ⟨h1, h2⟩, inB_no (n := x.p) (by omega)]; rfl)
       have h4' : decide (x.p ≤ 1048576) = false := decide_eq_false h4
       go_wp2
       go_ret
       exact ⟨by rw [HF.out]; rfl, b0⟩
     ·have HF := Lib.hid (show r = false by rw [H2.out, inB_yes ⟨h1, h2⟩, inB_no (n := x.p) (by omega)]; rfl)
      have h3' : decide (x.p ≥ 1) = false := decide_eq_false h3
      have h3'' : decide (1 ≤ x.p) = false := decide_eq_false h3
      go_wp2
      go_ret
      exact ⟨by rw [HF.out]; rfl, b0⟩
    ·have HF := Lib.hid (show r = false by rw [H2.out, inB_no (n := x.j) (by omega)]; rfl)
     have h2' : decide (x.j ≤ 2147483647) = false := decide_eq_false h2
     go_wp2
     go_ret
     exact ⟨by rw [HF.out]; rfl, b0⟩
   ·have HF := Lib.hid (show r = false by rw [H2.out, inB_no (n := x.j) (by omega)]; rfl)
    have h2' : decide (0 ≤ x.j) = false := decide_eq_false h1
    go_wp2
    go_ret
    exact ⟨by rw [HF.out]; rfl, b0⟩
theorem rangedB_parts {x : Ts} (h : rangedB x = true) : (1 ≤ x.c ∧ x.c ≤ 2147483647) ∧ (1 ≤ x.t ∧ x.t ≤ 2147483647) ∧ (1 ≤ x.d ∧ x.d ≤ 2147483647) ∧ (1 ≤ x.q ∧ x.q ≤ 2147483647) ∧ (0 ≤ x.j ∧ x.j ≤ 2147483647) ∧ 1 ≤ x.p ∧ x.p ≤ 1048576 := by
 simp only [rangedB, Bool.and_eq_true, inB_iff] at h
 exact h
theorem check_any (x : Ts) (w : World) : Calls Tryz.prog 71 #[tsV x] w fun e w' => e = .returned (.int .i64 (checkE x)) ∧ Below w.heap.size w w' := by
 have b0 : Below w.heap.size w (w.alloc (.cells #[.string x.n, .int .i64 x.c, .int .i64 x.t, .int .i64 x.d, .int .i64 x.j, .int .i64 x.q, .int .i64 x.p] 26)) := (Below.refl _ _).alloc (Nat.le_refl _) _
 have N := Lib.hid (fun w => named_any x w)
 have R := Lib.hid (fun w => ranged_any x w)
 have hp := @rangedB_parts x
 have hq : checkE x = if namedB x && rangedB x then (if overB x then 12 else 0) else 11 := rfl
 rw [hq]
 clear hq
 generalize namedB x = a at *
 generalize rangedB x = b at *
 cases a
 ·clear hp
  go_enter Tryz.func71, Tryz.ntmps71
  go_wp2_with (go_at_call 93; (with_reducible refine (N.out _).mono ?_); rintro e w2 ⟨rfl, h2⟩)
  go_ret
  exact ⟨rfl, b0.trans (h2.mono b0.size)⟩
 ·cases b
  ·clear hp
   go_enter Tryz.func71, Tryz.ntmps71
   go_wp2_with (first
    | (go_at_call 93; (with_reducible refine (N.out _).mono ?_); rintro e w2 ⟨rfl, h2⟩; obtain ⟨hc2, hf2⟩ := bcell h2; have hz2 : w.heap.size < w2.heap.size := by have := h2.size; simp at this; omega)
    | (go_at_call 94; (with_reducible refine (R.out _).mono ?_); rintro e w3 ⟨rfl, h3⟩))
   go_ret
   exact ⟨rfl, b0.trans ((h2.mono b0.size).trans (h3.mono (Nat.le_trans b0.size h2.size)))⟩
  ·obtain ⟨⟨c1, c2⟩, ⟨t1, t2⟩, ⟨d1, d2⟩, ⟨q1, q2⟩, ⟨j1, j2⟩, -⟩ := hp rfl
   clear hp
   rw [if_pos (by rfl)]
   by_cases g1 : x.q > x.c
   ·rw [if_pos (by simp [overB, g1])]
    go_enter Tryz.func71, Tryz.ntmps71
    go_wp2_with (first
     | (go_at_call 93; (with_reducible refine (N.out _).mono ?_); rintro e w2 ⟨rfl, h2⟩; obtain ⟨hc2, hf2⟩ := bcell h2; have hz2 : w.heap.size < w2.heap.size := by have := h2.size; simp at this; omega)
     | (go_at_call 94; (with_reducible refine (R.out _).mono ?_); rintro e w3 ⟨rfl, h3⟩; obtain ⟨hc3, hf3⟩ := bcell h3))
    go_ret
    exact ⟨rfl, b0.trans ((h2.mono b0.size).trans (h3.mono (Nat.le_trans b0.size h2.size)))⟩
   ·have h1' : decide (x.q > x.c) = false := decide_eq_false g1
    have h1'' : decide (x.c < x.q) = false := decide_eq_false g1
    by_cases g2 : x.c + x.j > x.d
    ·rw [if_pos (by simp [overB, g2])]
     go_enter Tryz.func71, Tryz.ntmps71
     go_wp2_with (first
      | (go_at_call 93; (with_reducible refine (N.out _).mono ?_); rintro e w2 ⟨rfl, h2⟩; obtain ⟨hc2, hf2⟩ := bcell h2; have hz2 : w.heap.size < w2.heap.size := by have := h2.size; simp at this; omega)
      | (go_at_call 94; (with_reducible refine (R.out _).mono ?_); rintro e w3 ⟨rfl, h3⟩; obtain ⟨hc3, hf3⟩ := bcell h3))
     go_ret
     exact ⟨rfl, b0.trans ((h2.mono b0.size).trans (h3.mono (Nat.le_trans b0.size h2.size)))⟩
    ·have h2' : decide (x.c + x.j > x.d) = false := decide_eq_false g2
     have h2'' : decide (x.d < x.c + x.j) = false := decide_eq_false g2
     by_cases g3 : x.d > x.t
     ·rw [if_pos (by simp [overB, g3])]
      go_enter Tryz.func71, Tryz.ntmps71
      go_wp2_with (first
       | (go_at_call 93; (with_reducible refine (N.out _).mono ?_); rintro e w2 ⟨rfl, h2⟩; obtain ⟨hc2, hf2⟩ := bcell h2; have hz2 : w.heap.size < w2.heap.size := by have := h2.size; simp at this; omega)
       | (go_at_call 94; (with_reducible refine (R.out _).mono ?_); rintro e w3 ⟨rfl, h3⟩; obtain ⟨hc3, hf3⟩ := bcell h3))
      go_ret
      exact ⟨rfl, b0.trans ((h2.mono b0.size).trans (h3.mono (Nat.le_trans b0.size h2.size)))⟩
     ·have h3' : decide (x.d > x.t) = false := decide_eq_false g3
      have h3'' : decide (x.t < x.d) = false := decide_eq_false g3
      rw [if_neg (by simp [overB]; omega)]
      go_enter Tryz.func71, Tryz.ntmps71
      go_wp2_with (first
       | (go_at_call 93; (with_reducible refine (N.out _).mono ?_); rintro e w2 ⟨rfl, h2⟩; obtain ⟨hc2, hf2⟩ := bcell h2; have hz2 : w.heap.size < w2.heap.size := by have := h2.size; simp at this; omega)
       | (go_at_call 94; (with_reducible refine (R.out _).mono ?_); rintro e w3 ⟨rfl, h3⟩; obtain ⟨hc3, hf3⟩ := bcell h3))
      go_ret
      exact ⟨rfl, b0.trans ((h2.mono b0.size).trans (h3.mono (Nat.le_trans b0.size h2.size)))⟩
end
section
open Go.RowKit
def restI (x n : Int) : Int := (wrap64 (x.tmod n + n)).tmod n
theorem restI_bd (x n : Int) (hn : 0 < n) (hn2 : n ≤ 100000) : 0 ≤ restI x n ∧ restI x n < n := by
 have ha : -n < x.tmod n ∧ x.tmod n < n := by
  rcases Int.le_total 0 x with h | h
  ·rw [Int.tmod_eq_emod_of_nonneg h]
   have := Int.emod_nonneg x (show n ≠ 0 by omega)
   have := Int.emod_lt_of_pos x hn
   omega
  ·obtain ⟨m, rfl⟩ : ∃ m, x = -m := ⟨-x, by omega⟩
   rw [Int.neg_tmod, Int.tmod_eq_emod_of_nonneg (by omega)]
   have := Int.emod_nonneg m (show n ≠ 0 by omega)
   have := Int.emod_lt_of_pos m hn
   omega
 unfold restI
 generalize x.tmod n = a at *
 rw [IntWalk.wrap64_in _ (by omega), Int.tmod_eq_emod_of_nonneg (by omega)]
 exact ⟨Int.emod_nonneg _ (by omega), Int.emod_lt_of_pos _ hn⟩
theorem rrest_any (x n : Int) (w : World) (hx : in64 x) (hn : 0 < n) (hn2 : n ≤ 100000) : Calls Tryz.prog 21 #[.int .i64 x, .int .i64 n] w fun e w' => e = .returned (.int .i64 (restI x n)) ∧ w = w' := by
 obtain ⟨h1, h2⟩ := hx
 unfold restI
 go_enter Tryz.func21, Tryz.ntmps21
 go_wp2
 go_ret
 exact ⟨rfl, rfl⟩
end
section
open Go.RowKit
def tsL (x : Ts) : List Value := [.string x.n, .int .i64 x.c, .int .i64 x.t, .int .i64 x.d, .int .i64 x.j, .int .i64 x.q, .int .i64 x.p]
structure TAt (w : World) (b o : Nat) (x : Ts) : Prop where
 r : w.rangeAt b o (tsL x)
theorem TAt.c0 {w : World} {b o : Nat} {x : Ts} (h : TAt w b o x) : w.cell? ⟨b, o, none⟩ = some (.string x.n) := h.r 0 _ rfl
theorem TAt.c1 {w : World} {b o : Nat} {x : Ts} (h : TAt w b o x) : w.cell? ⟨b, o + 1, none⟩ = some (.int .i64 x.c) := h.r 1 _ rfl
theorem TAt.c2 {w : World} {b o : Nat} {x : Ts} (h : TAt w b o x) : w.cell? ⟨b, o + 2, none⟩ = some (.int .i64 x.t) := h.r 2 _ rfl
theorem TAt.c3 {w : World} {b o : Nat} {x : Ts} (h : TAt w b o x) : w.cell? ⟨b, o + 3, none⟩ = some (.int .i64 x.d) := h.r 3 _ rfl
theorem TAt.c4 {w : World} {b o : Nat} {x : Ts} (h : TAt w b o x) : w.cell? ⟨b, o + 4, none⟩ = some (.int .i64 x.j) := h.r 4 _ rfl
theorem TAt.c5 {w : World} {b o : Nat} {x : Ts} (h : TAt w b o x) : w.cell? ⟨b, o + 5, none⟩ = some (.int .i64 x.q) := h.r 5 _ rfl
theorem TAt.c6 {w : World} {b o : Nat} {x : Ts} (h : TAt w b o x) : w.cell? ⟨b, o + 6, none⟩ = some (.int .i64 x.p) := h.r 6 _ rfl
theorem TAt.lt {w : World} {b o : Nat} {x : Ts} (h : TAt w b o x) : b < w.heap.size := World.block_lt_of_cell? w _ h.c0
theorem TAt.keep {w w' : World} {b o : Nat} {x : Ts} (h : TAt w b o x) (hk : ∀ i, w'.cell? ⟨b, i, none⟩ = w.cell? ⟨b, i, none⟩) : TAt w' b o x := ⟨fun j v hv => (hk _).trans (h.r j v hv)⟩
theorem TAt.below {w w' : World} {b o B : Nat} {x : Ts} (h : TAt w b o x) (hb : Below B w w') (hB : b < B) : TAt w' b o x := h.keep fun i => hb.cell (p := ⟨b, i, none⟩) hB
theorem TAt.later {w w' : World} {b o : Nat} {x : Ts} (h : TAt w b o x) (hb : Below w.heap.size w w') : TAt w' b o x := h.below hb h.lt
theorem TAt.new (w : World) (x : Ts) : TAt (w.alloc (.cells #[.string x.n, .int .i64 x.c, .int .i64 x.t, .int .i64 x.d, .int .i64 x.j, .int .i64 x.q, .int .i64 x.p] 26)) w.heap.size 0 x :=
 ⟨fun j v hv => by rw [Nat.zero_add, cell_of_row _ _ j _ _ _ (heap_alloc_new w _)]; simpa [tsL] using hv⟩
structure Row (w : World) (A : Option Addr) (cap : Nat) (l : List Ts) : Prop where
 le : l.length ≤ cap
 mx : cap ≤ 9223372036854775807
 wf : ∀ x ∈ l, TsW x
 at_ : ∀ i x, l[i]? = some x → ∃ b o, A = some ⟨b, o, none⟩ ∧ TAt w b (o + i * 7) x
theorem Row.later {w w' : World} {A : Option Addr} {cap : Nat} {l : List Ts} (h : Row w A cap l) (hb : Below w.heap.size w w') : Row w' A cap l :=
 ⟨h.le, h.mx, h.wf, fun i x hx => by
  obtain ⟨b, o, e, ht⟩ := h.at_ i x hx
  exact ⟨b, o, e, ht.later hb⟩⟩
theorem Row.get {w : World} {A : Option Addr} {cap : Nat} {l : List Ts} (h : Row w A cap l) {k : Nat} (hk : k < l.length) : ∃ b o x, A = some ⟨b, o, none⟩ ∧ l[k]? = some x ∧ TsW x ∧ b < w.heap.size ∧ TAt w b (o + k * 7) x := by
 obtain ⟨b, o, e, ht⟩ := h.at_ k l[k] (List.getElem?_eq_getElem hk)
 exact ⟨b, o, l[k], e, List.getElem?_eq_getElem hk, h.wf _ (List.getElem_mem hk), ht.lt, ht⟩
theorem Row.at2 {w : World} {b o cap : Nat} {l : List Ts} (h : Row w (some ⟨b, o, none⟩) cap l) {k : Nat} {x : Ts} (hk : l[k]? = some x) : TAt w b (o + k * 7) x := by
 obtain ⟨b', o', e, ht⟩ := h.at_ k x hk
 cases e
 exact ht
section
variable {ops : Array Oper} {C : World → Prop} {Q : Act → Prop} {a : Act} {o : Oper} {rest : List Oper}
theorem wq_skip (hw : Region.wanted o (yielded ops a.tmps) = false) (h : wpQuiet Tryz.prog ops C Q rest (a.put o.dst undef)) : wpQuiet Tryz.prog ops C Q (o :: rest) a :=
 wpQuiet_step fun K hK => by rw [hw]; exact hK _ h
theorem wq_val (v : Value) (hw : Region.wanted o (yielded ops a.tmps) = true) (hr : ∀ w, C w → (execOp a.eval o).run Tryz.prog w = .ok (.value v) w) (h : wpQuiet Tryz.prog ops C Q rest (a.put o.dst v)) : wpQuiet Tryz.prog ops C Q (o :: rest) a :=
 wpQuiet_step fun K hK => by
  rw [if_pos hw]
  refine ⟨v, fun w hC => ?_, hK _ h⟩
  unfold Oper.quietAt
  rw [hr w hC]
  exact ⟨rfl, rfl⟩
theorem wq_call {g : FuncId} {args : Array Value} {v : Value} (hc : ∀ w, C w → Calls Tryz.prog g args w fun e w' => e = .returned v ∧ Below w.heap.size w w') (hstep : ∀ w w', C w → Below w.heap.size w w' → C w')
  (hw : Region.wanted o (yielded ops a.tmps) = true) (hr : ∀ w, C w → (execOp a.eval o).run Tryz.prog w = .ok (.enter g args) w) (h : wpQuiet Tryz.prog ops C Q rest (a.put o.dst v)) : wpQuiet Tryz.prog ops C Q (o :: rest) a :=
 wpQuiet_step fun K hK => by
  rw [if_pos hw]
  refine ⟨v, fun w hC => ?_, hK _ h⟩
  unfold Oper.quietAt
  rw [hr w hC]
  exact ⟨rfl, (hc w hC).mono fun e w' hq => ⟨hq.1, hstep w w' hC hq.2⟩⟩
theorem region_quiet_l {l : List Oper} {C : World → Prop} {id : Nat} {Q : Exit → Act → World → Prop} {a : Act} {w : World} (hm : Tryz.prog.follows .mixedOrders = true) (hB : Region.lexB .any l.toArray = true) (hC : C w.drew)
  (h : wpQuiet Tryz.prog l.toArray C (fun a' => ∀ w', C w' → Q .normal a' w') l a) : (Code.region id l.toArray true).wp Tryz.prog Q a w :=
 wp_region_quiet hm hB hC (by simpa using h)
theorem below_drew (w : World) : Below w.heap.size w w.drew := ⟨rfl, rfl, rfl, Nat.le_refl _, fun _ _ => rfl⟩
end
theorem calls_same {P : Program} {f : FuncId} {args : Array Value} {w : World} {v : Value} (h : Calls P f args w fun e w' => e = .returned v ∧ w = w') : Calls P f args w fun e w' => e = .returned v ∧ Below w.heap.size w w' :=
 h.mono fun e w' h => ⟨h.1, by rw [← h.2]; exact Below.refl _ _⟩
def Lt (W w : World) : Prop := Below W.heap.size W w
theorem lt_step {W : World} (w w' : World) (h : Lt W w) (hb : Below w.heap.size w w') : Lt W w' := Below.trans h (hb.mono (Below.size h))
end
section
open Go.RowKit
structure Sp where
 c : Int
 d : Int
 j : Int
 q : Int
 t : Int
structure SpW (x : Sp) : Prop where
 c : in64 x.c
 d : in64 x.d
 j : in64 x.j
 q : in64 x.q
 t : in64 x.t
def spL (x : Sp) : List Value := [.int .i64 x.c, .int .i64 x.d, .int .i64 x.j, .int .i64 x.q, .int .i64 x.t]
structure SAt (w : World) (b o : Nat) (x : Sp) : Prop where
 r : w.rangeAt b o (spL x)
theorem SAt.c0 {w : World} {b o : Nat} {x : Sp} (h : SAt w b o x) : w.cell? ⟨b, o, none⟩ = some (.int .i64 x.c) := h.r 0 _ rfl
theorem SAt.c1 {w : World} {b o : Nat} {x : Sp} (h : SAt w b o x) : w.cell? ⟨b, o + 1, none⟩ = some (.int .i64 x.d) := h.r 1 _ rfl
theorem SAt.c2 {w : World} {b o : Nat} {x : Sp} (h : SAt w b o x) : w.cell? ⟨b, o + 2, none⟩ = some (.int .i64 x.j) := h.r 2 _ rfl
theorem SAt.c3 {w : World} {b o : Nat} {x : Sp} (h : SAt w b o x) : w.cell? ⟨b, o + 3, none⟩ = some (.int .i64 x.q) := h.r 3 _ rfl
theorem SAt.c4 {w : World} {b o : Nat} {x : Sp} (h : SAt w b o x) : w.cell? ⟨b, o + 4, none⟩ = some (.int .i64 x.t) := h.r 4 _ rfl
theorem SAt.lt {w : World} {b o : Nat} {x : Sp} (h : SAt w b o x) : b < w.heap.size := World.block_lt_of_cell? w _ h.c0
theorem SAt.later {w w' : World} {b o : Nat} {x : Sp} (h : SAt w b o x) (hb : Below w.heap.size w w') : SAt w' b o x := ⟨fun j v hv => (hb.cell (p := ⟨b, o + j, none⟩) h.lt).trans (h.r j v hv)⟩
structure SRow (w : World) (A : Option Addr) (cap : Nat) (l : List Sp) : Prop where
 le : l.length ≤ cap
 mx : cap ≤ 9223372036854775807
 wf : ∀ x ∈ l, SpW x
 at_ : ∀ i x, l[i]? = some x → ∃ b o, A = some ⟨b, o, none⟩ ∧ SAt w b (o + i * 5) x
theorem SRow.later {w w' : World} {A : Option Addr} {cap : Nat} {l : List Sp} (h : SRow w A cap l) (hb : Below w.heap.size w w') : SRow w' A cap l :=
 ⟨h.le, h.mx, h.wf, fun i x hx => by
  obtain ⟨b, o, e, ht⟩ := h.at_ i x hx
  exact ⟨b, o, e, ht.later hb⟩⟩
theorem SRow.get {w : World} {A : Option Addr} {cap : Nat} {l : List Sp} (h : SRow w A cap l) {k : Nat} (hk : k < l.length) : ∃ b o x, A = some ⟨b, o, none⟩ ∧ l[k]? = some x ∧ SpW x ∧ b < w.heap.size ∧ SAt w b (o + k * 5) x := by
 obtain ⟨b, o, e, ht⟩ := h.at_ k l[k] (List.getElem?_eq_getElem hk)
 exact ⟨b, o, l[k], e, List.getElem?_eq_getElem hk, h.wf _ (List.getElem_mem hk), ht.lt, ht⟩
theorem SRow.nil {w : World} (A : Option Addr) (cap : Nat) (h : cap ≤ 9223372036854775807) : SRow w A cap [] := ⟨by simp, h, by simp, by simp⟩
theorem list_of {α : Type} {P : Nat → α → Prop} : ∀ (n : Nat), (∀ i, i < n → ∃ x, P i x) → ∃ l : List α, l.length = n ∧ ∀ i x, l[i]? = some x → P i x
 | 0, _ => ⟨[], rfl, by simp⟩
 | n + 1, h => by
   obtain ⟨l, hl, hp⟩ := list_of n (fun i hi => h i (by omega))
   obtain ⟨x, hx⟩ := h n (by omega)
   refine ⟨l ++ [x], by simp [hl], fun i y hy => ?_⟩
   by_cases hi : i < l.length
   ·rw [List.getElem?_append_left hi] at hy; exact hp i y hy
   ·rw [List.getElem?_append_right (by omega)] at hy
    have : i - l.length = 0 := by
     rcases Nat.eq_zero_or_pos (i - l.length) with h0 | h0
     ·exact h0
     ·rw [List.getElem?_eq_none (by simp; omega)] at hy; cases hy
    rw [this] at hy
    obtain rfl : x = y := by simpa using hy
    obtain rfl : i = n := by omega
    exact hx
theorem spot_of {w : World} {a : Addr} {v : Value} (h : w.cell? a = some v) : a = ⟨a.block, a.off, none⟩ := by
 cases a with
 | mk b o s =>
   cases s with
   | none => rfl
   | some s =>
     unfold World.cell? at h
     split at h
     ·simp at h
     ·cases h
theorem add_none (b o n : Nat) : (⟨b, o, none⟩ : Addr).add n = ⟨b, o + n, none⟩ := by
 unfold Addr.add
 by_cases h : n = 0
 ·simp [h]
 ·simp [h]
theorem in64_of {n : Int} (h : (Lit.int .i64 n).wf = true) : in64 n := by
 simp [Lit.wf, IntKind.min, IntKind.max, IntKind.bits, IntKind.signed] at h
 unfold in64
 omega
theorem slice_spot {α : Type} {w : World} {base k len : Nat} {a : Addr} {f : List Value → Option α} {elems : List α} (hlen : elems.length = len) (h0 : 0 < len) (hk : 0 < k)
  (hel : ∀ i, i < len → (w.cells? base (a.add (i * k)) k).bind f = elems[i]?) : a = ⟨a.block, a.off, none⟩ := by
 have h1 := hel 0 h0
 rw [List.getElem?_eq_getElem (by omega)] at h1
 obtain ⟨cl, hcs2, ht⟩ := Option.bind_eq_some_iff.1 h1
 obtain ⟨_, hcl, hat⟩ := World.cells?_some hcs2
 have h2 := hat 0 hk
 rw [List.getElem?_eq_getElem (by omega)] at h2
 have e : (a.add (0 * k)).add 0 = a := by simp [Addr.add]
 rw [e] at h2
 exact spot_of h2
section
open Go.ChangeShapes Go.WideShapes Go.ChangeAt
variable {H : Type} {enc : TypeId × Value → H} {W : World} {base : Nat} {sp : Nat → Bool} {hd : Bool}
theorem read_specs {fuel : Nat} {v : Value} {y : DataW H × List MemPlace} (h : DataW.trod enc Tryz.prog W base sp hd fuel 22 [v] = some y) :
  ∃ A cap l, v = .slice A l.length cap ∧ SRow W A cap l := by
 rcases DataW.trod_slice Tryz.underlying22 h with ⟨hcs, _⟩ | ⟨a, len, cap, elems, rest, n, _, hcs, _, _, hl', hm, hlen, hel, _, _⟩
 ·obtain rfl : v = .slice none 0 0 := by simpa using hcs
  exact ⟨none, 0, [], rfl, SRow.nil _ _ (by omega)⟩
 ·obtain rfl : v = .slice (some a) len cap := by simpa using hcs
  have c5 : Tryz.prog.cellsOf 55 = 5 := by kernel_rfl
  rw [c5] at hel
  unfold maxLen at hm
  rcases Nat.eq_zero_or_pos len with h0 | h0
  ·subst h0
   exact ⟨_, cap, [], rfl, SRow.nil _ _ hm⟩
  have hsp := slice_spot hlen h0 (by omega) hel
  obtain ⟨ab, ao, asp⟩ := a
  obtain rfl : asp = none := by injection hsp
  clear hsp
  have key : ∀ i, i < len → ∃ x : Sp, SpW x ∧ SAt W ab (ao + i * 5) x := by
   intro i hi
   have h1 := hel i hi
   have ci : Tryz.prog.cellsOf 3 = 1 := by kernel_rfl
   rw [List.getElem?_eq_getElem (by omega)] at h1
   obtain ⟨cl, hcs2, ht⟩ := Option.bind_eq_some_iff.1 h1
   obtain ⟨_, hcl, hat⟩ := World.cells?_some hcs2
   obtain ⟨ys, n', _, _, _, hyl, hf⟩ := DataW.trod_struct Tryz.underlying55 ht
   match cl, hcl, hat, hf with
   | [v0, v1, v2, v3, v4], _, hat, hf =>
     have g0 : DataW.trod enc Tryz.prog W base sp hd n' 3 [v0] = ys[0]? := by
      have e : DataW.trod enc Tryz.prog W base sp hd n' 3 (([v0, v1, v2, v3, v4].drop 0).take (Tryz.prog.cellsOf 3)) = ys[0]? := hf 0 _ rfl
      rw [ci] at e
      exact e
     have g1 : DataW.trod enc Tryz.prog W base sp hd n' 3 [v1] = ys[1]? := by
      have e : DataW.trod enc Tryz.prog W base sp hd n' 3 (([v0, v1, v2, v3, v4].drop 1).take (Tryz.prog.cellsOf 3)) = ys[1]? := hf 1 _ rfl
      rw [ci] at e
      exact e
     have g2 : DataW.trod enc Tryz.prog W base sp hd n' 3 [v2] = ys[2]? := by
      have e : DataW.trod enc Tryz.prog W base sp hd n' 3 (([v0, v1, v2, v3, v4].drop 2).take (Tryz.prog.cellsOf 3)) = ys[2]? := hf 2 _ rfl
      rw [ci] at e
      exact e
     have g3 : DataW.trod enc Tryz.prog W base sp hd n' 3 [v3] = ys[3]? := by
      have e : DataW.trod enc Tryz.prog W base sp hd n' 3 (([v0, v1, v2, v3, v4].drop 3).take (Tryz.prog.cellsOf 3)) = ys[3]? := hf 3 _ rfl
      rw [ci] at e
      exact e
     have g4 : DataW.trod enc Tryz.prog W base sp hd n' 3 [v4] = ys[4]? := by
      have e : DataW.trod enc Tryz.prog W base sp hd n' 3 (([v0, v1, v2, v3, v4].drop 4).take (Tryz.prog.cellsOf 3)) = ys[4]? := hf 4 _ rfl
      rw [ci] at e
      exact e
     have hy5 : ys.length = 5 := hyl
     rw [List.getElem?_eq_getElem (by omega)] at g0 g1 g2 g3 g4
     obtain ⟨z0, e0, _, w0⟩ := DataW.trod_int Tryz.underlying3 g0
     obtain ⟨z1, e1, _, w1⟩ := DataW.trod_int Tryz.underlying3 g1
     obtain ⟨z2, e2, _, w2⟩ := DataW.trod_int Tryz.underlying3 g2
     obtain ⟨z3, e3, _, w3⟩ := DataW.trod_int Tryz.underlying3 g3
     obtain ⟨z4, e4, _, w4⟩ := DataW.trod_int Tryz.underlying3 g4
     obtain rfl : v0 = .int .i64 z0 := by simpa using e0
     obtain rfl : v1 = .int .i64 z1 := by simpa using e1
     obtain rfl : v2 = .int .i64 z2 := by simpa using e2
     obtain rfl : v3 = .int .i64 z3 := by simpa using e3
     obtain rfl : v4 = .int .i64 z4 := by simpa using e4
     refine ⟨⟨z0, z1, z2, z3, z4⟩, ⟨in64_of w0, in64_of w1, in64_of w2, in64_of w3, in64_of w4⟩, ⟨fun j u hu => ?_⟩⟩
     have hj : j < 5 := by
      rcases Nat.lt_or_ge j 5 with h | h
      ·exact h
      ·rw [List.getElem?_eq_none (by simp [spL]; omega)] at hu; cases hu
     have := hat j (by simpa using hj)
     simp only [add_none] at this
     rw [this]
     rw [← hu]
     rfl
  obtain ⟨l, hl, hp⟩ := list_of len key
  subst hl
  refine ⟨some ⟨ab, ao, none⟩, cap, l, rfl, ⟨hl', hm, fun x hx => ?_, fun i x hx => ⟨ab, ao, rfl, (hp i x hx).2⟩⟩⟩
  obtain ⟨i, hi, rfl⟩ := List.getElem_of_mem hx
  exact (hp i _ (List.getElem?_eq_getElem hi)).1
end
end
section
open Go.RowKit
theorem drop_ts {l : List Ts} {k : Nat} {x : Ts} (h : l[k]? = some x) : l.drop k = x :: l.drop (k + 1) := by
 obtain ⟨hk, e⟩ := List.getElem?_eq_some_iff.1 h
 rw [List.drop_eq_getElem_cons hk, e]
end
section
open Go.RowKit
def tsCells (ts : List Ts) : List Value := ts.flatMap tsL
theorem tsCells_snoc (ts : List Ts) (x : Ts) : tsCells (ts ++ [x]) = tsCells ts ++ tsL x := by simp [tsCells]
theorem tsCells_get (ts : List Ts) : ∀ (i : Nat) (x : Ts), ts[i]? = some x → ∀ j v, (tsL x)[j]? = some v → (tsCells ts)[i * 7 + j]? = some v := by
 induction ts with
 | nil => intro i x h; simp at h
 | cons a r ih =>
   intro i x h j v hv
   have hj : j < 7 := by
    rcases Nat.lt_or_ge j 7 with h | h
    ·exact h
    ·rw [List.getElem?_eq_none (by simp [tsL]; omega)] at hv; cases hv
   cases i with
   | zero =>
     simp at h; subst h
     rw [Nat.zero_mul, Nat.zero_add, tsCells, List.flatMap_cons, List.getElem?_append_left (by simp [tsL]; omega)]
     exact hv
   | succ i =>
     simp only [List.getElem?_cons_succ] at h
     have := ih i x h j v hv
     rw [tsCells, List.flatMap_cons, List.getElem?_append_right (by simp [tsL]; omega)]
     rw [show (i + 1) * 7 + j - (tsL a).length = i * 7 + j by simp [tsL]; omega]
     exact this
theorem infoTs : (Tryz.prog.info? 26).map (fun i => (i.zero, i.size, i.bytes)) = some (some (.agg #[.string { data := #[] }, .int .i64 0, .int .i64 0, .int .i64 0, .int .i64 0, .int .i64 0, .int .i64 0]), 7, 64) := by kernel_rfl
theorem seven_new (V : World) (x : Ts) : ∀ j u, (tsL x)[j]? = some u → (V.alloc (.cells #[.string x.n, .int .i64 x.c, .int .i64 x.t, .int .i64 x.d, .int .i64 x.j, .int .i64 x.q, .int .i64 x.p] 26)).cell? ((⟨V.heap.size, 0, none⟩ : Addr).add j) = some u := by
 intro j u hj
 rw [add_none, Nat.zero_add, cell_of_row _ _ j _ _ _ (heap_alloc_new V _)]
 simpa [tsL] using hj
theorem tsL_one (x : Ts) : ∀ u ∈ tsL x, u.oneCell' = true := by
 intro u hu
 simp only [tsL, List.mem_cons, List.not_mem_nil, or_false] at hu
 rcases hu with rfl | rfl | rfl | rfl | rfl | rfl | rfl <;> rfl
structure SetIn (B : Nat) (w : World) (v : Value) (k : Nat) (ts : List Ts) : Prop where
 len : ts.length = k
 wf : ∀ x ∈ ts, TsW x
 row : w.ownsRow B 26 7 v k (tsCells ts)
theorem SetIn.nil (B : Nat) (w : World) : SetIn B w (.slice none 0 0) 0 [] := ⟨rfl, by simp, World.ownsRow_nil _ _ _ _⟩
structure OwnT (B : Nat) (w : World) (g cap : Nat) (ts : List Ts) : Prop where
 hB : B ≤ g
 lt : g < w.heap.size
 fz : ∀ i, w.frozen? ⟨g, i, none⟩ = false
 le : ts.length ≤ cap
 mx : cap ≤ 9223372036854775807
 wf : ∀ x ∈ ts, TsW x
 at_ : ∀ i x, ts[i]? = some x → TAt w g (i * 7) x
theorem SetIn.own {B : Nat} {w : World} {v : Value} {k : Nat} {ts : List Ts} (h : SetIn B w v k ts) (hk : 0 < k) : ∃ g cap, v = .slice (some ⟨g, 0, none⟩) k cap ∧ OwnT B w g cap ts := by
 have hc := fun g (hg : v.ownBlock = some g) => h.row.cells hg
 rcases h.row.2 with ⟨hv, h0⟩ | ⟨g, cap, cur, hv, hBg, hgb, hle, hmax, _, _⟩
 ·omega
 ·subst hv
  refine ⟨g, cap, rfl, hBg, (Array.getElem?_eq_some_iff.1 hgb).1, fun i => frozen_of_row w g i _ _ hgb, by rw [h.len]; exact hle, hmax, h.wf, fun i x hx => ⟨fun j u hu => ?_⟩⟩
  have := hc g rfl _ _ (tsCells_get ts i x hx j u hu)
  rwa [add_none, Nat.zero_add] at this
theorem OwnT.row {B : Nat} {w : World} {g cap : Nat} {ts : List Ts} (h : OwnT B w g cap ts) : Row w (some ⟨g, 0, none⟩) cap ts :=
 ⟨h.le, h.mx, h.wf, fun i x hx => ⟨g, 0, rfl, by rw [Nat.zero_add]; exact h.at_ i x hx⟩⟩
theorem OwnT.setP {B : Nat} {w : World} {g cap : Nat} {ts : List Ts} (h : OwnT B w g cap ts) {k : Nat} {x : Ts} (hx : ts[k]? = some x) (p : Int) (hp : in64 p) :
  OwnT B (w.setCell ⟨g, k * 7 + 6, none⟩ (.int .i64 p)) g cap (ts.set k { x with p := p }) := by
 have hxw := h.wf x (List.mem_of_getElem? hx)
 have hkl : k < ts.length := (List.getElem?_eq_some_iff.1 hx).1
 refine ⟨h.hB, by simp; exact h.lt, fun i => by simp [h.fz], by rw [List.length_set]; exact h.le, h.mx, fun y hy => ?_, fun i y hy => ⟨fun j u hu => ?_⟩⟩
 ·rcases List.mem_or_eq_of_mem_set hy with hy | rfl
  ·exact h.wf y hy
  ·exact ⟨hxw.n, hxw.c, hxw.t, hxw.d, hxw.j, hxw.q, hp⟩
 ·have hj : j < 7 := by
   rcases Nat.lt_or_ge j 7 with h | h
   ·exact h
   ·rw [List.getElem?_eq_none (by simp [tsL]; omega)] at hu; cases hu
  by_cases hik : k = i
  ·subst hik
   rw [List.getElem?_set_self hkl] at hy
   obtain rfl : { x with p := p } = y := by simpa using hy
   have hc := (h.at_ k x hx).r
   by_cases hj6 : j = 6
   ·subst hj6
    obtain rfl : Value.int .i64 p = u := by simpa [tsL] using hu
    exact World.cell?_setCell_same _ _ _ (h.at_ k x hx).c6
   ·rw [World.cell?_setCell_other _ _ _ _ (by intro e; have := congrArg Addr.off e; simp only at this; omega)]
    refine hc j u ?_
    rw [← hu]
    rcases (by omega : j = 0 ∨ j = 1 ∨ j = 2 ∨ j = 3 ∨ j = 4 ∨ j = 5) with rfl | rfl | rfl | rfl | rfl | rfl <;> rfl
  ·rw [List.getElem?_set_ne hik] at hy
   rw [World.cell?_setCell_other _ _ _ _ (by intro e; have := congrArg Addr.off e; simp only at this; omega)]
   exact (h.at_ i y hy).r j u hu
theorem setCell_own {B : Nat} {w w' : World} {g i : Nat} (h : Below B w w') (hB : B ≤ g) (u : Value) : Below B w (w'.setCell ⟨g, i, none⟩ u) := h.setCell (p := ⟨g, i, none⟩) hB u
def chr (n : Int) : ByteArray := bs [UInt8.ofNat n.toNat]
theorem conv_n (W : World) (n : Int) (h0 : 0 ≤ n) (h1 : n < 256) : (convert 56 9 (.slice (some ⟨W.heap.size, 0, none⟩) 1 1)).run Tryz.prog (W.alloc (.cells #[.int .u8 n] 5)) = .ok (.string (chr n)) (W.alloc (.cells #[.int .u8 n] 5)) := by
 rw [run_convert_bytes_string _ 56 9 5 _ _ _ Tryz.underlying56 Tryz.underlying5 Tryz.underlying9]
 rw [run_bytesToString (ns := [n])]
 ·rfl
 ·go_simp
theorem chr_size (n : Int) : (chr n).size = 1 := by rw [chr, bs_size]; rfl
end
end Go.Proofs.YthfkbbiaemmndaaGreatDoor
