/- Texts about the program, one after the other: Maps, Chk, Checks. -/
import Derived.Laws.BytesString
import Derived.Laws.AppendOwn
import Derived.RangeFuncBox
import Derived.RangeFuncRecord
import Derived.MapKept
import Derived.WalkKit
import Derived.ProofKit
import Derived.Handy
import Derived.Lib.Hide
import Derived.Deep.MidRow
import Derived.Deep.QuietTactic
import Derived.BigQuiet
import Derived.Deep.RegionHeld3
import Derived.Laws.Externs
import Derived.Deep.CutBlock
import Derived.RangeFuncNested
import Derived.RangeFuncBound
import Derived.RangeFuncCalls
import Derived.RangeFuncLeaves
import Derived.RangeFuncWrites
import Derived.Shelf.Abstract
import Derived.OwnWalkIn
import Derived.TacticsInMore
import Derived.LoopNIn
import Derived.LoopIn
import Derived.Deep.Quiet
import Derived.Shelf.Small.Bits
import Derived.Shelf.Small.Strs
import Derived.Shelf.Small.Wraps
import Derived.Shelf.Strconv.Itoa0
import Derived.Shelf.LaysM
import Derived.Shelf.Strconv.Clone
import Derived.Shelf.Strings.Search1
import Derived.Shelf.Bits.Mul64
import Derived.Ground.Names2Prog
import Derived.Shelf.Slices.SearchI
import Derived.Below
import Derived.ChangeOld
import Derived.OpenShut
import Derived.LaidMore
import Derived.Maps.AppendAt
import Derived.Test.YthfkbbiaemmndaaGreatDoorRows
import Derived.Test.YthfkbbiaemmndaaGreatDoorProg
import Derived.Deep.LoopGhost
import Derived.WalkMore
import Derived.Test.YthfkbbiaemmndaaGreatDoorG3
import Derived.Test.YthfkbbiaemmndaaGreatDoorG4
set_option linter.unusedVariables false
set_option linter.unusedSimpArgs false
set_option maxRecDepth 100000
set_option maxHeartbeats 16000000
namespace Go.Proofs.YthfkbbiaemmndaaGreatDoor
section
open Go.RowKit
def nameIn (pre : List Ts) (x : Ts) : Bool := pre.any fun y => decide (y.n = x.n)
def prioIn (pre : List Ts) (x : Ts) : Bool := pre.any fun y => decide (y.p = x.p)
def chkFrom (pre : List Ts) : List Ts → Nat × Int
 | [] => (pre.length, 0)
 | x :: r => if checkE x ≠ 0 then (pre.length, checkE x) else if nameIn pre x || prioIn pre x then (pre.length, 13) else chkFrom (pre ++ [x]) r
def chkAll (l : List Ts) : Nat × Int := if l.length = 0 ∨ 1024 < l.length then (0, 14) else chkFrom [] l
theorem take_ts {l : List Ts} {k : Nat} {x : Ts} (h : l[k]? = some x) : l.take (k + 1) = l.take k ++ [x] := by
 rw [List.take_add_one, h]; rfl
theorem chk_bad {l : List Ts} {k : Nat} {x : Ts} (h : chkAll l = chkFrom (l.take k) (l.drop k)) (hx : l[k]? = some x) (he : checkE x ≠ 0) : chkAll l = (k, checkE x) := by
 have := (List.getElem?_eq_some_iff.1 hx).1
 rw [h, drop_ts hx, chkFrom, if_pos he, List.length_take, Nat.min_eq_left (by omega)]
theorem chk_dup {l : List Ts} {k : Nat} {x : Ts} (h : chkAll l = chkFrom (l.take k) (l.drop k)) (hx : l[k]? = some x) (he : checkE x = 0) (hd : (nameIn (l.take k) x || prioIn (l.take k) x) = true) : chkAll l = (k, 13) := by
 have := (List.getElem?_eq_some_iff.1 hx).1
 rw [h, drop_ts hx, chkFrom, if_neg (by omega), if_pos hd, List.length_take, Nat.min_eq_left (by omega)]
theorem chk_next {l : List Ts} {k : Nat} {x : Ts} (h : chkAll l = chkFrom (l.take k) (l.drop k)) (hx : l[k]? = some x) (he : checkE x = 0) (h1 : nameIn (l.take k) x = false) (h2 : prioIn (l.take k) x = false) : chkAll l = chkFrom (l.take (k + 1)) (l.drop (k + 1)) := by
 rw [h, drop_ts hx, chkFrom, if_neg (by omega), h1, h2, take_ts hx]
 rfl
theorem chk_end {l : List Ts} (h : chkAll l = chkFrom (l.take l.length) (l.drop l.length)) : chkAll l = (l.length, 0) := by
 rw [h, List.drop_length, List.take_length]; rfl
theorem chk_start {l : List Ts} (h0 : l.length ≠ 0) (h1 : l.length ≤ 1024) : chkAll l = chkFrom (l.take 0) (l.drop 0) := by
 rw [chkAll, if_neg (by omega)]; rfl
def MapOf (w : World) (r : Nat) (keys : List Value) : Prop := ∃ es c, w.heap[r]? = some (.map es c) ∧ es.toList.map (·.key) = keys ∧ ∀ e ∈ es.toList, e.val = .bool true
theorem MapOf.lt {w : World} {r : Nat} {keys : List Value} (h : MapOf w r keys) : r < w.heap.size := by
 obtain ⟨es, c, h1, _⟩ := h
 exact (Array.getElem?_eq_some_iff.1 h1).1
theorem MapOf.below {w w' : World} {r B : Nat} {keys : List Value} (h : MapOf w r keys) (hb : Below B w w') (hB : r < B) : MapOf w' r keys := by
 obtain ⟨es, c, h1, h2⟩ := h
 exact ⟨es, c, (hb.block r hB).trans h1, h2⟩
theorem MapOf.later {w w' : World} {r : Nat} {keys : List Value} (h : MapOf w r keys) (hb : Below w.heap.size w w') : MapOf w' r keys := h.below hb h.lt
theorem ba_beq (s a : ByteArray) : (s == a) = decide (s = a) := by
 cases s with
 | mk s =>
   cases a with
   | mk a =>
     show (s == a) = _
     rw [Bool.eq_iff_iff]
     simp
theorem find_strs (s : ByteArray) : ∀ (es : List MapEntry) (ks : List ByteArray) (i : Nat), es.map (·.key) = ks.map Value.string →
  (s ∈ ks → ∃ j e, e ∈ es ∧ Instr.findNow .string (.string s) es i = some (some (j, e.val))) ∧ (s ∉ ks → Instr.findNow .string (.string s) es i = some none)
 | [], ks, i, h => by
   cases ks with
   | nil => exact ⟨fun h => by simp at h, fun _ => rfl⟩
   | cons a r => simp at h
 | e :: es, ks, i, h => by
   cases ks with
   | nil => simp at h
   | cons a r =>
     simp only [List.map_cons, List.cons.injEq] at h
     obtain ⟨h1, h2⟩ := h
     have ih := find_strs s es r (i + 1) h2
     unfold Instr.findNow
     rw [h1]
     simp only [Instr.sameNow]
     by_cases hs : s = a
     ·subst hs
      simp only [ba_beq, decide_true]
      exact ⟨fun _ => ⟨i, e, by simp, rfl⟩, fun hn => absurd (by simp) hn⟩
     ·have hb : (s == a) = false := by rw [ba_beq]; exact decide_eq_false hs
      simp only [hb]
      refine ⟨fun hm => ?_, fun hn => ih.2 (by simp at hn; exact hn.2)⟩
      obtain ⟨j, e', he, hf⟩ := ih.1 (by simpa [hs] using hm)
      exact ⟨j, e', by simp [he], hf⟩
theorem find_ints (s : Int) (k : IntKind) : ∀ (es : List MapEntry) (ks : List Int) (i : Nat), es.map (·.key) = ks.map (Value.int .i64) →
  (s ∈ ks → ∃ j e, e ∈ es ∧ Instr.findNow (.int k) (.int .i64 s) es i = some (some (j, e.val))) ∧ (s ∉ ks → Instr.findNow (.int k) (.int .i64 s) es i = some none)
 | [], ks, i, h => by
   cases ks with
   | nil => exact ⟨fun h => by simp at h, fun _ => rfl⟩
   | cons a r => simp at h
 | e :: es, ks, i, h => by
   cases ks with
   | nil => simp at h
   | cons a r =>
     simp only [List.map_cons, List.cons.injEq] at h
     obtain ⟨h1, h2⟩ := h
     have ih := find_ints s k es r (i + 1) h2
     unfold Instr.findNow
     rw [h1]
     simp only [Instr.sameNow, if_true]
     by_cases hs : s = a
     ·subst hs
      simp only [beq_self_eq_true]
      exact ⟨fun _ => ⟨i, e, by simp, rfl⟩, fun hn => absurd (by simp) hn⟩
     ·have hb : (s == a) = false := by simpa using hs
      simp only [hb]
      refine ⟨fun hm => ?_, fun hn => ih.2 (by simp at hn; exact hn.2)⟩
      obtain ⟨j, e', he, hf⟩ := ih.1 (by simpa [hs] using hm)
      exact ⟨j, e', by simp [he], hf⟩
theorem nameIn_mem (pre : List Ts) (x : Ts) : nameIn pre x = true ↔ x.n ∈ pre.map (·.n) := by
 simp only [nameIn, List.any_eq_true, decide_eq_true_eq, List.mem_map]
theorem prioIn_mem (pre : List Ts) (x : Ts) : prioIn pre x = true ↔ x.p ∈ pre.map (·.p) := by
 simp only [prioIn, List.any_eq_true, decide_eq_true_eq, List.mem_map]
theorem getObj_map {w : World} {r : Nat} {es : Array MapEntry} {c : Nat} (h : w.heap[r]? = some (.map es c)) : (getObj r).run Tryz.prog w = .ok (.map es c) w := by simp [getObj, Sem.run, h]
theorem checkKey_str (e : Bool) (d : Nat) (s : ByteArray) (w : World) : (Instr.checkKey e (d + 1) 9 (.string s)).run Tryz.prog w = .ok () w := by simp [Instr.checkKey]
theorem checkKey_int (e : Bool) (d : Nat) (s : Int) (w : World) : (Instr.checkKey e (d + 1) 3 (.int .i64 s)).run Tryz.prog w = .ok () w := by simp [Instr.checkKey]
theorem look_name {w : World} {r : Nat} {pre : List Ts} (h : MapOf w r (pre.map fun y => .string y.n)) (x : Ts) :
  (Instr.lookup 128 (.map (some r)) (.string x.n) false).run Tryz.prog w = .ok (.bool (nameIn pre x)) w := by
 obtain ⟨es, c, h1, h2, h3⟩ := h
 have hg := getObj_map h1
 have hf := find_strs x.n es.toList (pre.map (·.n)) 0 (by rw [h2, List.map_map]; rfl)
 cases hb : nameIn pre x
 ·have hn : x.n ∉ pre.map (·.n) := fun hm => by rw [(nameIn_mem pre x).2 hm] at hb; cases hb
  simp [Instr.lookup, hg, checkKey_str, Instr.findKey, hf.2 hn]
 ·obtain ⟨j, e, he, hfe⟩ := hf.1 ((nameIn_mem pre x).1 hb)
  simp [Instr.lookup, hg, checkKey_str, Instr.findKey, hfe, h3 e he]
theorem look_prio {w : World} {r : Nat} {pre : List Ts} (h : MapOf w r (pre.map fun y => .int .i64 y.p)) (x : Ts) :
  (Instr.lookup 129 (.map (some r)) (.int .i64 x.p) false).run Tryz.prog w = .ok (.bool (prioIn pre x)) w := by
 obtain ⟨es, c, h1, h2, h3⟩ := h
 have hg := getObj_map h1
 have hf := fun k => find_ints x.p k es.toList (pre.map (·.p)) 0 (by rw [h2, List.map_map]; rfl)
 cases hb : prioIn pre x
 ·have hn : x.p ∉ pre.map (·.p) := fun hm => by rw [(prioIn_mem pre x).2 hm] at hb; cases hb
  simp [Instr.lookup, hg, checkKey_int, Instr.findKey, (hf _).2 hn]
 ·obtain ⟨j, e, he, hfe⟩ := (hf .i64).1 ((prioIn_mem pre x).1 hb)
  simp [Instr.lookup, hg, checkKey_int, Instr.findKey, hfe, h3 e he]
theorem setObj_map {w : World} {r : Nat} {es : Array MapEntry} {c : Nat} (h : w.heap[r]? = some (.map es c)) (o : Obj) : (setObj r o).run Tryz.prog w = .ok () (w.putObj r o) := by simp [setObj, Sem.run, h, World.putObj]
theorem put_name {w : World} {r : Nat} {pre : List Ts} (h : MapOf w r (pre.map fun y => .string y.n)) (x : Ts) (hn : nameIn pre x = false) :
  ∃ o, (Instr.mapUpdate 128 (.map (some r)) (.string x.n) (.bool true)).run Tryz.prog w = .ok () (w.putObj r o) ∧ MapOf (w.putObj r o) r ((pre ++ [x]).map fun y => .string y.n) := by
 have hlt := h.lt
 obtain ⟨es, c, h1, h2, h3⟩ := h
 have hg := getObj_map h1
 have hs := setObj_map h1
 have hf := find_strs x.n es.toList (pre.map (·.n)) 0 (by rw [h2, List.map_map]; rfl)
 have hm : x.n ∉ pre.map (·.n) := fun hm => by rw [(nameIn_mem pre x).2 hm] at hn; cases hn
 refine ⟨.map (es.push { key := .string x.n, val := .bool true, born := c }) (c + 1), by simp [Instr.mapUpdate, hg, checkKey_str, Instr.findKey, hf.2 hm, hs], _, _, World.putObj_heap_same hlt, by simp [h2], fun e he => ?_⟩
 simp at he
 rcases he with he | rfl
 ·exact h3 e (by simpa using he)
 ·rfl
theorem put_prio {w : World} {r : Nat} {pre : List Ts} (h : MapOf w r (pre.map fun y => .int .i64 y.p)) (x : Ts) (hn : prioIn pre x = false) :
  ∃ o, (Instr.mapUpdate 129 (.map (some r)) (.int .i64 x.p) (.bool true)).run Tryz.prog w = .ok () (w.putObj r o) ∧ MapOf (w.putObj r o) r ((pre ++ [x]).map fun y => .int .i64 y.p) := by
 have hlt := h.lt
 obtain ⟨es, c, h1, h2, h3⟩ := h
 have hg := getObj_map h1
 have hs := setObj_map h1
 have hf := fun k => find_ints x.p k es.toList (pre.map (·.p)) 0 (by rw [h2, List.map_map]; rfl)
 have hm : x.p ∉ pre.map (·.p) := fun hm => by rw [(prioIn_mem pre x).2 hm] at hn; cases hn
 refine ⟨.map (es.push { key := .int .i64 x.p, val := .bool true, born := c }) (c + 1), by simp [Instr.mapUpdate, hg, checkKey_int, Instr.findKey, (hf _).2 hm, hs], _, _, World.putObj_heap_same hlt, by simp [h2], fun e he => ?_⟩
 simp at he
 rcases he with he | rfl
 ·exact h3 e (by simpa using he)
 ·rfl
def dupE (b : Bool) : Int := if b then 13 else 0
theorem twice_any (b : Bool) (w : World) : Calls Tryz.prog 73 #[.bool b] w fun e w' => e = .returned (.int .i64 (dupE b)) ∧ w = w' := by
 cases b
 ·show Calls Tryz.prog 73 #[.bool false] w fun e w' => e = .returned (.int .i64 0) ∧ w = w'
  go_enter Tryz.func73, Tryz.ntmps73
  go_wp2
  go_ret
  exact ⟨rfl, rfl⟩
 ·show Calls Tryz.prog 73 #[.bool true] w fun e w' => e = .returned (.int .i64 13) ∧ w = w'
  go_enter Tryz.func73, Tryz.ntmps73
  go_wp2
  go_ret
  exact ⟨rfl, rfl⟩
theorem close1_any (b r : Nat) (pre : List Ts) (x : Ts) (w : World) (hc : w.cell? ⟨b, 0, none⟩ = some (.map (some r))) (hm : MapOf w r (pre.map fun y => .string y.n)) :
  Calls Tryz.prog 72 #[tsV x, .pointer (some ⟨b, 0, none⟩)] w fun e w' => e = .returned (.int .i64 (dupE (nameIn pre x))) ∧ Below w.heap.size w w' := by
 have b0 : Below w.heap.size w (w.alloc (.cells #[.string x.n, .int .i64 x.c, .int .i64 x.t, .int .i64 x.d, .int .i64 x.j, .int .i64 x.q, .int .i64 x.p] 26)) := (Below.refl _ _).alloc (Nat.le_refl _) _
 have hbl := World.block_lt_of_cell? w _ hc
 have hlk := look_name (hm.later b0) x
 have T := Lib.hid twice_any
 generalize nameIn pre x = u at *
 go_enter Tryz.func72, Tryz.ntmps72
 go_wp2_with (go_at_call 73; (with_reducible refine (T.out _ _).mono ?_); rintro e w' ⟨rfl, rfl⟩)
 go_ret
 exact ⟨rfl, b0⟩
theorem close2_any (b r : Nat) (pre : List Ts) (x : Ts) (w : World) (hc : w.cell? ⟨b, 0, none⟩ = some (.map (some r))) (hm : MapOf w r (pre.map fun y => .int .i64 y.p)) :
  Calls Tryz.prog 74 #[tsV x, .pointer (some ⟨b, 0, none⟩)] w fun e w' => e = .returned (.int .i64 (dupE (prioIn pre x))) ∧ Below w.heap.size w w' := by
 have b0 : Below w.heap.size w (w.alloc (.cells #[.string x.n, .int .i64 x.c, .int .i64 x.t, .int .i64 x.d, .int .i64 x.j, .int .i64 x.q, .int .i64 x.p] 26)) := (Below.refl _ _).alloc (Nat.le_refl _) _
 have hbl := World.block_lt_of_cell? w _ hc
 have hlk := look_prio (hm.later b0) x
 have T := Lib.hid twice_any
 generalize prioIn pre x = u at *
 go_enter Tryz.func74, Tryz.ntmps74
 go_wp2_with (go_at_call 73; (with_reducible refine (T.out _ _).mono ?_); rintro e w' ⟨rfl, rfl⟩)
 go_ret
 exact ⟨rfl, b0⟩
end
section
open Go.RowKit
theorem run_store_func (P : Program) (w : World) (a : Addr) (m : Mode) (f : Fn) (x y : Array Value) : (store a (.func f x y) m).run P w = stored P w a (.func f x y) m := run_store P w a _ m rfl
attribute [local go_sem] run_store_func
theorem checkAll_many (A : Option Addr) (cap : Nat) (l : List Ts) (w : World) (h : l.length = 0 ∨ 1024 < l.length) (hl : l.length ≤ 9223372036854775807) :
  Calls Tryz.prog 42 #[.slice A l.length cap] w fun e w' => e = .returned (.tuple #[.int .i64 0, .int .i64 14]) ∧ Below w.heap.size w w' := by
 generalize l.length = n at *
 by_cases h0 : n = 0
 ·subst h0
  go_enter Tryz.func42, Tryz.ntmps42
  go_wp2
  go_step3
  go_wp2
  rw [Exit.noGoto_ret]
  go_ret2
  exact ⟨rfl, Below.refl _ _⟩
 ·have t0 : ((n : Int) == 0) = false := by rw [beq_eq_false_iff_ne]; omega
  have t1 : decide ((n : Int) > 1024) = true := decide_eq_true (by omega)
  have t2 : 1024 < (n : Int) := by omega
  go_enter Tryz.func42, Tryz.ntmps42
  go_wp2
  go_step3
  go_wp2
  rw [Exit.noGoto_ret]
  go_ret2
  exact ⟨rfl, Below.refl _ _⟩
structure CA (N : Nat) (w0 w : World) (pre : List Ts) : Prop where
 c4 : w.cell? ⟨N + 1 + 1, 0, none⟩ = some (.map (some N))
 c5 : w.cell? ⟨N + 1 + 1 + 1, 0, none⟩ = some (.map (some (N + 1)))
 l0 : w.cell? ⟨N + 1 + 1 + 1 + 1, 0, none⟩ = some (.func (.func 71) #[] #[])
 l1 : w.cell? ⟨N + 1 + 1 + 1 + 1, 1, none⟩ = some (.func (.func 72) #[] #[.pointer (some ⟨N + 1 + 1, 0, none⟩)])
 l2 : w.cell? ⟨N + 1 + 1 + 1 + 1, 2, none⟩ = some (.func (.func 74) #[] #[.pointer (some ⟨N + 1 + 1 + 1, 0, none⟩)])
 m1 : MapOf w N (pre.map fun y => .string y.n)
 m2 : MapOf w (N + 1) (pre.map fun y => .int .i64 y.p)
 hB : Below N w0 w
 hs : N + 1 + 1 + 1 + 1 < w.heap.size
theorem CA.later {N : Nat} {w0 w w' : World} {pre : List Ts} (h : CA N w0 w pre) (hb : Below w.heap.size w w') : CA N w0 w' pre := by
 have hs := h.hs
 have hz := hb.size
 exact ⟨(hb.cell (p := ⟨N + 1 + 1, 0, none⟩) (by simp only; omega)).trans h.c4, (hb.cell (p := ⟨N + 1 + 1 + 1, 0, none⟩) (by simp only; omega)).trans h.c5,
  (hb.cell (p := ⟨N + 1 + 1 + 1 + 1, 0, none⟩) (by simp only; omega)).trans h.l0, (hb.cell (p := ⟨N + 1 + 1 + 1 + 1, 1, none⟩) (by simp only; omega)).trans h.l1, (hb.cell (p := ⟨N + 1 + 1 + 1 + 1, 2, none⟩) (by simp only; omega)).trans h.l2,
  h.m1.later hb, h.m2.later hb, h.hB.trans (hb.mono (by omega)), by omega⟩
theorem CA.start (w : World) : ∃ W, ((((w.alloc (.map #[] 0)).alloc (.map #[] 0)).alloc (.cells #[.map (some w.heap.size)] 128)).alloc (.cells #[.map (some (w.heap.size + 1))] 129)).alloc
  (.cells #[.func (.func 71) #[] #[], .func (.func 72) #[] #[.pointer (some ⟨w.heap.size + 1 + 1, 0, none⟩)], .func (.func 74) #[] #[.pointer (some ⟨w.heap.size + 1 + 1 + 1, 0, none⟩)]] 132) = W ∧ CA w.heap.size w W [] := by
 have b1 := (Below.refl w.heap.size w).alloc (Nat.le_refl _) (.map #[] 0)
 have hh : ∀ (W : World) (o : Obj) (k : Nat), k < W.heap.size → (W.alloc o).heap[k]? = W.heap[k]? := fun W o k hk => Below.heap_alloc W o k hk
 refine ⟨_, rfl, ?_, ?_, ?_, ?_, ?_, ⟨#[], 0, ?_, rfl, by simp⟩, ⟨#[], 0, ?_, rfl, by simp⟩, ?_, by simp⟩
 ·rw [World.cell?_alloc_lt _ _ _ (by simp), World.cell?_alloc_lt _ _ _ (by simp)]
  have := cell_of_row _ _ 0 _ _ _ (heap_alloc_new ((w.alloc (.map #[] 0)).alloc (.map #[] 0)) (.cells #[.map (some w.heap.size)] 128))
  simp only [World.size_alloc] at this
  exact this
 ·rw [World.cell?_alloc_lt _ _ _ (by simp)]
  have := cell_of_row _ _ 0 _ _ _ (heap_alloc_new (((w.alloc (.map #[] 0)).alloc (.map #[] 0)).alloc (.cells #[.map (some w.heap.size)] 128)) (.cells #[.map (some (w.heap.size + 1))] 129))
  simp only [World.size_alloc] at this
  exact this
 ·have := cell_of_row _ _ 0 _ _ _ (heap_alloc_new ((((w.alloc (.map #[] 0)).alloc (.map #[] 0)).alloc (.cells #[.map (some w.heap.size)] 128)).alloc (.cells #[.map (some (w.heap.size + 1))] 129)) (.cells #[.func (.func 71) #[] #[], .func (.func 72) #[] #[.pointer (some ⟨w.heap.size + 1 + 1, 0, none⟩)], .func (.func 74) #[] #[.pointer (some ⟨w.heap.size + 1 + 1 + 1, 0, none⟩)]] 132))
  simp only [World.size_alloc] at this
  exact this
 ·have := cell_of_row _ _ 1 _ _ _ (heap_alloc_new ((((w.alloc (.map #[] 0)).alloc (.map #[] 0)).alloc (.cells #[.map (some w.heap.size)] 128)).alloc (.cells #[.map (some (w.heap.size + 1))] 129)) (.cells #[.func (.func 71) #[] #[], .func (.func 72) #[] #[.pointer (some ⟨w.heap.size + 1 + 1, 0, none⟩)], .func (.func 74) #[] #[.pointer (some ⟨w.heap.size + 1 + 1 + 1, 0, none⟩)]] 132))
  simp only [World.size_alloc] at this
  exact this
 ·have := cell_of_row _ _ 2 _ _ _ (heap_alloc_new ((((w.alloc (.map #[] 0)).alloc (.map #[] 0)).alloc (.cells #[.map (some w.heap.size)] 128)).alloc (.cells #[.map (some (w.heap.size + 1))] 129)) (.cells #[.func (.func 71) #[] #[], .func (.func 72) #[] #[.pointer (some ⟨w.heap.size + 1 + 1, 0, none⟩)], .func (.func 74) #[] #[.pointer (some ⟨w.heap.size + 1 + 1 + 1, 0, none⟩)]] 132))
  simp only [World.size_alloc] at this
  exact this
 ·rw [hh _ _ _ (by first | (simp; done) | (simp; omega)), hh _ _ _ (by first | (simp; done) | (simp; omega)), hh _ _ _ (by first | (simp; done) | (simp; omega)), hh _ _ _ (by simp)]
  exact heap_alloc_new w _
 ·rw [hh _ _ _ (by first | (simp; done) | (simp; omega)), hh _ _ _ (by first | (simp; done) | (simp; omega)), hh _ _ _ (by simp)]
  have := heap_alloc_new (w.alloc (.map #[] 0)) (.map #[] 0)
  rwa [World.size_alloc] at this
 ·exact ((((b1.alloc (by simp) _).alloc (by first | (simp; done) | (simp; omega)) _).alloc (by first | (simp; done) | (simp; omega)) _).alloc (by first | (simp; done) | (simp; omega)) _)
theorem MapOf.put_other {w : World} {r r' : Nat} {keys : List Value} (h : MapOf w r keys) (o : Obj) (hne : r ≠ r') : MapOf (w.putObj r' o) r keys := by
 obtain ⟨es, c, h1, h2⟩ := h
 exact ⟨es, c, (World.putObj_heap_other hne).trans h1, h2⟩
theorem cell_put {w : World} {r b i : Nat} (o : Obj) (hne : b ≠ r) : (w.putObj r o).cell? ⟨b, i, none⟩ = w.cell? ⟨b, i, none⟩ := by
 unfold World.cell?
 simp only [World.putObj_heap_other (o := o) hne]
theorem below_put {B : Nat} {w0 w : World} {r : Nat} (h : Below B w0 w) (o : Obj) (hB : B ≤ r) : Below B w0 (w.putObj r o) :=
 h.trans ⟨rfl, rfl, rfl, by simp, fun k hk => World.putObj_heap_other (by omega)⟩
theorem CA.put {N : Nat} {w0 w : World} {pre : List Ts} (h : CA N w0 w pre) (x : Ts) (h1 : nameIn pre x = false) (h2 : prioIn pre x = false) :
  ∃ o1 o2, (Instr.mapUpdate 128 (.map (some N)) (.string x.n) (.bool true)).run Tryz.prog w = .ok () (w.putObj N o1) ∧
   (Instr.mapUpdate 129 (.map (some (N + 1))) (.int .i64 x.p) (.bool true)).run Tryz.prog (w.putObj N o1) = .ok () ((w.putObj N o1).putObj (N + 1) o2) ∧
   CA N w0 ((w.putObj N o1).putObj (N + 1) o2) (pre ++ [x]) := by
 obtain ⟨o1, p1, m1⟩ := put_name h.m1 x h1
 obtain ⟨o2, p2, m2⟩ := put_prio (h.m2.put_other (r' := N) o1 (by omega)) x h2
 refine ⟨o1, o2, p1, p2, ?_, ?_, ?_, ?_, ?_, m1.put_other (r' := N + 1) o2 (by omega), m2, below_put (below_put h.hB o1 (Nat.le_refl _)) o2 (by omega), by simp; exact h.hs⟩
 ·rw [cell_put _ (by omega), cell_put _ (by omega)]; exact h.c4
 ·rw [cell_put _ (by omega), cell_put _ (by omega)]; exact h.c5
 ·rw [cell_put _ (by omega), cell_put _ (by omega)]; exact h.l0
 ·rw [cell_put _ (by omega), cell_put _ (by omega)]; exact h.l1
 ·rw [cell_put _ (by omega), cell_put _ (by omega)]; exact h.l2
theorem TAt.z {w : World} {b : Nat} {x : Ts} (h : TAt w b 0 x) : w.cell? ⟨b, 0, none⟩ = some (.string x.n) ∧ w.cell? ⟨b, 1, none⟩ = some (.int .i64 x.c) ∧ w.cell? ⟨b, 2, none⟩ = some (.int .i64 x.t) ∧ w.cell? ⟨b, 3, none⟩ = some (.int .i64 x.d) ∧ w.cell? ⟨b, 4, none⟩ = some (.int .i64 x.j) ∧ w.cell? ⟨b, 5, none⟩ = some (.int .i64 x.q) ∧ w.cell? ⟨b, 6, none⟩ = some (.int .i64 x.p) :=
 ⟨h.c0, h.c1, h.c2, h.c3, h.c4, h.c5, h.c6⟩
theorem three_idx (g0 g1 g2 : Fn) (a0 b0 a1 b1 a2 b2 : Array Value) (w : World) :
  (Instr.index 132 (.agg #[.func g0 a0 b0, .func g1 a1 b1, .func g2 a2 b2]) (.int .i64 0)).run Tryz.prog w = .ok (.func g0 a0 b0) w ∧
  (Instr.index 132 (.agg #[.func g0 a0 b0, .func g1 a1 b1, .func g2 a2 b2]) (.int .i64 1)).run Tryz.prog w = .ok (.func g1 a1 b1) w ∧
  (Instr.index 132 (.agg #[.func g0 a0 b0, .func g1 a1 b1, .func g2 a2 b2]) (.int .i64 2)).run Tryz.prog w = .ok (.func g2 a2 b2) w := by
 refine ⟨?_, ?_, ?_⟩ <;> rfl
theorem checkAll_few (A : Option Addr) (cap : Nat) (l : List Ts) (w : World) (hR : Row w A cap l) (h0 : l.length ≠ 0) (h1 : l.length ≤ 1024) :
  Calls Tryz.prog 42 #[.slice A l.length cap] w fun e w' => e = .returned (.tuple #[.int .i64 ((chkAll l).1 : Int), .int .i64 (chkAll l).2]) ∧ Below w.heap.size w w' := by
 have t0 : ((l.length : Int) == 0) = false := by rw [beq_eq_false_iff_ne]; omega
 have t1 : decide ((l.length : Int) > 1024) = false := decide_eq_false (by omega)
 have t2 : decide (1024 < l.length) = false := decide_eq_false (by omega)
 have hle := hR.le
 have hmx := hR.mx
 have HS := Lib.hid (chk_start h0 h1)
 have ROW := Lib.hid hR
 obtain ⟨a, e, he⟩ : ∃ a e, chkAll l = (a, e) := ⟨_, _, rfl⟩
 rw [he]
 have HE := Lib.hid he
 obtain ⟨W0, hW0, C0⟩ := CA.start w
 have HW0 := Lib.hid hW0
 have hmm := @run_makeMap Tryz.prog
 clear hR he hW0 h0
 go_enter Tryz.func42, Tryz.ntmps42
 go_wp2
 go_step3
 go_wp2
 go_step3
 go_wp2
 rw [HW0.out]
 clear hmm t0 t1 t2 HW0
 generalize hN : w.heap.size = N at *
 have HN := Lib.hid hN
 clear hN
 go_loopg [7, 8, 30] l.length (fun g s7 s8 i wr => ∃ k : Nat, k ≤ l.length ∧ l.length - k ≤ g ∧ i = .int .i64 k ∧ s7 = .int .i64 l.length ∧ s8 = .int .i64 0 ∧ CA N w wr (l.take k) ∧ Hid (chkAll l = chkFrom (l.take k) (l.drop k)))
 case atStart => exact ⟨0, Nat.zero_le _, by omega, rfl, rfl, rfl, C0, HS⟩
 case round =>
  obtain ⟨k, hk, hg, rfl, rfl, rfl, hC, hq⟩ := hrel
  by_cases hlt : k < l.length
  ·obtain ⟨b, o, x, rfl, hx, hw, hbl, hT⟩ := ROW.out.get hlt
   have hTr := hT.below hC.hB (by rw [HN.out] at hbl; exact hbl)
   have c0 := hTr.c0
   have c1 := hTr.c1
   have c2 := hTr.c2
   have c3 := hTr.c3
   have c4 := hTr.c4
   have c5 := hTr.c5
   have c6 := hTr.c6
   have hi0 : (0 : Int) ≤ (k : Int) := by omega
   have hi1 : (k : Int) < (l.length : Int) := by omega
   have HX := Lib.hid hx
   have HC := Lib.hid hC
   clear hT hTr hx hw hC
   go_upto_region 9 with (fail)
   obtain ⟨W1, hW1, C1, T1⟩ : ∃ W1, wr.alloc (.cells #[.string x.n, .int .i64 x.c, .int .i64 x.t, .int .i64 x.d, .int .i64 x.j, .int .i64 x.q, .int .i64 x.p] 26) = W1 ∧ CA N w W1 (l.take k) ∧ TAt W1 wr.heap.size 0 x :=
    ⟨_, rfl, HC.out.later ((Below.refl _ _).alloc (Nat.le_refl _) _), TAt.new wr x⟩
   rw [hW1]
   have u0 := C1.l0
   have u1 := C1.l1
   have u2 := C1.l2
   obtain ⟨z0, z1, z2, z3, z4, z5, z6⟩ := T1.z
   have CA1 := Lib.hid C1
   have T1 := Lib.hid T1
   clear hW1 C1 c0 c1 c2 c3 c4 c5 c6
   have hbx : N < wr.heap.size := by have := HC.out.hs; omega
   generalize wr.heap.size = bx at *
   have K0 := Lib.hid (fun W => check_any x W)
   have I3 := fun W => three_idx (.func 71) (.func 72) (.func 74) #[] #[] #[] #[.pointer (some ⟨N + 1 + 1, 0, none⟩)] #[] #[.pointer (some ⟨N + 1 + 1 + 1, 0, none⟩)] W
   have i30 := fun W => (I3 W).1
   have i31 := fun W => (I3 W).2.1
   have i32 := fun W => (I3 W).2.2
   clear I3
   by_cases he0 : checkE x = 0
   ·cases hn1 : nameIn (l.take k) x
    ·cases hn2 : prioIn (l.take k) x
     ·have HQ := Lib.hid (chk_next hq.out HX.out he0 hn1 hn2)
      rw [he0] at K0
      have hk1 : Hid (nameIn (l.take k) x = false) := Lib.hid hn1
      have hk2 : Hid (prioIn (l.take k) x = false) := Lib.hid hn2
      clear he0 hn1 hn2 hq
      go_wp2
      refine wp_loop_rounds 4 ?_
      rw [rounds_succ]
      go_wp2_with (go_at_call 71; (with_reducible refine (K0.out _).mono ?_); rintro e2 w2 ⟨rfl, h2⟩; have CA2 := CA1.out.later h2; have T2 := T1.out.later h2; obtain ⟨d0, d1, d2, d3, d4, d5, d6⟩ := T2.z; have K1 := Lib.hid (close1_any _ _ (l.take k) x w2 CA2.c4 CA2.m1); have HC2 := Lib.hid CA2; have HT2 := Lib.hid T2; clear CA2 T2 h2)
      rw [hk1.out] at K1
      have K1 : Hid (Calls Tryz.prog 72 #[tsV x, .pointer (some ⟨N + 1 + 1, 0, none⟩)] w2 fun e w' => e = .returned (.int .i64 0) ∧ Below w2.heap.size w2 w') := K1
      clear z0 z1 z2 z3 z4 z5 z6 u0 u1 u2
      rw [rounds_succ]
      go_wp2_with (go_at_call 72; (with_reducible refine K1.out.mono ?_); rintro e3 w3 ⟨rfl, h3⟩; have CA3 := HC2.out.later h3; have T3 := HT2.out.later h3; obtain ⟨f0, f1, f2, f3, f4, f5, f6⟩ := T3.z; have K2 := Lib.hid (close2_any _ _ (l.take k) x w3 CA3.c5 CA3.m2); have HC3 := Lib.hid CA3; have HT3 := Lib.hid T3; clear CA3 T3 h3)
      rw [hk2.out] at K2
      have K2 : Hid (Calls Tryz.prog 74 #[tsV x, .pointer (some ⟨N + 1 + 1 + 1, 0, none⟩)] w3 fun e w' => e = .returned (.int .i64 0) ∧ Below w3.heap.size w3 w') := K2
      clear d0 d1 d2 d3 d4 d5 d6
      rw [rounds_succ]
      go_wp2_with (go_at_call 74; (with_reducible refine K2.out.mono ?_); rintro e4 w4 ⟨rfl, h4⟩; have CA4 := HC3.out.later h4; have T4 := HT3.out.later h4; have HC4 := Lib.hid CA4; have HT4 := Lib.hid T4; clear CA4 T4 h4)
      rw [rounds_succ]
      go_wp2
      obtain ⟨o1, o2, p1, p2, CF⟩ := (HC4.out.later (below_drew w4)).put x hk1.out hk2.out
      have q4 := HC4.out.c4
      have q5 := HC4.out.c5
      obtain ⟨y0, y1, y2, y3, y4, y5, y6⟩ := HT4.out.z
      have HCF := Lib.hid CF
      have v4 : (w4.drew.putObj N o1).cell? ⟨N + 1 + 1, 0, none⟩ = _ := (cell_put o1 (by omega)).trans q4
      have v5 : (w4.drew.putObj N o1).cell? ⟨N + 1 + 1 + 1, 0, none⟩ = _ := (cell_put o1 (by omega)).trans q5
      have v0 : (w4.drew.putObj N o1).cell? ⟨bx, 0, none⟩ = _ := (cell_put o1 (by omega)).trans y0
      have v6 : (w4.drew.putObj N o1).cell? ⟨bx, 6, none⟩ = _ := (cell_put o1 (by omega)).trans y6
      clear CF f0 f1 f2 f3 f4 f5 f6 i30 i31 i32
      go_region
      all_goals
       go_wp2
       go_roundg (l.length - (k + 1))
       case measure => omega
       case rel => exact ⟨k + 1, by omega, by omega, by go_num, rfl, rfl, by rw [take_ts HX.out]; exact HCF.out, HQ⟩
     ·have HQ := Lib.hid ((HE.out.symm.trans (chk_dup hq.out HX.out he0 (by rw [hn2]; simp))))
      rw [he0] at K0
      have hk1 : Hid (nameIn (l.take k) x = false) := Lib.hid hn1
      have hk2 : Hid (prioIn (l.take k) x = true) := Lib.hid hn2
      clear he0 hn1 hn2 hq
      go_wp2
      refine wp_loop_rounds 4 ?_
      rw [rounds_succ]
      go_wp2_with (go_at_call 71; (with_reducible refine (K0.out _).mono ?_); rintro e2 w2 ⟨rfl, h2⟩; have CA2 := CA1.out.later h2; have T2 := T1.out.later h2; obtain ⟨d0, d1, d2, d3, d4, d5, d6⟩ := T2.z; have K1 := Lib.hid (close1_any _ _ (l.take k) x w2 CA2.c4 CA2.m1); have HC2 := Lib.hid CA2; have HT2 := Lib.hid T2; clear CA2 T2 h2)
      rw [hk1.out] at K1
      have K1 : Hid (Calls Tryz.prog 72 #[tsV x, .pointer (some ⟨N + 1 + 1, 0, none⟩)] w2 fun e w' => e = .returned (.int .i64 0) ∧ Below w2.heap.size w2 w') := K1
      clear z0 z1 z2 z3 z4 z5 z6 u0 u1 u2
      rw [rounds_succ]
      go_wp2_with (go_at_call 72; (with_reducible refine K1.out.mono ?_); rintro e3 w3 ⟨rfl, h3⟩; have CA3 := HC2.out.later h3; have T3 := HT2.out.later h3; obtain ⟨f0, f1, f2, f3, f4, f5, f6⟩ := T3.z; have K2 := Lib.hid (close2_any _ _ (l.take k) x w3 CA3.c5 CA3.m2); have HC3 := Lib.hid CA3; have HT3 := Lib.hid T3; clear CA3 T3 h3)
      rw [hk2.out] at K2
      have K2 : Hid (Calls Tryz.prog 74 #[tsV x, .pointer (some ⟨N + 1 + 1 + 1, 0, none⟩)] w3 fun e w' => e = .returned (.int .i64 13) ∧ Below w3.heap.size w3 w') := K2
      clear d0 d1 d2 d3 d4 d5 d6
      rw [rounds_succ]
      go_wp2_with (go_at_call 74; (with_reducible refine K2.out.mono ?_); rintro e4 w4 ⟨rfl, h4⟩; have CA4 := HC3.out.later h4; have T4 := HT3.out.later h4; have HC4 := Lib.hid CA4; have HT4 := Lib.hid T4; clear CA4 T4 h4)
      rw [Exit.noGoto_ret]
      go_ret2
      exact ⟨by obtain ⟨rfl, rfl⟩ := Prod.mk.inj HQ.out; rfl, by rw [HN.out]; exact HC4.out.hB⟩
    ·have HQ := Lib.hid ((HE.out.symm.trans (chk_dup hq.out HX.out he0 (by rw [hn1]; simp))))
     rw [he0] at K0
     have hk1 : Hid (nameIn (l.take k) x = true) := Lib.hid hn1
     clear he0 hn1 hq
     go_wp2
     refine wp_loop_rounds 4 ?_
     rw [rounds_succ]
     go_wp2_with (go_at_call 71; (with_reducible refine (K0.out _).mono ?_); rintro e2 w2 ⟨rfl, h2⟩; have CA2 := CA1.out.later h2; have T2 := T1.out.later h2; obtain ⟨d0, d1, d2, d3, d4, d5, d6⟩ := T2.z; have K1 := Lib.hid (close1_any _ _ (l.take k) x w2 CA2.c4 CA2.m1); have HC2 := Lib.hid CA2; have HT2 := Lib.hid T2; clear CA2 T2 h2)
     rw [hk1.out] at K1
     have K1 : Hid (Calls Tryz.prog 72 #[tsV x, .pointer (some ⟨N + 1 + 1, 0, none⟩)] w2 fun e w' => e = .returned (.int .i64 13) ∧ Below w2.heap.size w2 w') := K1
     clear z0 z1 z2 z3 z4 z5 z6 u0 u1 u2
     rw [rounds_succ]
     go_wp2_with (go_at_call 72; (with_reducible refine K1.out.mono ?_); rintro e3 w3 ⟨rfl, h3⟩; have CA3 := HC2.out.later h3; have T3 := HT2.out.later h3; obtain ⟨f0, f1, f2, f3, f4, f5, f6⟩ := T3.z; have K2 := Lib.hid (close2_any _ _ (l.take k) x w3 CA3.c5 CA3.m2); have HC3 := Lib.hid CA3; have HT3 := Lib.hid T3; clear CA3 T3 h3)
     rw [Exit.noGoto_ret]
     go_ret2
     exact ⟨by obtain ⟨rfl, rfl⟩ := Prod.mk.inj HQ.out; rfl, by rw [HN.out]; exact HC3.out.hB⟩
   ·have HQ := Lib.hid ((HE.out.symm.trans (chk_bad hq.out HX.out he0)))
    have t5 : (checkE x != 0) = true := by simpa using he0
    generalize checkE x = ce at *
    clear he0 hq
    go_wp2
    refine wp_loop_rounds 4 ?_
    rw [rounds_succ]
    go_wp2_with (go_at_call 71; (with_reducible refine (K0.out _).mono ?_); rintro e2 w2 ⟨rfl, h2⟩; have CA2 := CA1.out.later h2; have T2 := T1.out.later h2; obtain ⟨d0, d1, d2, d3, d4, d5, d6⟩ := T2.z; have K1 := Lib.hid (close1_any _ _ (l.take k) x w2 CA2.c4 CA2.m1); have HC2 := Lib.hid CA2; have HT2 := Lib.hid T2; clear CA2 T2 h2)
    rw [Exit.noGoto_ret]
    go_ret2
    exact ⟨by obtain ⟨rfl, rfl⟩ := Prod.mk.inj HQ.out; rfl, by rw [HN.out]; exact HC2.out.hB⟩
  ·obtain rfl : k = l.length := by omega
   have HQ := Lib.hid (HE.out.symm.trans (chk_end hq.out))
   have HC := Lib.hid hC
   clear hq hC
   go_wp2
   rw [Exit.noGoto_ret]
   go_ret2
   exact ⟨by obtain ⟨rfl, rfl⟩ := Prod.mk.inj HQ.out; rfl, by rw [HN.out]; exact HC.out.hB⟩
end
section
open Go.RowKit
theorem checkAll_any (A : Option Addr) (cap : Nat) (l : List Ts) (w : World) (hR : Row w A cap l) :
  Calls Tryz.prog 42 #[.slice A l.length cap] w fun e w' => e = .returned (.tuple #[.int .i64 ((chkAll l).1 : Int), .int .i64 (chkAll l).2]) ∧ Below w.heap.size w w' := by
 by_cases h : l.length = 0 ∨ 1024 < l.length
 ·have := checkAll_many A cap l w h (Nat.le_trans hR.le hR.mx)
  rw [chkAll, if_pos h]
  exact this
 ·exact checkAll_few A cap l w hR (by omega) (by omega)
end
end Go.Proofs.YthfkbbiaemmndaaGreatDoor
