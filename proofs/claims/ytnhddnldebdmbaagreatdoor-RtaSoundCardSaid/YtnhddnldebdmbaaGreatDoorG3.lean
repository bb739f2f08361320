/- Texts about the program, one after the other: Maps, Chk, RChk, Checks, Set. -/
import Derived.Test.YtnhddnldebdmbaaGreatDoorG2
import Derived.Laws.BytesString
import Derived.Laws.AppendOwn
import Derived.RangeFuncBox
import Derived.RangeFuncRecord
import Derived.MapKept
import Derived.Deep.LoopGhost
import Derived.WalkMore
/- What was there ahead: maps of names and of urgencies; the closures that ask them; what CheckAll tells. -/
namespace Go.Proofs.YtnhddnldebdmbaaGreatDoor
open Go.RowKit
set_option linter.unusedVariables false
set_option linter.unusedSimpArgs false

/-! ### What CheckAll tells -/
def nameIn (pre : List Ts) (x : Ts) : Bool := pre.any fun y => decide (y.n = x.n)
def prioIn (pre : List Ts) (x : Ts) : Bool := pre.any fun y => decide (y.p = x.p)
def chkFrom (pre : List Ts) : List Ts → Nat × Int
  | [] => (pre.length, 0)
  | x :: r => if checkE x ≠ 0 then (pre.length, checkE x) else if nameIn pre x || prioIn pre x then (pre.length, 13) else chkFrom (pre ++ [x]) r
def chkAll (l : List Ts) : Nat × Int := if l.length = 0 ∨ 1024 < l.length then (0, 14) else chkFrom [] l
theorem take_ts {l : List Ts} {k : Nat} {x : Ts} (h : l[k]? = some x) : l.take (k + 1) = l.take k ++ [x] := by
  rw [List.take_add_one, h]; rfl
theorem chk_bad {l : List Ts} {k : Nat} {x : Ts} (h : chkAll l = chkFrom (l.take k) (l.drop k)) (hx : l[k]? = some x) (he : checkE x ≠ 0) : chkAll l = (k, checkE x) := by
  have := (List.getElem?_eq_some_iff.1 hx).1
  rw [h, drop_ts hx, chkFrom, if_pos he, List.length_take, Nat.min_eq_left (by omega)]
theorem chk_dup {l : List Ts} {k : Nat} {x : Ts} (h : chkAll l = chkFrom (l.take k) (l.drop k)) (hx : l[k]? = some x) (he : checkE x = 0) (hd : (nameIn (l.take k) x || prioIn (l.take k) x) = true) : chkAll l = (k, 13) := by
  have := (List.getElem?_eq_some_iff.1 hx).1
  rw [h, drop_ts hx, chkFrom, if_neg (by omega), if_pos hd, List.length_take, Nat.min_eq_left (by omega)]
theorem chk_next {l : List Ts} {k : Nat} {x : Ts} (h : chkAll l = chkFrom (l.take k) (l.drop k)) (hx : l[k]? = some x) (he : checkE x = 0) (h1 : nameIn (l.take k) x = false) (h2 : prioIn (l.take k) x = false) : chkAll l = chkFrom (l.take (k + 1)) (l.drop (k + 1)) := by
  rw [h, drop_ts hx, chkFrom, if_neg (by omega), h1, h2, take_ts hx]
  rfl
theorem chk_end {l : List Ts} (h : chkAll l = chkFrom (l.take l.length) (l.drop l.length)) : chkAll l = (l.length, 0) := by
  rw [h, List.drop_length, List.take_length]; rfl
theorem chk_start {l : List Ts} (h0 : l.length ≠ 0) (h1 : l.length ≤ 1024) : chkAll l = chkFrom (l.take 0) (l.drop 0) := by
  rw [chkAll, if_neg (by omega)]; rfl

/-! ### Maps -/
/-- Block r holds a map that holds true at each of these keys, and nothing else. -/
def MapOf (w : World) (r : Nat) (keys : List Value) : Prop := ∃ es c, w.heap[r]? = some (.map es c) ∧ es.toList.map (·.key) = keys ∧ ∀ e ∈ es.toList, e.val = .bool true
theorem MapOf.lt {w : World} {r : Nat} {keys : List Value} (h : MapOf w r keys) : r < w.heap.size := by
  obtain ⟨es, c, h1, _⟩ := h
  exact (Array.getElem?_eq_some_iff.1 h1).1
theorem MapOf.below {w w' : World} {r B : Nat} {keys : List Value} (h : MapOf w r keys) (hb : Below B w w') (hB : r < B) : MapOf w' r keys := by
  obtain ⟨es, c, h1, h2⟩ := h
  exact ⟨es, c, (hb.block r hB).trans h1, h2⟩
theorem MapOf.later {w w' : World} {r : Nat} {keys : List Value} (h : MapOf w r keys) (hb : Below w.heap.size w w') : MapOf w' r keys := h.below hb h.lt

theorem ba_beq (s a : ByteArray) : (s == a) = decide (s = a) := by
  cases s with
  | mk s =>
    cases a with
    | mk a =>
      show (s == a) = _
      rw [Bool.eq_iff_iff]
      simp
theorem find_strs (s : ByteArray) : ∀ (es : List MapEntry) (ks : List ByteArray) (i : Nat), es.map (·.key) = ks.map Value.string →
    (s ∈ ks → ∃ j e, e ∈ es ∧ Instr.findNow .string (.string s) es i = some (some (j, e.val))) ∧ (s ∉ ks → Instr.findNow .string (.string s) es i = some none)
  | [], ks, i, h => by
    cases ks with
    | nil => exact ⟨fun h => by simp at h, fun _ => rfl⟩
    | cons a r => simp at h
  | e :: es, ks, i, h => by
    cases ks with
    | nil => simp at h
    | cons a r =>
      simp only [List.map_cons, List.cons.injEq] at h
      obtain ⟨h1, h2⟩ := h
      have ih := find_strs s es r (i + 1) h2
      unfold Instr.findNow
      rw [h1]
      simp only [Instr.sameNow]
      by_cases hs : s = a
      · subst hs
        simp only [ba_beq, decide_true]
        exact ⟨fun _ => ⟨i, e, by simp, rfl⟩, fun hn => absurd (by simp) hn⟩
      · have hb : (s == a) = false := by rw [ba_beq]; exact decide_eq_false hs
        simp only [hb]
        refine ⟨fun hm => ?_, fun hn => ih.2 (by simp at hn; exact hn.2)⟩
        obtain ⟨j, e', he, hf⟩ := ih.1 (by simpa [hs] using hm)
        exact ⟨j, e', by simp [he], hf⟩
theorem find_ints (s : Int) (k : IntKind) : ∀ (es : List MapEntry) (ks : List Int) (i : Nat), es.map (·.key) = ks.map (Value.int .i64) →
    (s ∈ ks → ∃ j e, e ∈ es ∧ Instr.findNow (.int k) (.int .i64 s) es i = some (some (j, e.val))) ∧ (s ∉ ks → Instr.findNow (.int k) (.int .i64 s) es i = some none)
  | [], ks, i, h => by
    cases ks with
    | nil => exact ⟨fun h => by simp at h, fun _ => rfl⟩
    | cons a r => simp at h
  | e :: es, ks, i, h => by
    cases ks with
    | nil => simp at h
    | cons a r =>
      simp only [List.map_cons, List.cons.injEq] at h
      obtain ⟨h1, h2⟩ := h
      have ih := find_ints s k es r (i + 1) h2
      unfold Instr.findNow
      rw [h1]
      simp only [Instr.sameNow, if_true]
      by_cases hs : s = a
      · subst hs
        simp only [beq_self_eq_true]
        exact ⟨fun _ => ⟨i, e, by simp, rfl⟩, fun hn => absurd (by simp) hn⟩
      · have hb : (s == a) = false := by simpa using hs
        simp only [hb]
        refine ⟨fun hm => ?_, fun hn => ih.2 (by simp at hn; exact hn.2)⟩
        obtain ⟨j, e', he, hf⟩ := ih.1 (by simpa [hs] using hm)
        exact ⟨j, e', by simp [he], hf⟩
theorem nameIn_mem (pre : List Ts) (x : Ts) : nameIn pre x = true ↔ x.n ∈ pre.map (·.n) := by
  simp only [nameIn, List.any_eq_true, decide_eq_true_eq, List.mem_map]
theorem prioIn_mem (pre : List Ts) (x : Ts) : prioIn pre x = true ↔ x.p ∈ pre.map (·.p) := by
  simp only [prioIn, List.any_eq_true, decide_eq_true_eq, List.mem_map]

theorem getObj_map {w : World} {r : Nat} {es : Array MapEntry} {c : Nat} (h : w.heap[r]? = some (.map es c)) : (getObj r).run Tryz.prog w = .ok (.map es c) w := by simp [getObj, Sem.run, h]
theorem checkKey_str (e : Bool) (d : Nat) (s : ByteArray) (w : World) : (Instr.checkKey e (d + 1) 9 (.string s)).run Tryz.prog w = .ok () w := by simp [Instr.checkKey]
theorem checkKey_int (e : Bool) (d : Nat) (s : Int) (w : World) : (Instr.checkKey e (d + 1) 3 (.int .i64 s)).run Tryz.prog w = .ok () w := by simp [Instr.checkKey]

theorem look_name {w : World} {r : Nat} {pre : List Ts} (h : MapOf w r (pre.map fun y => .string y.n)) (x : Ts) :
    (Instr.lookup 95 (.map (some r)) (.string x.n) false).run Tryz.prog w = .ok (.bool (nameIn pre x)) w := by
  obtain ⟨es, c, h1, h2, h3⟩ := h
  have hg := getObj_map h1
  have hf := find_strs x.n es.toList (pre.map (·.n)) 0 (by rw [h2, List.map_map]; rfl)
  cases hb : nameIn pre x
  · have hn : x.n ∉ pre.map (·.n) := fun hm => by rw [(nameIn_mem pre x).2 hm] at hb; cases hb
    simp [Instr.lookup, hg, checkKey_str, Instr.findKey, hf.2 hn]
  · obtain ⟨j, e, he, hfe⟩ := hf.1 ((nameIn_mem pre x).1 hb)
    simp [Instr.lookup, hg, checkKey_str, Instr.findKey, hfe, h3 e he]
theorem look_prio {w : World} {r : Nat} {pre : List Ts} (h : MapOf w r (pre.map fun y => .int .i64 y.p)) (x : Ts) :
    (Instr.lookup 96 (.map (some r)) (.int .i64 x.p) false).run Tryz.prog w = .ok (.bool (prioIn pre x)) w := by
  obtain ⟨es, c, h1, h2, h3⟩ := h
  have hg := getObj_map h1
  have hf := fun k => find_ints x.p k es.toList (pre.map (·.p)) 0 (by rw [h2, List.map_map]; rfl)
  cases hb : prioIn pre x
  · have hn : x.p ∉ pre.map (·.p) := fun hm => by rw [(prioIn_mem pre x).2 hm] at hb; cases hb
    simp [Instr.lookup, hg, checkKey_int, Instr.findKey, (hf _).2 hn]
  · obtain ⟨j, e, he, hfe⟩ := (hf .i64).1 ((prioIn_mem pre x).1 hb)
    simp [Instr.lookup, hg, checkKey_int, Instr.findKey, hfe, h3 e he]
theorem setObj_map {w : World} {r : Nat} {es : Array MapEntry} {c : Nat} (h : w.heap[r]? = some (.map es c)) (o : Obj) : (setObj r o).run Tryz.prog w = .ok () (w.putObj r o) := by simp [setObj, Sem.run, h, World.putObj]
/-- What is new is put behind what was there. -/
theorem put_name {w : World} {r : Nat} {pre : List Ts} (h : MapOf w r (pre.map fun y => .string y.n)) (x : Ts) (hn : nameIn pre x = false) :
    ∃ o, (Instr.mapUpdate 95 (.map (some r)) (.string x.n) (.bool true)).run Tryz.prog w = .ok () (w.putObj r o) ∧ MapOf (w.putObj r o) r ((pre ++ [x]).map fun y => .string y.n) := by
  have hlt := h.lt
  obtain ⟨es, c, h1, h2, h3⟩ := h
  have hg := getObj_map h1
  have hs := setObj_map h1
  have hf := find_strs x.n es.toList (pre.map (·.n)) 0 (by rw [h2, List.map_map]; rfl)
  have hm : x.n ∉ pre.map (·.n) := fun hm => by rw [(nameIn_mem pre x).2 hm] at hn; cases hn
  refine ⟨.map (es.push { key := .string x.n, val := .bool true, born := c }) (c + 1), by simp [Instr.mapUpdate, hg, checkKey_str, Instr.findKey, hf.2 hm, hs], _, _, World.putObj_heap_same hlt, by simp [h2], fun e he => ?_⟩
  simp at he
  rcases he with he | rfl
  · exact h3 e (by simpa using he)
  · rfl
theorem put_prio {w : World} {r : Nat} {pre : List Ts} (h : MapOf w r (pre.map fun y => .int .i64 y.p)) (x : Ts) (hn : prioIn pre x = false) :
    ∃ o, (Instr.mapUpdate 96 (.map (some r)) (.int .i64 x.p) (.bool true)).run Tryz.prog w = .ok () (w.putObj r o) ∧ MapOf (w.putObj r o) r ((pre ++ [x]).map fun y => .int .i64 y.p) := by
  have hlt := h.lt
  obtain ⟨es, c, h1, h2, h3⟩ := h
  have hg := getObj_map h1
  have hs := setObj_map h1
  have hf := fun k => find_ints x.p k es.toList (pre.map (·.p)) 0 (by rw [h2, List.map_map]; rfl)
  have hm : x.p ∉ pre.map (·.p) := fun hm => by rw [(prioIn_mem pre x).2 hm] at hn; cases hn
  refine ⟨.map (es.push { key := .int .i64 x.p, val := .bool true, born := c }) (c + 1), by simp [Instr.mapUpdate, hg, checkKey_int, Instr.findKey, (hf _).2 hm, hs], _, _, World.putObj_heap_same hlt, by simp [h2], fun e he => ?_⟩
  simp at he
  rcases he with he | rfl
  · exact h3 e (by simpa using he)
  · rfl

/-! ### The closures -/
def dupE (b : Bool) : Int := if b then 13 else 0
theorem twice_any (b : Bool) (w : World) : Calls Tryz.prog 51 #[.bool b] w fun e w' => e = .returned (.int .i64 (dupE b)) ∧ w = w' := by
  cases b
  · show Calls Tryz.prog 51 #[.bool false] w fun e w' => e = .returned (.int .i64 0) ∧ w = w'
    go_enter Tryz.func51, Tryz.ntmps51
    go_wp2
    go_ret
    exact ⟨rfl, rfl⟩
  · show Calls Tryz.prog 51 #[.bool true] w fun e w' => e = .returned (.int .i64 13) ∧ w = w'
    go_enter Tryz.func51, Tryz.ntmps51
    go_wp2
    go_ret
    exact ⟨rfl, rfl⟩
set_option maxRecDepth 100000 in
set_option maxHeartbeats 1000000 in
theorem close1_any (b r : Nat) (pre : List Ts) (x : Ts) (w : World) (hc : w.cell? ⟨b, 0, none⟩ = some (.map (some r))) (hm : MapOf w r (pre.map fun y => .string y.n)) :
    Calls Tryz.prog 50 #[tsV x, .pointer (some ⟨b, 0, none⟩)] w fun e w' => e = .returned (.int .i64 (dupE (nameIn pre x))) ∧ Below w.heap.size w w' := by
  have b0 : Below w.heap.size w (w.alloc (.cells #[.string x.n, .int .i64 x.c, .int .i64 x.t, .int .i64 x.d, .int .i64 x.j, .int .i64 x.q, .int .i64 x.p] 40)) := (Below.refl _ _).alloc (Nat.le_refl _) _
  have hbl := World.block_lt_of_cell? w _ hc
  have hlk := look_name (hm.later b0) x
  have T := Lib.hid twice_any
  generalize nameIn pre x = u at *
  go_enter Tryz.func50, Tryz.ntmps50
  go_wp2_with (go_at_call 51; (with_reducible refine (T.out _ _).mono ?_); rintro e w' ⟨rfl, rfl⟩)
  go_ret
  exact ⟨rfl, b0⟩
set_option maxRecDepth 100000 in
set_option maxHeartbeats 1000000 in
theorem close2_any (b r : Nat) (pre : List Ts) (x : Ts) (w : World) (hc : w.cell? ⟨b, 0, none⟩ = some (.map (some r))) (hm : MapOf w r (pre.map fun y => .int .i64 y.p)) :
    Calls Tryz.prog 52 #[tsV x, .pointer (some ⟨b, 0, none⟩)] w fun e w' => e = .returned (.int .i64 (dupE (prioIn pre x))) ∧ Below w.heap.size w w' := by
  have b0 : Below w.heap.size w (w.alloc (.cells #[.string x.n, .int .i64 x.c, .int .i64 x.t, .int .i64 x.d, .int .i64 x.j, .int .i64 x.q, .int .i64 x.p] 40)) := (Below.refl _ _).alloc (Nat.le_refl _) _
  have hbl := World.block_lt_of_cell? w _ hc
  have hlk := look_prio (hm.later b0) x
  have T := Lib.hid twice_any
  generalize prioIn pre x = u at *
  go_enter Tryz.func52, Tryz.ntmps52
  go_wp2_with (go_at_call 51; (with_reducible refine (T.out _ _).mono ?_); rintro e w' ⟨rfl, rfl⟩)
  go_ret
  exact ⟨rfl, b0⟩
end Go.Proofs.YtnhddnldebdmbaaGreatDoor
/- CheckAll: the walk. -/
namespace Go.Proofs.YtnhddnldebdmbaaGreatDoor
open Go.RowKit
set_option linter.unusedVariables false
set_option linter.unusedSimpArgs false

theorem run_store_func (P : Program) (w : World) (a : Addr) (m : Mode) (f : Fn) (x y : Array Value) : (store a (.func f x y) m).run P w = stored P w a (.func f x y) m := run_store P w a _ m rfl
attribute [local go_sem] run_store_func
theorem checkAll_many (A : Option Addr) (cap : Nat) (l : List Ts) (w : World) (h : l.length = 0 ∨ 1024 < l.length) (hl : l.length ≤ 9223372036854775807) :
    Calls Tryz.prog 24 #[.slice A l.length cap] w fun e w' => e = .returned (.tuple #[.int .i64 0, .int .i64 14]) ∧ Below w.heap.size w w' := by
  generalize l.length = n at *
  by_cases h0 : n = 0
  · subst h0
    go_enter Tryz.func24, Tryz.ntmps24
    go_wp2
    go_step3
    go_wp2
    rw [Exit.noGoto_ret]
    go_ret2
    exact ⟨rfl, Below.refl _ _⟩
  · have t0 : ((n : Int) == 0) = false := by rw [beq_eq_false_iff_ne]; omega
    have t1 : decide ((n : Int) > 1024) = true := decide_eq_true (by omega)
    have t2 : 1024 < (n : Int) := by omega
    go_enter Tryz.func24, Tryz.ntmps24
    go_wp2
    go_step3
    go_wp2
    rw [Exit.noGoto_ret]
    go_ret2
    exact ⟨rfl, Below.refl _ _⟩

/-- What the walk holds of memory, at each task: N is how much there was. -/
structure CA (N : Nat) (w0 w : World) (pre : List Ts) : Prop where
  c4 : w.cell? ⟨N + 1 + 1, 0, none⟩ = some (.map (some N))
  c5 : w.cell? ⟨N + 1 + 1 + 1, 0, none⟩ = some (.map (some (N + 1)))
  l0 : w.cell? ⟨N + 1 + 1 + 1 + 1, 0, none⟩ = some (.func (.func 49) #[] #[])
  l1 : w.cell? ⟨N + 1 + 1 + 1 + 1, 1, none⟩ = some (.func (.func 50) #[] #[.pointer (some ⟨N + 1 + 1, 0, none⟩)])
  l2 : w.cell? ⟨N + 1 + 1 + 1 + 1, 2, none⟩ = some (.func (.func 52) #[] #[.pointer (some ⟨N + 1 + 1 + 1, 0, none⟩)])
  m1 : MapOf w N (pre.map fun y => .string y.n)
  m2 : MapOf w (N + 1) (pre.map fun y => .int .i64 y.p)
  hB : Below N w0 w
  hs : N + 1 + 1 + 1 + 1 < w.heap.size
theorem CA.later {N : Nat} {w0 w w' : World} {pre : List Ts} (h : CA N w0 w pre) (hb : Below w.heap.size w w') : CA N w0 w' pre := by
  have hs := h.hs
  have hz := hb.size
  exact ⟨(hb.cell (p := ⟨N + 1 + 1, 0, none⟩) (by simp only; omega)).trans h.c4, (hb.cell (p := ⟨N + 1 + 1 + 1, 0, none⟩) (by simp only; omega)).trans h.c5,
    (hb.cell (p := ⟨N + 1 + 1 + 1 + 1, 0, none⟩) (by simp only; omega)).trans h.l0, (hb.cell (p := ⟨N + 1 + 1 + 1 + 1, 1, none⟩) (by simp only; omega)).trans h.l1, (hb.cell (p := ⟨N + 1 + 1 + 1 + 1, 2, none⟩) (by simp only; omega)).trans h.l2,
    h.m1.later hb, h.m2.later hb, h.hB.trans (hb.mono (by omega)), by omega⟩
theorem CA.start (w : World) : ∃ W, ((((w.alloc (.map #[] 0)).alloc (.map #[] 0)).alloc (.cells #[.map (some w.heap.size)] 95)).alloc (.cells #[.map (some (w.heap.size + 1))] 96)).alloc
    (.cells #[.func (.func 49) #[] #[], .func (.func 50) #[] #[.pointer (some ⟨w.heap.size + 1 + 1, 0, none⟩)], .func (.func 52) #[] #[.pointer (some ⟨w.heap.size + 1 + 1 + 1, 0, none⟩)]] 98) = W ∧ CA w.heap.size w W [] := by
  have b1 := (Below.refl w.heap.size w).alloc (Nat.le_refl _) (.map #[] 0)
  have hh : ∀ (W : World) (o : Obj) (k : Nat), k < W.heap.size → (W.alloc o).heap[k]? = W.heap[k]? := fun W o k hk => Below.heap_alloc W o k hk
  refine ⟨_, rfl, ?_, ?_, ?_, ?_, ?_, ⟨#[], 0, ?_, rfl, by simp⟩, ⟨#[], 0, ?_, rfl, by simp⟩, ?_, by simp⟩
  · rw [World.cell?_alloc_lt _ _ _ (by simp), World.cell?_alloc_lt _ _ _ (by simp)]
    have := cell_of_row _ _ 0 _ _ _ (heap_alloc_new ((w.alloc (.map #[] 0)).alloc (.map #[] 0)) (.cells #[.map (some w.heap.size)] 95))
    simp only [World.size_alloc] at this
    exact this
  · rw [World.cell?_alloc_lt _ _ _ (by simp)]
    have := cell_of_row _ _ 0 _ _ _ (heap_alloc_new (((w.alloc (.map #[] 0)).alloc (.map #[] 0)).alloc (.cells #[.map (some w.heap.size)] 95)) (.cells #[.map (some (w.heap.size + 1))] 96))
    simp only [World.size_alloc] at this
    exact this
  · have := cell_of_row _ _ 0 _ _ _ (heap_alloc_new ((((w.alloc (.map #[] 0)).alloc (.map #[] 0)).alloc (.cells #[.map (some w.heap.size)] 95)).alloc (.cells #[.map (some (w.heap.size + 1))] 96)) (.cells #[.func (.func 49) #[] #[], .func (.func 50) #[] #[.pointer (some ⟨w.heap.size + 1 + 1, 0, none⟩)], .func (.func 52) #[] #[.pointer (some ⟨w.heap.size + 1 + 1 + 1, 0, none⟩)]] 98))
    simp only [World.size_alloc] at this
    exact this
  · have := cell_of_row _ _ 1 _ _ _ (heap_alloc_new ((((w.alloc (.map #[] 0)).alloc (.map #[] 0)).alloc (.cells #[.map (some w.heap.size)] 95)).alloc (.cells #[.map (some (w.heap.size + 1))] 96)) (.cells #[.func (.func 49) #[] #[], .func (.func 50) #[] #[.pointer (some ⟨w.heap.size + 1 + 1, 0, none⟩)], .func (.func 52) #[] #[.pointer (some ⟨w.heap.size + 1 + 1 + 1, 0, none⟩)]] 98))
    simp only [World.size_alloc] at this
    exact this
  · have := cell_of_row _ _ 2 _ _ _ (heap_alloc_new ((((w.alloc (.map #[] 0)).alloc (.map #[] 0)).alloc (.cells #[.map (some w.heap.size)] 95)).alloc (.cells #[.map (some (w.heap.size + 1))] 96)) (.cells #[.func (.func 49) #[] #[], .func (.func 50) #[] #[.pointer (some ⟨w.heap.size + 1 + 1, 0, none⟩)], .func (.func 52) #[] #[.pointer (some ⟨w.heap.size + 1 + 1 + 1, 0, none⟩)]] 98))
    simp only [World.size_alloc] at this
    exact this
  · rw [hh _ _ _ (by first | (simp; done) | (simp; omega)), hh _ _ _ (by first | (simp; done) | (simp; omega)), hh _ _ _ (by first | (simp; done) | (simp; omega)), hh _ _ _ (by simp)]
    exact heap_alloc_new w _
  · rw [hh _ _ _ (by first | (simp; done) | (simp; omega)), hh _ _ _ (by first | (simp; done) | (simp; omega)), hh _ _ _ (by simp)]
    have := heap_alloc_new (w.alloc (.map #[] 0)) (.map #[] 0)
    rwa [World.size_alloc] at this
  · exact ((((b1.alloc (by simp) _).alloc (by first | (simp; done) | (simp; omega)) _).alloc (by first | (simp; done) | (simp; omega)) _).alloc (by first | (simp; done) | (simp; omega)) _)
theorem MapOf.put_other {w : World} {r r' : Nat} {keys : List Value} (h : MapOf w r keys) (o : Obj) (hne : r ≠ r') : MapOf (w.putObj r' o) r keys := by
  obtain ⟨es, c, h1, h2⟩ := h
  exact ⟨es, c, (World.putObj_heap_other hne).trans h1, h2⟩
theorem cell_put {w : World} {r b i : Nat} (o : Obj) (hne : b ≠ r) : (w.putObj r o).cell? ⟨b, i, none⟩ = w.cell? ⟨b, i, none⟩ := by
  unfold World.cell?
  simp only [World.putObj_heap_other (o := o) hne]
theorem below_put {B : Nat} {w0 w : World} {r : Nat} (h : Below B w0 w) (o : Obj) (hB : B ≤ r) : Below B w0 (w.putObj r o) :=
  h.trans ⟨rfl, rfl, rfl, by simp, fun k hk => World.putObj_heap_other (by omega)⟩
theorem CA.put {N : Nat} {w0 w : World} {pre : List Ts} (h : CA N w0 w pre) (x : Ts) (h1 : nameIn pre x = false) (h2 : prioIn pre x = false) :
    ∃ o1 o2, (Instr.mapUpdate 95 (.map (some N)) (.string x.n) (.bool true)).run Tryz.prog w = .ok () (w.putObj N o1) ∧
      (Instr.mapUpdate 96 (.map (some (N + 1))) (.int .i64 x.p) (.bool true)).run Tryz.prog (w.putObj N o1) = .ok () ((w.putObj N o1).putObj (N + 1) o2) ∧
      CA N w0 ((w.putObj N o1).putObj (N + 1) o2) (pre ++ [x]) := by
  obtain ⟨o1, p1, m1⟩ := put_name h.m1 x h1
  obtain ⟨o2, p2, m2⟩ := put_prio (h.m2.put_other (r' := N) o1 (by omega)) x h2
  refine ⟨o1, o2, p1, p2, ?_, ?_, ?_, ?_, ?_, m1.put_other (r' := N + 1) o2 (by omega), m2, below_put (below_put h.hB o1 (Nat.le_refl _)) o2 (by omega), by simp; exact h.hs⟩
  · rw [cell_put _ (by omega), cell_put _ (by omega)]; exact h.c4
  · rw [cell_put _ (by omega), cell_put _ (by omega)]; exact h.c5
  · rw [cell_put _ (by omega), cell_put _ (by omega)]; exact h.l0
  · rw [cell_put _ (by omega), cell_put _ (by omega)]; exact h.l1
  · rw [cell_put _ (by omega), cell_put _ (by omega)]; exact h.l2
/-- A task that lies at the beginning of a block. -/
theorem TAt.z {w : World} {b : Nat} {x : Ts} (h : TAt w b 0 x) : w.cell? ⟨b, 0, none⟩ = some (.string x.n) ∧ w.cell? ⟨b, 1, none⟩ = some (.int .i64 x.c) ∧ w.cell? ⟨b, 2, none⟩ = some (.int .i64 x.t) ∧ w.cell? ⟨b, 3, none⟩ = some (.int .i64 x.d) ∧ w.cell? ⟨b, 4, none⟩ = some (.int .i64 x.j) ∧ w.cell? ⟨b, 5, none⟩ = some (.int .i64 x.q) ∧ w.cell? ⟨b, 6, none⟩ = some (.int .i64 x.p) :=
  ⟨h.c0, h.c1, h.c2, h.c3, h.c4, h.c5, h.c6⟩
set_option maxRecDepth 100000 in
theorem three_idx (g0 g1 g2 : Fn) (a0 b0 a1 b1 a2 b2 : Array Value) (w : World) :
    (Instr.index 98 (.agg #[.func g0 a0 b0, .func g1 a1 b1, .func g2 a2 b2]) (.int .i64 0)).run Tryz.prog w = .ok (.func g0 a0 b0) w ∧
    (Instr.index 98 (.agg #[.func g0 a0 b0, .func g1 a1 b1, .func g2 a2 b2]) (.int .i64 1)).run Tryz.prog w = .ok (.func g1 a1 b1) w ∧
    (Instr.index 98 (.agg #[.func g0 a0 b0, .func g1 a1 b1, .func g2 a2 b2]) (.int .i64 2)).run Tryz.prog w = .ok (.func g2 a2 b2) w := by
  refine ⟨?_, ?_, ?_⟩ <;> rfl

set_option maxRecDepth 100000 in
set_option maxHeartbeats 8000000 in
theorem checkAll_few (A : Option Addr) (cap : Nat) (l : List Ts) (w : World) (hR : Row w A cap l) (h0 : l.length ≠ 0) (h1 : l.length ≤ 1024) :
    Calls Tryz.prog 24 #[.slice A l.length cap] w fun e w' => e = .returned (.tuple #[.int .i64 ((chkAll l).1 : Int), .int .i64 (chkAll l).2]) ∧ Below w.heap.size w w' := by
  have t0 : ((l.length : Int) == 0) = false := by rw [beq_eq_false_iff_ne]; omega
  have t1 : decide ((l.length : Int) > 1024) = false := decide_eq_false (by omega)
  have t2 : decide (1024 < l.length) = false := decide_eq_false (by omega)
  have hle := hR.le
  have hmx := hR.mx
  have HS := Lib.hid (chk_start h0 h1)
  have ROW := Lib.hid hR
  obtain ⟨a, e, he⟩ : ∃ a e, chkAll l = (a, e) := ⟨_, _, rfl⟩
  rw [he]
  have HE := Lib.hid he
  obtain ⟨W0, hW0, C0⟩ := CA.start w
  have HW0 := Lib.hid hW0
  have hmm := @run_makeMap Tryz.prog
  clear hR he hW0 h0
  go_enter Tryz.func24, Tryz.ntmps24
  go_wp2
  go_step3
  go_wp2
  go_step3
  go_wp2
  rw [HW0.out]
  clear hmm t0 t1 t2 HW0
  generalize hN : w.heap.size = N at *
  have HN := Lib.hid hN
  clear hN
  go_loopg [7, 8, 30] l.length (fun g s7 s8 i wr => ∃ k : Nat, k ≤ l.length ∧ l.length - k ≤ g ∧ i = .int .i64 k ∧ s7 = .int .i64 l.length ∧ s8 = .int .i64 0 ∧ CA N w wr (l.take k) ∧ Hid (chkAll l = chkFrom (l.take k) (l.drop k)))
  case atStart => exact ⟨0, Nat.zero_le _, by omega, rfl, rfl, rfl, C0, HS⟩
  case round =>
    obtain ⟨k, hk, hg, rfl, rfl, rfl, hC, hq⟩ := hrel
    by_cases hlt : k < l.length
    · obtain ⟨b, o, x, rfl, hx, hw, hbl, hT⟩ := ROW.out.get hlt
      have hTr := hT.below hC.hB (by rw [HN.out] at hbl; exact hbl)
      have c0 := hTr.c0
      have c1 := hTr.c1
      have c2 := hTr.c2
      have c3 := hTr.c3
      have c4 := hTr.c4
      have c5 := hTr.c5
      have c6 := hTr.c6
      have hi0 : (0 : Int) ≤ (k : Int) := by omega
      have hi1 : (k : Int) < (l.length : Int) := by omega
      have HX := Lib.hid hx
      have HC := Lib.hid hC
      clear hT hTr hx hw hC
      go_upto_region 9 with (fail)
      obtain ⟨W1, hW1, C1, T1⟩ : ∃ W1, wr.alloc (.cells #[.string x.n, .int .i64 x.c, .int .i64 x.t, .int .i64 x.d, .int .i64 x.j, .int .i64 x.q, .int .i64 x.p] 40) = W1 ∧ CA N w W1 (l.take k) ∧ TAt W1 wr.heap.size 0 x :=
        ⟨_, rfl, HC.out.later ((Below.refl _ _).alloc (Nat.le_refl _) _), TAt.new wr x⟩
      rw [hW1]
      have u0 := C1.l0
      have u1 := C1.l1
      have u2 := C1.l2
      obtain ⟨z0, z1, z2, z3, z4, z5, z6⟩ := T1.z
      have CA1 := Lib.hid C1
      have T1 := Lib.hid T1
      clear hW1 C1 c0 c1 c2 c3 c4 c5 c6
      have hbx : N < wr.heap.size := by have := HC.out.hs; omega
      generalize wr.heap.size = bx at *
      have K0 := Lib.hid (fun W => check_any x W)
      have I3 := fun W => three_idx (.func 49) (.func 50) (.func 52) #[] #[] #[] #[.pointer (some ⟨N + 1 + 1, 0, none⟩)] #[] #[.pointer (some ⟨N + 1 + 1 + 1, 0, none⟩)] W
      have i30 := fun W => (I3 W).1
      have i31 := fun W => (I3 W).2.1
      have i32 := fun W => (I3 W).2.2
      clear I3
      by_cases he0 : checkE x = 0
      · cases hn1 : nameIn (l.take k) x
        · cases hn2 : prioIn (l.take k) x
          · have HQ := Lib.hid (chk_next hq.out HX.out he0 hn1 hn2)
            rw [he0] at K0
            have hk1 : Hid (nameIn (l.take k) x = false) := Lib.hid hn1
            have hk2 : Hid (prioIn (l.take k) x = false) := Lib.hid hn2
            clear he0 hn1 hn2 hq
            go_wp2
            refine wp_loop_rounds 4 ?_
            rw [rounds_succ]
            go_wp2_with (go_at_call 49; (with_reducible refine (K0.out _).mono ?_); rintro e2 w2 ⟨rfl, h2⟩; have CA2 := CA1.out.later h2; have T2 := T1.out.later h2; obtain ⟨d0, d1, d2, d3, d4, d5, d6⟩ := T2.z; have K1 := Lib.hid (close1_any _ _ (l.take k) x w2 CA2.c4 CA2.m1); have HC2 := Lib.hid CA2; have HT2 := Lib.hid T2; clear CA2 T2 h2)
            rw [hk1.out] at K1
            have K1 : Hid (Calls Tryz.prog 50 #[tsV x, .pointer (some ⟨N + 1 + 1, 0, none⟩)] w2 fun e w' => e = .returned (.int .i64 0) ∧ Below w2.heap.size w2 w') := K1
            clear z0 z1 z2 z3 z4 z5 z6 u0 u1 u2
            rw [rounds_succ]
            go_wp2_with (go_at_call 50; (with_reducible refine K1.out.mono ?_); rintro e3 w3 ⟨rfl, h3⟩; have CA3 := HC2.out.later h3; have T3 := HT2.out.later h3; obtain ⟨f0, f1, f2, f3, f4, f5, f6⟩ := T3.z; have K2 := Lib.hid (close2_any _ _ (l.take k) x w3 CA3.c5 CA3.m2); have HC3 := Lib.hid CA3; have HT3 := Lib.hid T3; clear CA3 T3 h3)
            rw [hk2.out] at K2
            have K2 : Hid (Calls Tryz.prog 52 #[tsV x, .pointer (some ⟨N + 1 + 1 + 1, 0, none⟩)] w3 fun e w' => e = .returned (.int .i64 0) ∧ Below w3.heap.size w3 w') := K2
            clear d0 d1 d2 d3 d4 d5 d6
            rw [rounds_succ]
            go_wp2_with (go_at_call 52; (with_reducible refine K2.out.mono ?_); rintro e4 w4 ⟨rfl, h4⟩; have CA4 := HC3.out.later h4; have T4 := HT3.out.later h4; have HC4 := Lib.hid CA4; have HT4 := Lib.hid T4; clear CA4 T4 h4)
            rw [rounds_succ]
            go_wp2
            obtain ⟨o1, o2, p1, p2, CF⟩ := (HC4.out.later (below_drew w4)).put x hk1.out hk2.out
            have q4 := HC4.out.c4
            have q5 := HC4.out.c5
            obtain ⟨y0, y1, y2, y3, y4, y5, y6⟩ := HT4.out.z
            have HCF := Lib.hid CF
            have v4 : (w4.drew.putObj N o1).cell? ⟨N + 1 + 1, 0, none⟩ = _ := (cell_put o1 (by omega)).trans q4
            have v5 : (w4.drew.putObj N o1).cell? ⟨N + 1 + 1 + 1, 0, none⟩ = _ := (cell_put o1 (by omega)).trans q5
            have v0 : (w4.drew.putObj N o1).cell? ⟨bx, 0, none⟩ = _ := (cell_put o1 (by omega)).trans y0
            have v6 : (w4.drew.putObj N o1).cell? ⟨bx, 6, none⟩ = _ := (cell_put o1 (by omega)).trans y6
            clear CF f0 f1 f2 f3 f4 f5 f6 i30 i31 i32
            go_region
            all_goals
              go_wp2
              go_roundg (l.length - (k + 1))
              case measure => omega
              case rel => exact ⟨k + 1, by omega, by omega, by go_num, rfl, rfl, by rw [take_ts HX.out]; exact HCF.out, HQ⟩
          · have HQ := Lib.hid ((HE.out.symm.trans (chk_dup hq.out HX.out he0 (by rw [hn2]; simp))))
            rw [he0] at K0
            have hk1 : Hid (nameIn (l.take k) x = false) := Lib.hid hn1
            have hk2 : Hid (prioIn (l.take k) x = true) := Lib.hid hn2
            clear he0 hn1 hn2 hq
            go_wp2
            refine wp_loop_rounds 4 ?_
            rw [rounds_succ]
            go_wp2_with (go_at_call 49; (with_reducible refine (K0.out _).mono ?_); rintro e2 w2 ⟨rfl, h2⟩; have CA2 := CA1.out.later h2; have T2 := T1.out.later h2; obtain ⟨d0, d1, d2, d3, d4, d5, d6⟩ := T2.z; have K1 := Lib.hid (close1_any _ _ (l.take k) x w2 CA2.c4 CA2.m1); have HC2 := Lib.hid CA2; have HT2 := Lib.hid T2; clear CA2 T2 h2)
            rw [hk1.out] at K1
            have K1 : Hid (Calls Tryz.prog 50 #[tsV x, .pointer (some ⟨N + 1 + 1, 0, none⟩)] w2 fun e w' => e = .returned (.int .i64 0) ∧ Below w2.heap.size w2 w') := K1
            clear z0 z1 z2 z3 z4 z5 z6 u0 u1 u2
            rw [rounds_succ]
            go_wp2_with (go_at_call 50; (with_reducible refine K1.out.mono ?_); rintro e3 w3 ⟨rfl, h3⟩; have CA3 := HC2.out.later h3; have T3 := HT2.out.later h3; obtain ⟨f0, f1, f2, f3, f4, f5, f6⟩ := T3.z; have K2 := Lib.hid (close2_any _ _ (l.take k) x w3 CA3.c5 CA3.m2); have HC3 := Lib.hid CA3; have HT3 := Lib.hid T3; clear CA3 T3 h3)
            rw [hk2.out] at K2
            have K2 : Hid (Calls Tryz.prog 52 #[tsV x, .pointer (some ⟨N + 1 + 1 + 1, 0, none⟩)] w3 fun e w' => e = .returned (.int .i64 13) ∧ Below w3.heap.size w3 w') := K2
            clear d0 d1 d2 d3 d4 d5 d6
            rw [rounds_succ]
            go_wp2_with (go_at_call 52; (with_reducible refine K2.out.mono ?_); rintro e4 w4 ⟨rfl, h4⟩; have CA4 := HC3.out.later h4; have T4 := HT3.out.later h4; have HC4 := Lib.hid CA4; have HT4 := Lib.hid T4; clear CA4 T4 h4)
            rw [Exit.noGoto_ret]
            go_ret2
            exact ⟨by obtain ⟨rfl, rfl⟩ := Prod.mk.inj HQ.out; rfl, by rw [HN.out]; exact HC4.out.hB⟩
        · have HQ := Lib.hid ((HE.out.symm.trans (chk_dup hq.out HX.out he0 (by rw [hn1]; simp))))
          rw [he0] at K0
          have hk1 : Hid (nameIn (l.take k) x = true) := Lib.hid hn1
          clear he0 hn1 hq
          go_wp2
          refine wp_loop_rounds 4 ?_
          rw [rounds_succ]
          go_wp2_with (go_at_call 49; (with_reducible refine (K0.out _).mono ?_); rintro e2 w2 ⟨rfl, h2⟩; have CA2 := CA1.out.later h2; have T2 := T1.out.later h2; obtain ⟨d0, d1, d2, d3, d4, d5, d6⟩ := T2.z; have K1 := Lib.hid (close1_any _ _ (l.take k) x w2 CA2.c4 CA2.m1); have HC2 := Lib.hid CA2; have HT2 := Lib.hid T2; clear CA2 T2 h2)
          rw [hk1.out] at K1
          have K1 : Hid (Calls Tryz.prog 50 #[tsV x, .pointer (some ⟨N + 1 + 1, 0, none⟩)] w2 fun e w' => e = .returned (.int .i64 13) ∧ Below w2.heap.size w2 w') := K1
          clear z0 z1 z2 z3 z4 z5 z6 u0 u1 u2
          rw [rounds_succ]
          go_wp2_with (go_at_call 50; (with_reducible refine K1.out.mono ?_); rintro e3 w3 ⟨rfl, h3⟩; have CA3 := HC2.out.later h3; have T3 := HT2.out.later h3; obtain ⟨f0, f1, f2, f3, f4, f5, f6⟩ := T3.z; have K2 := Lib.hid (close2_any _ _ (l.take k) x w3 CA3.c5 CA3.m2); have HC3 := Lib.hid CA3; have HT3 := Lib.hid T3; clear CA3 T3 h3)
          rw [Exit.noGoto_ret]
          go_ret2
          exact ⟨by obtain ⟨rfl, rfl⟩ := Prod.mk.inj HQ.out; rfl, by rw [HN.out]; exact HC3.out.hB⟩
      · have HQ := Lib.hid ((HE.out.symm.trans (chk_bad hq.out HX.out he0)))
        have t5 : (checkE x != 0) = true := by simpa using he0
        generalize checkE x = ce at *
        clear he0 hq
        go_wp2
        refine wp_loop_rounds 4 ?_
        rw [rounds_succ]
        go_wp2_with (go_at_call 49; (with_reducible refine (K0.out _).mono ?_); rintro e2 w2 ⟨rfl, h2⟩; have CA2 := CA1.out.later h2; have T2 := T1.out.later h2; obtain ⟨d0, d1, d2, d3, d4, d5, d6⟩ := T2.z; have K1 := Lib.hid (close1_any _ _ (l.take k) x w2 CA2.c4 CA2.m1); have HC2 := Lib.hid CA2; have HT2 := Lib.hid T2; clear CA2 T2 h2)
        rw [Exit.noGoto_ret]
        go_ret2
        exact ⟨by obtain ⟨rfl, rfl⟩ := Prod.mk.inj HQ.out; rfl, by rw [HN.out]; exact HC2.out.hB⟩
    · obtain rfl : k = l.length := by omega
      have HQ := Lib.hid (HE.out.symm.trans (chk_end hq.out))
      have HC := Lib.hid hC
      clear hq hC
      go_wp2
      rw [Exit.noGoto_ret]
      go_ret2
      exact ⟨by obtain ⟨rfl, rfl⟩ := Prod.mk.inj HQ.out; rfl, by rw [HN.out]; exact HC.out.hB⟩
end Go.Proofs.YtnhddnldebdmbaaGreatDoor
/- The document's own CheckAll. -/
namespace Go.Proofs.YtnhddnldebdmbaaGreatDoor
open Go.RowKit
set_option linter.unusedVariables false
set_option linter.unusedSimpArgs false

/-- A block that holds a place and an error. -/
structure GB (w : World) (b : Nat) (a e : Int) : Prop where
  is : w.heap[b]? = some (.cells #[.int .i64 a, .int .i64 e] 51 (0, 0))
theorem GB.lt {W : World} {b : Nat} {a e : Int} (h : GB W b a e) : b < W.heap.size := (Array.getElem?_eq_some_iff.1 h.is).1
theorem GB.c0 {W : World} {b : Nat} {a e : Int} (h : GB W b a e) : W.cell? ⟨b, 0, none⟩ = some (.int .i64 a) := by rw [cell_of_row W b 0 _ _ _ h.is]; rfl
theorem GB.c1 {W : World} {b : Nat} {a e : Int} (h : GB W b a e) : W.cell? ⟨b, 1, none⟩ = some (.int .i64 e) := by rw [cell_of_row W b 1 _ _ _ h.is]; rfl
theorem GB.frozen {W : World} {b : Nat} {a e : Int} (h : GB W b a e) (i : Nat) : W.frozen? ⟨b, i, none⟩ = false := frozen_of_row W b i _ _ h.is
theorem GB.later {W W' : World} {b : Nat} {a e : Int} (h : GB W b a e) (hb : Below W.heap.size W W') : GB W' b a e := ⟨(hb.block b h.lt).trans h.is⟩
theorem GB.set0 {W : World} {b : Nat} {a e : Int} (h : GB W b a e) (a' : Int) : GB (W.setCell ⟨b, 0, none⟩ (.int .i64 a')) b a' e := ⟨heap_setCell_same _ b 0 _ _ (.int .i64 a') h.is⟩
theorem GB.set1 {W : World} {b : Nat} {a e : Int} (h : GB W b a e) (e' : Int) : GB (W.setCell ⟨b, 1, none⟩ (.int .i64 e')) b a e' := ⟨heap_setCell_same _ b 1 _ _ (.int .i64 e') h.is⟩
theorem GB.new (w : World) (a e : Int) : GB (w.alloc (.cells #[.int .i64 a, .int .i64 e] 51)) w.heap.size a e := ⟨heap_alloc_new w _⟩
theorem infoG : (Tryz.prog.info? 51).map (·.size) = some 2 := by kernel_rfl
theorem results_got {fn : Func} {p : Tmp} (h : fn.results = #[.cell p 51]) (tmps : Array Value) (w : World) (b : Nat) (a e : Int) (hp : tmps.getD p undef = .pointer (some ⟨b, 0, none⟩)) (hb : GB w b a e) :
    (results fn tmps).run Tryz.prog w = .ok (.agg #[.int .i64 a, .int .i64 e]) w :=
  results_cell_row h tmps w b _ _ _ _ hp hb.is Tryz.underlying51 rfl infoG

theorem nameIn_none {l : List Ts} {k : Nat} {x : Ts} (h : ∀ (i : Nat) (y : Ts), i < k → l[i]? = some y → y.n ≠ x.n) : nameIn (l.take k) x = false := by
  rw [nameIn, List.any_eq_false]
  intro y hy
  obtain ⟨i, hi, he⟩ := List.getElem_of_mem hy
  have hk : i < k := by rw [List.length_take] at hi; omega
  have hy2 : (l.take k)[i]? = some y := by rw [List.getElem?_eq_getElem hi, he]
  rw [List.getElem?_take_of_lt hk] at hy2
  simpa using h i y hk hy2
theorem prioIn_none {l : List Ts} {k : Nat} {x : Ts} (h : ∀ (i : Nat) (y : Ts), i < k → l[i]? = some y → y.p ≠ x.p) : prioIn (l.take k) x = false := by
  rw [prioIn, List.any_eq_false]
  intro y hy
  obtain ⟨i, hi, he⟩ := List.getElem_of_mem hy
  have hk : i < k := by rw [List.length_take] at hi; omega
  have hy2 : (l.take k)[i]? = some y := by rw [List.getElem?_eq_getElem hi, he]
  rw [List.getElem?_take_of_lt hk] at hy2
  simpa using h i y hk hy2
theorem dup_hit {l : List Ts} {k i : Nat} {x y : Ts} (hi : i < k) (hy : l[i]? = some y) (h : y.n = x.n ∨ y.p = x.p) : (nameIn (l.take k) x || prioIn (l.take k) x) = true := by
  have hm : y ∈ l.take k := List.mem_of_getElem? (i := i) (by rw [List.getElem?_take_of_lt hi]; exact hy)
  rcases h with h | h
  · have : nameIn (l.take k) x = true := by rw [nameIn, List.any_eq_true]; exact ⟨y, hm, by simpa using h⟩
    rw [this]; rfl
  · have : prioIn (l.take k) x = true := by rw [prioIn, List.any_eq_true]; exact ⟨y, hm, by simpa using h⟩
    rw [this]; simp

set_option maxRecDepth 100000 in
set_option maxHeartbeats 8000000 in
theorem rcheckAll_any (A : Option Addr) (cap : Nat) (l : List Ts) (w : World) (hR : Row w A cap l) :
    Calls Tryz.prog 14 #[.slice A l.length cap] w fun e w' => e = .returned (.agg #[.int .i64 ((chkAll l).1 : Int), .int .i64 (chkAll l).2]) ∧ Below w.heap.size w w' := by
  have hle := hR.le
  have hmx := hR.mx
  obtain ⟨a, e, he⟩ : ∃ a e, chkAll l = (a, e) := ⟨_, _, rfl⟩
  rw [he]
  have HE := Lib.hid he
  have ROW := Lib.hid hR
  obtain ⟨W1, hW1, G1, B1⟩ : ∃ W1, w.alloc (.cells #[.int .i64 0, .int .i64 0] 51) = W1 ∧ GB W1 w.heap.size 0 0 ∧ Below w.heap.size w W1 := ⟨_, rfl, GB.new w 0 0, (Below.refl _ _).alloc (Nat.le_refl _) _⟩
  have HW1 := Lib.hid hW1
  clear hR he hW1
  have d0 := G1.c0
  have d1 := G1.c1
  have e0 := G1.frozen 0
  have e1 := G1.frozen 1
  have hfin : ∀ (a' e' : Int) (wr : World), Lt W1 wr → GB ((wr.setCell ⟨w.heap.size, 0, none⟩ (.int .i64 a')).setCell ⟨w.heap.size, 1, none⟩ (.int .i64 e')) w.heap.size a' e' ∧ Below w.heap.size w ((wr.setCell ⟨w.heap.size, 0, none⟩ (.int .i64 a')).setCell ⟨w.heap.size, 1, none⟩ (.int .i64 e')) := fun a' e' wr hL =>
    ⟨((G1.later hL).set0 a').set1 e', ((B1.trans (Below.mono hL B1.size)).setCell (p := ⟨w.heap.size, 0, none⟩) (Nat.le_refl _) _).setCell (p := ⟨w.heap.size, 1, none⟩) (Nat.le_refl _) _⟩
  have HF := Lib.hid hfin
  clear hfin
  by_cases hbad : l.length = 0 ∨ 1024 < l.length
  · obtain ⟨rfl, rfl⟩ : 0 = a ∧ (14 : Int) = e := by
      have := HE.out
      rw [chkAll, if_pos hbad] at this
      exact ⟨congrArg Prod.fst this, congrArg Prod.snd this⟩
    clear G1 B1
    by_cases h0 : l.length = 0
    · have t0 : ((l.length : Int) == 0) = true := by rw [h0]; rfl
      have H0 := Lib.hid h0
      clear h0 hbad
      go_enter Tryz.func14, Tryz.ntmps14
      go_upto_region 1 with (fail)
      rw [HW1.out]
      go_wp2
      obtain ⟨R, hB⟩ := HF.out 0 14 _ (Below.refl _ _)
      exact bodyPost_ret (v := .agg #[.int .i64 0, .int .i64 14]) (results_got rfl _ _ _ _ _ rfl R) rfl ⟨rfl, hB⟩
    · have t0 : ((l.length : Int) == 0) = false := by rw [beq_eq_false_iff_ne]; omega
      have t1 : decide ((l.length : Int) > 1024) = true := decide_eq_true (by omega)
      have t2 : 1024 < (l.length : Int) := by omega
      clear h0 hbad
      go_enter Tryz.func14, Tryz.ntmps14
      go_upto_region 1 with (fail)
      rw [HW1.out]
      go_wp2
      obtain ⟨R, hB⟩ := HF.out 0 14 _ (Below.refl _ _)
      exact bodyPost_ret (v := .agg #[.int .i64 0, .int .i64 14]) (results_got rfl _ _ _ _ _ rfl R) rfl ⟨rfl, hB⟩
  · have t0 : ((l.length : Int) == 0) = false := by rw [beq_eq_false_iff_ne]; omega
    have t1 : decide ((l.length : Int) > 1024) = false := decide_eq_false (by omega)
    have t2 : decide (1024 < l.length) = false := decide_eq_false (by omega)
    have HS := Lib.hid (chk_start (l := l) (by omega) (by omega))
    have hl : l.length ≤ 1024 := by omega
    have G1 := Lib.hid G1
    have B1 := Lib.hid B1
    clear hbad
    go_enter Tryz.func14, Tryz.ntmps14
    go_upto_region 1 with (fail)
    rw [HW1.out]
    clear HW1
    go_wp2
    go_loopw [3] (fun i wr => ∃ k : Nat, k ≤ l.length ∧ i = .int .i64 k ∧ Lt W1 wr ∧ Hid (chkAll l = chkFrom (l.take k) (l.drop k))) (fun i _ => l.length - (intOf i).toNat)
    case atStart => exact ⟨0, Nat.zero_le _, rfl, Below.refl _ _, HS⟩
    case round =>
      obtain ⟨k, hk, rfl, hL, hq⟩ := hrel
      have g0 := (G1.out.later hL).c0
      have g1 := (G1.out.later hL).c1
      have f0 := (G1.out.later hL).frozen 0
      have f1 := (G1.out.later hL).frozen 1
      clear d0 d1 e0 e1 t0 t1 t2
      have HL := Lib.hid hL
      clear hL
      by_cases hlt : k < l.length
      · obtain ⟨b, o, x, rfl, hx, hw, hbl, hT⟩ := ROW.out.get hlt
        have hTr := (hT.later B1.out).later HL.out
        have c0 := hTr.c0
        have c1 := hTr.c1
        have c2 := hTr.c2
        have c3 := hTr.c3
        have c4 := hTr.c4
        have c5 := hTr.c5
        have c6 := hTr.c6
        have hi0 : (0 : Int) ≤ (k : Int) := by omega
        have hi1 : (k : Int) < (l.length : Int) := by omega
        have HX := Lib.hid hx
        have HT := Lib.hid hTr
        have K0 := Lib.hid (fun W => rcheck_any x W hw)
        clear hT hTr hx hw
        by_cases he0 : checkE x = 0
        · rw [he0] at K0
          have HE0 := Lib.hid he0
          clear he0
          go_wp2_with (go_at_call 20; (with_reducible refine (K0.out _).mono ?_); rintro e2 w2 ⟨rfl, h2⟩; have HL2 : Hid (Lt W1 w2) := Lib.hid (lt_step _ _ HL.out h2); have HT2 := Lib.hid (HT.out.later h2); clear h2)
          clear c0 c1 c2 c3 c4 c5 c6 g0 g1 f0 f1
          go_loopw [5] (fun i wr2 => ∃ j : Nat, j ≤ k ∧ i = .int .i64 j ∧ Lt w2 wr2 ∧ Hid (∀ (i : Nat) (y : Ts), i < j → l[i]? = some y → y.n ≠ x.n ∧ y.p ≠ x.p)) (fun i _ => k - (intOf i).toNat)
          case atStart => exact ⟨0, Nat.zero_le _, rfl, Below.refl _ _, Lib.hid (fun i y h => absurd h (by omega))⟩
          case round =>
            obtain ⟨j, hj, rfl, hL2, hno⟩ := hrel
            have HL3 : Hid (Lt W1 wr) := Lib.hid (Below.trans HL2.out (Below.mono hL2 (Below.size HL2.out)))
            have hTX := HT2.out.later hL2
            have a0 := hTX.c0
            have a6 := hTX.c6
            have g0 := (G1.out.later HL3.out).c0
            have g1 := (G1.out.later HL3.out).c1
            have f0 := (G1.out.later HL3.out).frozen 0
            have f1 := (G1.out.later HL3.out).frozen 1
            have hL2' := Lib.hid hL2
            clear hTX hL2
            by_cases hjk : j < k
            · obtain ⟨y, hy⟩ : ∃ y, l[j]? = some y := ⟨l[j], List.getElem?_eq_getElem (by omega)⟩
              have hTy := ((ROW.out.at2 hy).later B1.out).later HL3.out
              have b0 := hTy.c0
              have b6 := hTy.c6
              have hj0 : (0 : Int) ≤ (j : Int) := by omega
              have hj1 : (j : Int) < (l.length : Int) := by omega
              have HY := Lib.hid hy
              clear hTy hy
              by_cases hn : y.n = x.n
              · have t1 : (y.n.toList == x.n.toList) = true := by rw [name_eq, decide_eq_true hn]
                obtain ⟨rfl, rfl⟩ := Prod.mk.inj (HE.out.symm.trans (chk_dup hq.out HX.out HE0.out (dup_hit hjk HY.out (.inl hn))))
                clear hn hq hno
                go_wp2
                go_quiet (fail)
                go_wp2
                obtain ⟨R, hB⟩ := HF.out _ 13 _ (below_drewN HL3.out _)
                exact bodyPost_ret (v := .agg #[.int .i64 _, .int .i64 13]) (results_got rfl _ _ _ _ _ rfl R) rfl ⟨rfl, hB⟩
              · have t1 : (y.n.toList == x.n.toList) = false := by rw [name_eq, decide_eq_false hn]
                have HN := Lib.hid hn
                clear hn
                by_cases hp : y.p = x.p
                · have t2 : (y.p == x.p) = true := by simpa using hp
                  obtain ⟨rfl, rfl⟩ := Prod.mk.inj (HE.out.symm.trans (chk_dup hq.out HX.out HE0.out (dup_hit hjk HY.out (.inr hp))))
                  clear hp hq hno
                  go_wp2
                  go_quiet (fail)
                  go_wp2
                  obtain ⟨R, hB⟩ := HF.out _ 13 _ (below_drewN HL3.out _)
                  exact bodyPost_ret (v := .agg #[.int .i64 _, .int .i64 13]) (results_got rfl _ _ _ _ _ rfl R) rfl ⟨rfl, hB⟩
                · have t2 : (y.p == x.p) = false := by simpa using hp
                  have HP := Lib.hid hp
                  clear hp
                  go_wp2
                  go_quiet (fail)
                  go_wp2
                  refine ⟨⟨j + 1, by omega, by go_num, below_drewN hL2'.out _, Lib.hid (fun i z hi hz => ?_)⟩, by simp [intOf]; omega⟩
                  by_cases hij : i = j
                  · subst hij
                    obtain rfl : y = z := Option.some.inj (HY.out.symm.trans hz)
                    exact ⟨HN.out, HP.out⟩
                  · exact hno.out i z (by omega) hz
            · obtain rfl : j = k := by omega
              have HQ := Lib.hid (chk_next hq.out HX.out HE0.out (nameIn_none fun i y hi hy => (hno.out i y hi hy).1) (prioIn_none fun i y hi hy => (hno.out i y hi hy).2))
              clear hq hno
              go_wp2
              go_roundw
              case rel => exact ⟨j + 1, by omega, by go_num, HL3.out, HQ⟩
              case measure => simp [intOf]; omega
        · have HQ := Lib.hid (HE.out.symm.trans (chk_bad hq.out HX.out he0))
          have t5 : (checkE x != 0) = true := by simpa using he0
          generalize checkE x = ce at *
          clear he0 hq
          go_wp2_with (go_at_call 20; (with_reducible refine (K0.out _).mono ?_); rintro e2 w2 ⟨rfl, h2⟩; have HL2 : Hid (Lt W1 w2) := Lib.hid (lt_step _ _ HL.out h2); have g0' := (G1.out.later HL2.out).c0; have g1' := (G1.out.later HL2.out).c1; have f0' := (G1.out.later HL2.out).frozen 0; have f1' := (G1.out.later HL2.out).frozen 1; clear h2)
          obtain ⟨R, hB⟩ := HF.out (k : Int) ce _ HL2.out
          exact bodyPost_ret (v := .agg #[.int .i64 (k : Int), .int .i64 ce]) (results_got rfl _ _ _ _ _ rfl R) rfl ⟨by obtain ⟨rfl, rfl⟩ := Prod.mk.inj HQ.out; rfl, hB⟩
      · obtain rfl : k = l.length := by omega
        obtain ⟨rfl, rfl⟩ := Prod.mk.inj (HE.out.symm.trans (chk_end hq.out))
        clear hq
        go_wp2
        obtain ⟨R, hB⟩ := HF.out (l.length : Int) 0 _ HL.out
        exact bodyPost_ret (v := .agg #[.int .i64 (l.length : Int), .int .i64 0]) (results_got rfl _ _ _ _ _ rfl R) rfl ⟨rfl, hB⟩
end Go.Proofs.YtnhddnldebdmbaaGreatDoor
/- The law's checks, and its turned. -/
namespace Go.Proofs.YtnhddnldebdmbaaGreatDoor
open Go.RowKit
set_option linter.unusedVariables false
set_option linter.unusedSimpArgs false

theorem checkAll_any (A : Option Addr) (cap : Nat) (l : List Ts) (w : World) (hR : Row w A cap l) :
    Calls Tryz.prog 24 #[.slice A l.length cap] w fun e w' => e = .returned (.tuple #[.int .i64 ((chkAll l).1 : Int), .int .i64 (chkAll l).2]) ∧ Below w.heap.size w w' := by
  by_cases h : l.length = 0 ∨ 1024 < l.length
  · have := checkAll_many A cap l w h (Nat.le_trans hR.le hR.mx)
    rw [chkAll, if_pos h]
    exact this
  · exact checkAll_few A cap l w hR (by omega) (by omega)

end Go.Proofs.YtnhddnldebdmbaaGreatDoor
/- The document's Set: of plain numbers a set that may be. -/
namespace Go.Proofs.YtnhddnldebdmbaaGreatDoor
open Go.RowKit
set_option linter.unusedVariables false
set_option linter.unusedSimpArgs false

theorem bs_app (a b : List UInt8) : bs a ++ bs b = bs (a ++ b) := by
  apply ByteArray.ext
  simp [bs]
/-! ### Rests, turns -/
def RestPost (n : Int) (w : World) (e : Ending) (w' : World) : Prop := ∃ r, e = .returned (.int .i64 r) ∧ 0 ≤ r ∧ r < n ∧ w = w'
theorem rrest_ex (x n : Int) (w : World) (hx : in64 x) (hn : 0 < n) (hn2 : n ≤ 100000) : Calls Tryz.prog 12 #[.int .i64 x, .int .i64 n] w (RestPost n w) :=
  (rrest_any x n w hx hn hn2).mono fun e w' h => ⟨_, h.1, (restI_bd x n hn hn2).1, (restI_bd x n hn hn2).2, h.2⟩
def turnsI (n : Nat) (t : Int) : Nat := if 2 < n ∧ restI (t.tdiv n) 2 = 1 then n - 1 else 1
theorem tdiv_in (t : Int) (n : Nat) (h : in64 t) (hn : 2 < n) : in64 (t.tdiv n) := by
  obtain ⟨h1, h2⟩ := h
  have hp : (0 : Int) < n := by omega
  rcases Int.le_total 0 t with h0 | h0
  · rw [Int.tdiv_eq_ediv_of_nonneg h0]
    have a := Int.ediv_nonneg h0 (show (0 : Int) ≤ n by omega)
    have b := Int.ediv_le_self n h0
    exact ⟨by omega, by omega⟩
  · obtain ⟨m, rfl⟩ : ∃ m, t = -m := ⟨-t, by omega⟩
    have hm : 0 ≤ m := by omega
    rw [Int.neg_tdiv, Int.tdiv_eq_ediv_of_nonneg hm]
    have a := Int.ediv_nonneg hm (show (0 : Int) ≤ n by omega)
    have b : m / (n : Int) ≤ 4611686018427387904 := by
      refine Int.ediv_le_of_le_mul hp ?_
      have : (4611686018427387904 : Int) * 3 ≤ 4611686018427387904 * n := by
        apply Int.mul_le_mul_of_nonneg_left <;> omega
      omega
    exact ⟨by omega, by omega⟩
set_option maxHeartbeats 1000000 in
theorem turns_any (n : Nat) (t : Int) (w : World) (ht : in64 t) (hn : 1 ≤ n) (hn8 : n ≤ 8) : Calls Tryz.prog 13 #[.int .i64 (n : Int), .int .i64 t] w fun e w' => e = .returned (.int .i64 (turnsI n t : Int)) ∧ w = w' := by
  unfold turnsI
  by_cases h2 : 2 < n
  · have hq := tdiv_in t n ht h2
    have hb := restI_bd (t.tdiv n) 2 (by omega) (by omega)
    have R := Lib.hid (fun w => rrest_any (t.tdiv n) 2 w hq (by omega) (by omega))
    have hww : IntKind.i64.wrap (t.tdiv n) = t.tdiv n := IntWalk.i64_in _ (by obtain ⟨a, b⟩ := hq; omega)
    have hw64 : wrap64 (t.tdiv n) = t.tdiv n := IntWalk.wrap64_in _ (by obtain ⟨a, b⟩ := hq; omega)
    generalize restI (t.tdiv n) 2 = r at *
    generalize hd : t.tdiv n = d at *
    have h2i : (2 : Int) < (n : Int) := by omega
    have hnz : (n : Int) ≠ 0 := by omega
    have e1 : ((n - 1 : Nat) : Int) = (n : Int) - 1 := by omega
    by_cases hr : r = 1
    · subst hr
      rw [if_pos ⟨h2, rfl⟩, e1]
      clear e1 hb
      go_enter Tryz.func13, Tryz.ntmps13
      go_wp2_with (go_at_call 12; (with_reducible refine (R.out _).mono ?_); rintro e w' ⟨rfl, rfl⟩)
      go_ret
      exact ⟨rfl, rfl⟩
    · obtain rfl : r = 0 := by omega
      rw [if_neg (by omega)]
      clear e1 hb
      go_enter Tryz.func13, Tryz.ntmps13
      go_wp2_with (go_at_call 12; (with_reducible refine (R.out _).mono ?_); rintro e w' ⟨rfl, rfl⟩)
      go_ret
      exact ⟨rfl, rfl⟩
  · rw [if_neg (by omega)]
    have h2' : decide ((n : Int) > 2) = false := decide_eq_false (by omega)
    have h2'' : decide (2 < n) = false := decide_eq_false (by omega)
    go_enter Tryz.func13, Tryz.ntmps13
    go_wp2
    go_ret
    exact ⟨rfl, rfl⟩
theorem turnsI_is (n : Nat) (t : Int) (hn : 1 ≤ n) : turnsI n t = 1 ∨ (2 < n ∧ turnsI n t = n - 1) := by
  unfold turnsI
  by_cases h : 2 < n ∧ restI (t.tdiv n) 2 = 1
  · rw [if_pos h]; exact .inr ⟨h.1, rfl⟩
  · rw [if_neg h]; exact .inl rfl
theorem turned_ne1 : ∀ n, n < 9 → ∀ r, r < 9 → ∀ i, i < n → ∀ j, j < n → (i * 1 + r) % n = (j * 1 + r) % n → i = j := by decide +kernel
theorem turned_ne2 : ∀ n, n < 9 → ∀ r, r < 9 → ∀ i, i < n → ∀ j, j < n → (i * (n - 1) + r) % n = (j * (n - 1) + r) % n → i = j := by decide +kernel

/-- What a task of Set is, but for its urgency. -/
structure SF (i : Nat) (x : Ts) : Prop where
  n : x.n = bs [116, UInt8.ofNat (97 + i)]
  c0 : 1 ≤ x.c
  c1 : x.c ≤ 4
  d0 : x.c + x.j ≤ x.d
  d1 : x.d ≤ 14
  j0 : 0 ≤ x.j
  t0 : x.d ≤ x.t
  t1 : x.t ≤ 20
  q0 : 1 ≤ x.q
  q1 : x.q ≤ x.c
def SFs (ts : List Ts) : Prop := ∀ (i : Nat) (x : Ts), ts[i]? = some x → SF i x
theorem SFs.snoc {ts : List Ts} {x : Ts} {k : Nat} (h : SFs ts) (hk : ts.length = k) (hx : SF k x) : SFs (ts ++ [x]) := by
  intro i y hy
  subst hk
  rcases Nat.lt_or_ge i ts.length with hl | hl
  · rw [List.getElem?_append_left hl] at hy; exact h i y hy
  · rw [List.getElem?_append_right hl] at hy
    have := (List.getElem?_eq_some_iff.1 hy).1
    simp at this
    obtain rfl : i = ts.length := by omega
    simp at hy
    exact hy ▸ hx
theorem SFs.setP {ts : List Ts} {x : Ts} {k : Nat} (h : SFs ts) (hx : ts[k]? = some x) (p : Int) : SFs (ts.set k { x with p := p }) := by
  intro i y hy
  have hkl : k < ts.length := (List.getElem?_eq_some_iff.1 hx).1
  by_cases e : k = i
  · subst e
    rw [List.getElem?_set_self hkl] at hy
    have h1 := h k x hx
    obtain rfl : { x with p := p } = y := by simpa using hy
    exact ⟨h1.n, h1.c0, h1.c1, h1.d0, h1.d1, h1.j0, h1.t0, h1.t1, h1.q0, h1.q1⟩
  · rw [List.getElem?_set_ne e] at hy
    exact h i y hy
theorem name_of (k : Nat) : ({ data := #[116] } : ByteArray) ++ chr (97 + (k : Int)) = bs [116, UInt8.ofNat (97 + k)] := by
  rw [show (97 + (k : Int)) = ((97 + k : Nat) : Int) by omega, chr, Int.toNat_natCast, show ({ data := #[116] } : ByteArray) = bs [116] from rfl, bs_app]
  rfl
theorem p_bd {ts : List Ts} {n τ r : Nat} (h1 : 1 ≤ n) (h8 : n ≤ 8)
    (hp : ∀ (i : Nat) (x : Ts), ts[i]? = some x → x.p = 1 + ((i : Int) * (τ : Int) + (r : Int)) % (n : Int)) : ∀ (i : Nat) (x : Ts), ts[i]? = some x → 1 ≤ x.p ∧ x.p ≤ 8 := by
  intro i x hx
  have h := hp i x hx
  have a := Int.emod_nonneg ((i : Int) * (τ : Int) + (r : Int)) (show (n : Int) ≠ 0 by omega)
  have b := Int.emod_lt_of_pos ((i : Int) * (τ : Int) + (r : Int)) (show (0 : Int) < (n : Int) by omega)
  omega

/-- All urgencies differ. -/
def Dist (ts : List Ts) : Prop := ∀ (i j : Nat) (x y : Ts), ts[i]? = some x → ts[j]? = some y → x.p = y.p → i = j
theorem in64_p {k : Nat} (z : Int) (h0 : 0 ≤ z) (h1 : z < (k : Int)) (h8 : k ≤ 8) : in64 (1 + z) := ⟨by omega, by omega⟩
theorem wrap_p {k : Nat} (z : Int) (h0 : 0 ≤ z) (h1 : z < (k : Int)) (h8 : k ≤ 8) : wrap64 (1 + z) = 1 + z := IntWalk.wrap64_in _ (by omega)
theorem dist_of {ts : List Ts} {n τ r : Nat} (h1 : 1 ≤ n) (h8 : n ≤ 8) (hr : r < n) (hτ : τ = 1 ∨ (2 < n ∧ τ = n - 1)) (hl : ts.length = n)
    (hp : ∀ (i : Nat) (x : Ts), ts[i]? = some x → x.p = 1 + ((i : Int) * (τ : Int) + (r : Int)) % (n : Int)) : Dist ts := by
  intro i j x y hx hy he
  have hi := (List.getElem?_eq_some_iff.1 hx).1
  have hj := (List.getElem?_eq_some_iff.1 hy).1
  have e1 := hp i x hx
  have e2 := hp j y hy
  have e3 : ((i : Int) * (τ : Int) + (r : Int)) % (n : Int) = ((j : Int) * (τ : Int) + (r : Int)) % (n : Int) := by omega
  rw [← Int.natCast_mul, ← Int.natCast_mul, ← Int.natCast_add, ← Int.natCast_add, ← Int.natCast_emod, ← Int.natCast_emod] at e3
  have e4 : (i * τ + r) % n = (j * τ + r) % n := Int.ofNat.inj e3
  rcases hτ with rfl | ⟨h2, rfl⟩
  · exact turned_ne1 n (by omega) r (by omega) i (by omega) j (by omega) e4
  · exact turned_ne2 n (by omega) r (by omega) i (by omega) j (by omega) e4
def SetPost (M : Int) (w : World) (e : Ending) (w' : World) : Prop := ∃ A cap ts, e = .returned (.slice A ts.length cap) ∧ Row w' A cap ts ∧ 1 ≤ ts.length ∧ (ts.length : Int) ≤ M ∧ Dist ts ∧ SFs ts ∧ (∀ (i : Nat) (x : Ts), ts[i]? = some x → 1 ≤ x.p ∧ x.p ≤ 8) ∧ Below w.heap.size w w'

set_option maxRecDepth 100000 in
set_option maxHeartbeats 8000000 in
theorem set_some (M : Int) (hM1 : 1 ≤ M) (hM8 : M ≤ 8) (A : Option Addr) (cap : Nat) (l : List Sp) (turn : Int) (w : World) (hR : SRow w A cap l) (ht : in64 turn) (h0 : l.length ≠ 0) :
    Calls Tryz.prog 5 #[.slice A l.length cap, .int .i64 M, .int .i64 turn] w (SetPost M w) := by
  obtain ⟨i0, hi, hz0, hz1, hz2⟩ := info_parts infoTs
  have hmx := hR.mx
  have hle := hR.le
  have t0 : ((l.length : Int) == 0) = false := by rw [beq_eq_false_iff_ne]; omega
  have ROW := Lib.hid hR
  have HB : Hid (Below w.heap.size w w) := Lib.hid (Below.refl _ _)
  clear hR
  go_enter Tryz.func5, Tryz.ntmps5
  go_wp2
  go_loopw [7, 8] (fun v i wr => ∃ (k : Nat) (ts : List Ts), k ≤ l.length ∧ (k : Int) ≤ M ∧ i = .int .i64 k ∧ SetIn w.heap.size wr v k ts ∧ Hid (SFs ts) ∧ Lt w wr) (fun _ i _ => 8 - (intOf i).toNat)
  case atStart => exact ⟨0, [], Nat.zero_le _, by omega, rfl, SetIn.nil _ _, Lib.hid (fun i x h => by simp at h), Below.refl _ _⟩
  case round =>
    obtain ⟨k, ts, hk, hkM, rfl, hI, hsf, hL⟩ := hrel
    have hk8 : k ≤ 8 := by omega
    by_cases hgo : k < l.length ∧ (k : Int) < M
    · obtain ⟨hlt, h8⟩ := hgo
      obtain ⟨b, o, x, rfl, hx, hxw, hbl, hT⟩ := ROW.out.get hlt
      have hTr := hT.later hL
      have s0 := hTr.c0
      have s1 := hTr.c1
      have s2 := hTr.c2
      have s3 := hTr.c3
      have s4 := hTr.c4
      have hi0 : (0 : Int) ≤ (k : Int) := by omega
      have hi1 : (k : Int) < ((l.length : Nat) : Int) := by omega
      have HXW := Lib.hid hxw
      clear hT hTr hx hxw hbl
      go_upto_region 8 with (go_at_call 12; refine (rrest_ex _ _ _ HXW.out.c (by omega) (by omega)).mono ?_; rintro e w' ⟨rc, rfl, rc0, rc1, rfl⟩)
      go_upto_region 9 with (go_at_call 12; refine (rrest_ex _ _ _ HXW.out.d (by omega) (by omega)).mono ?_; rintro e w' ⟨rd, rfl, rd0, rd1, rfl⟩)
      go_upto_region 10 with (go_at_call 12; refine (rrest_ex _ _ _ HXW.out.j (by omega) (by omega)).mono ?_; rintro e w' ⟨rj, rfl, rj0, rj1, rfl⟩)
      go_upto_region 11 with (go_at_call 12; refine (rrest_ex _ _ _ HXW.out.t (by omega) (by omega)).mono ?_; rintro e w' ⟨rt, rfl, rt0, rt1, rfl⟩)
      go_upto_region 12 with (go_at_call 12; refine (rrest_ex _ _ _ HXW.out.q (by omega) (by omega)).mono ?_; rintro e w' ⟨rq, rfl, rq0, rq1, rfl⟩)
      have hcv := fun W => conv_n W (97 + (k : Int)) (by omega) (by omega)
      have hwr : IntKind.u8.wrap (97 + (k : Int)) = 97 + (k : Int) := by rw [IntKind.wrap_u8]; omega
      obtain ⟨nm, hnm, hnms⟩ : ∃ nm, ({ data := #[116] } : ByteArray) ++ chr (97 + (k : Int)) = nm ∧ nm.size ≤ 10 := ⟨_, rfl, by rw [ByteArray.size_append, chr_size]; decide⟩
      have hnk := Lib.hid (hnm.symm.trans (name_of k))
      have hseven := seven_new (wr.alloc (.cells #[.int .u8 (97 + (k : Int))] 5)) ⟨nm, 1 + rc, 1 + rc + rd + rt, 1 + rc + rd, rj, 1 + rq, 0⟩
      rw [World.size_alloc] at hseven
      have HI := Lib.hid hI
      have HL := Lib.hid hL
      have H7 := Lib.hid hseven
      clear hseven hI hL s0 s1 s2 s3 s4
      go_wp2_with (at_builtin; refine wpList_append_own _ rfl _ _ 25 rfl w.heap.size 40 i0 _ 7 64 Tryz.underlying25 hi hz0 hz1 hz2 rfl (by decide) _ _ _ rfl ((HI.out.row.alloc _).alloc _) ⟨wr.heap.size + 1, 0, none⟩ 1 1 (tsL ⟨nm, 1 + rc, 1 + rc + rd + rt, 1 + rc + rd, rj, 1 + rq, 0⟩) rfl rfl H7.out (tsL_one _) (by unfold maxLen; omega) (by omega) (by have := Below.size HL.out; simp; omega) ?_; intro v' w4 hown' hgrow hnil')
      go_roundw
      case rel =>
        have hb0 := Below.size HL.out
        refine ⟨k + 1, ts ++ [⟨nm, 1 + rc, 1 + rc + rd + rt, 1 + rc + rd, rj, 1 + rq, 0⟩], by omega, by omega, by go_num, ⟨by simp [HI.out.len], fun y hy => ?_, by rw [tsCells_snoc]; exact hown'⟩, Lib.hid (hsf.out.snoc HI.out.len ⟨hnk.out, by show 1 ≤ 1 + rc; omega, by show 1 + rc ≤ 4; omega, by show 1 + rc + rj ≤ 1 + rc + rd; omega, by show 1 + rc + rd ≤ 14; omega, by show 0 ≤ rj; omega, by show 1 + rc + rd ≤ 1 + rc + rd + rt; omega, by show 1 + rc + rd + rt ≤ 20; omega, by show 1 ≤ 1 + rq; omega, by show 1 + rq ≤ 1 + rc; omega⟩), ?_⟩
        · rcases List.mem_append.1 hy with hy | hy
          · exact HI.out.wf y hy
          · obtain rfl := List.mem_singleton.1 hy
            exact ⟨by show nm.size ≤ _; omega, ⟨by show _ ≤ 1 + rc; omega, by show 1 + rc ≤ _; omega⟩, ⟨by show _ ≤ 1 + rc + rd + rt; omega, by show 1 + rc + rd + rt ≤ _; omega⟩, ⟨by show _ ≤ 1 + rc + rd; omega, by show 1 + rc + rd ≤ _; omega⟩, ⟨by show _ ≤ rj; omega, by show rj ≤ _; omega⟩, ⟨by show _ ≤ 1 + rq; omega, by show 1 + rq ≤ _; omega⟩, by show in64 0; unfold in64; omega⟩
        · exact ((((Below.refl w.heap.size w).trans HL.out).alloc hb0 _).alloc (by simp; omega) _).grown hgrow (by simp; omega) (fun q hq => (HI.out.row.lt q hq).1)
      case measure => simp [intOf]; omega
    · have hk1 : 1 ≤ k := by omega
      have HSF := hsf
      clear hsf
      obtain ⟨g, cap2, rfl, hO⟩ := hI.own (by omega)
      have TN := Lib.hid (fun w => turns_any k turn w ht hk1 hk8)
      have RN := fun w => rrest_any turn k w ht (by omega) (by omega)
      obtain ⟨r0, r1⟩ := restI_bd turn k (by omega) (by omega)
      have hti := turnsI_is k turn hk1
      obtain ⟨r, hr⟩ : ∃ r : Nat, restI turn k = (r : Int) := ⟨(restI turn k).toNat, by omega⟩
      rw [hr] at RN r0 r1
      have RN := Lib.hid RN
      generalize turnsI k turn = τ at *
      have hτ : τ ≤ 8 := by omega
      have HTI := Lib.hid hti
      have HLEN := Lib.hid hI.len
      have HO0 := Lib.hid hO
      have HL0 := Lib.hid hL
      clear hr hti hI hO hL
      by_cases hl : k < l.length
      · have g1 : decide ((k : Int) < ((l.length : Nat) : Int)) = true := decide_eq_true (by omega)
        have g2 : decide ((k : Int) < M) = false := decide_eq_false (by omega)
        clear hgo
        go_wp2
        go_loopw [15] (fun i wr2 => ∃ (m : Nat) (ts2 : List Ts), m ≤ k ∧ i = .int .i64 m ∧ OwnT w.heap.size wr2 g cap2 ts2 ∧ ts2.length = k ∧ Hid (SFs ts2) ∧ Hid (∀ (i : Nat) (x : Ts), ts2[i]? = some x → i < m → x.p = 1 + ((i : Int) * (τ : Int) + (r : Int)) % ((k : Nat) : Int)) ∧ Lt w wr2) (fun i _ => k - (intOf i).toNat)
        case atStart => exact ⟨0, ts, Nat.zero_le _, rfl, HO0.out, HLEN.out, HSF, Lib.hid (fun i x _ h => absurd h (by omega)), HL0.out⟩
        case round =>
          obtain ⟨m, ts2, hm, rfl, hO2, hl2, hsf2, hq, hL2⟩ := hrel
          by_cases hmk : m < k
          · obtain ⟨x, hx⟩ : ∃ x, ts2[m]? = some x := ⟨ts2[m], List.getElem?_eq_getElem (by omega)⟩
            have c6 := (hO2.at_ m x hx).c6
            have fz := hO2.fz (m * 7 + 6)
            have hi0 : (0 : Int) ≤ (m : Int) := by omega
            have hi1 : (m : Int) < ((k : Nat) : Int) := by omega
            have hkz : (0 : Int) < ((k : Nat) : Int) := by omega
            have hmul : ((m * τ : Nat) : Int) = (m : Int) * (τ : Int) := Int.natCast_mul m τ
            have hmm : m * τ ≤ 8 * 8 := Nat.mul_le_mul (by omega) hτ
            have hm0 : (0 : Int) ≤ (m : Int) * (τ : Int) := by rw [← hmul]; omega
            have hm1 : (m : Int) * (τ : Int) ≤ 64 := by rw [← hmul]; omega
            have hp0 : 0 ≤ ((m : Int) * (τ : Int) + (r : Int)) % ((k : Nat) : Int) := Int.emod_nonneg _ (by omega)
            have hp1 : ((m : Int) * (τ : Int) + (r : Int)) % ((k : Nat) : Int) < ((k : Nat) : Int) := Int.emod_lt_of_pos _ hkz
            have HX := Lib.hid hx
            have HO2 := Lib.hid hO2
            have HL2 := Lib.hid hL2
            have HLL := Lib.hid hl2
            clear hmul hmm hx hO2 hL2 hl2 hp0 hp1
            go_wp2_with (first
              | (go_at_call 13; (with_reducible refine (TN.out _).mono ?_); rintro e w' ⟨rfl, rfl⟩)
              | (go_at_call 12; (with_reducible refine (RN.out _).mono ?_); rintro e w' ⟨rfl, rfl⟩))
            go_roundw
            case rel =>
              have hp0 : 0 ≤ ((m : Int) * (τ : Int) + (r : Int)) % ((k : Nat) : Int) := Int.emod_nonneg _ (by omega)
              have hp1 : ((m : Int) * (τ : Int) + (r : Int)) % ((k : Nat) : Int) < ((k : Nat) : Int) := Int.emod_lt_of_pos _ (by omega)
              refine ⟨m + 1, ts2.set m { x with p := 1 + ((m : Int) * (τ : Int) + (r : Int)) % ((k : Nat) : Int) }, by omega, by go_num, (by rw [wrap_p _ hp0 hp1 hk8]; exact HO2.out.setP HX.out _ (in64_p _ hp0 hp1 hk8)), by rw [List.length_set]; exact HLL.out, Lib.hid (hsf2.out.setP HX.out _), Lib.hid (fun i y hy hi => ?_), setCell_own HL2.out HO2.out.hB _⟩
              by_cases e : m = i
              · subst e
                rw [List.getElem?_set_self (by rw [HLL.out]; omega)] at hy
                cases hy
                rfl
              · rw [List.getElem?_set_ne e] at hy
                exact hq.out i y hy (by omega)
            case measure => simp [intOf]; omega
          · obtain rfl : m = k := by omega
            have HL2 := Lib.hid hL2
            have HO2 := Lib.hid hO2
            have HLL := Lib.hid hl2
            clear hL2 hO2 hl2
            go_wp2
            go_ret
            refine ⟨_, cap2, ts2, by rw [HLL.out]; rfl, HO2.out.row, by rw [HLL.out]; omega, by rw [HLL.out]; omega, ?_, hsf2.out, ?_, Below.trans HB.out (Below.mono HL2.out (Below.size HB.out))⟩
            · exact dist_of (by omega) hk8 (by omega) HTI.out HLL.out (fun i x hx => hq.out i x hx (by have := (List.getElem?_eq_some_iff.1 hx).1; rw [HLL.out] at this; exact this))
            · exact p_bd (by omega) hk8 (fun i x hx => hq.out i x hx (by have := (List.getElem?_eq_some_iff.1 hx).1; rw [HLL.out] at this; exact this))
      · have g1 : decide ((k : Int) < ((l.length : Nat) : Int)) = false := decide_eq_false (by omega)
        clear hgo
        go_wp2
        go_loopw [15] (fun i wr2 => ∃ (m : Nat) (ts2 : List Ts), m ≤ k ∧ i = .int .i64 m ∧ OwnT w.heap.size wr2 g cap2 ts2 ∧ ts2.length = k ∧ Hid (SFs ts2) ∧ Hid (∀ (i : Nat) (x : Ts), ts2[i]? = some x → i < m → x.p = 1 + ((i : Int) * (τ : Int) + (r : Int)) % ((k : Nat) : Int)) ∧ Lt w wr2) (fun i _ => k - (intOf i).toNat)
        case atStart => exact ⟨0, ts, Nat.zero_le _, rfl, HO0.out, HLEN.out, HSF, Lib.hid (fun i x _ h => absurd h (by omega)), HL0.out⟩
        case round =>
          obtain ⟨m, ts2, hm, rfl, hO2, hl2, hsf2, hq, hL2⟩ := hrel
          by_cases hmk : m < k
          · obtain ⟨x, hx⟩ : ∃ x, ts2[m]? = some x := ⟨ts2[m], List.getElem?_eq_getElem (by omega)⟩
            have c6 := (hO2.at_ m x hx).c6
            have fz := hO2.fz (m * 7 + 6)
            have hi0 : (0 : Int) ≤ (m : Int) := by omega
            have hi1 : (m : Int) < ((k : Nat) : Int) := by omega
            have hkz : (0 : Int) < ((k : Nat) : Int) := by omega
            have hmul : ((m * τ : Nat) : Int) = (m : Int) * (τ : Int) := Int.natCast_mul m τ
            have hmm : m * τ ≤ 8 * 8 := Nat.mul_le_mul (by omega) hτ
            have hm0 : (0 : Int) ≤ (m : Int) * (τ : Int) := by rw [← hmul]; omega
            have hm1 : (m : Int) * (τ : Int) ≤ 64 := by rw [← hmul]; omega
            have hp0 : 0 ≤ ((m : Int) * (τ : Int) + (r : Int)) % ((k : Nat) : Int) := Int.emod_nonneg _ (by omega)
            have hp1 : ((m : Int) * (τ : Int) + (r : Int)) % ((k : Nat) : Int) < ((k : Nat) : Int) := Int.emod_lt_of_pos _ hkz
            have HX := Lib.hid hx
            have HO2 := Lib.hid hO2
            have HL2 := Lib.hid hL2
            have HLL := Lib.hid hl2
            clear hmul hmm hx hO2 hL2 hl2 hp0 hp1
            go_wp2_with (first
              | (go_at_call 13; (with_reducible refine (TN.out _).mono ?_); rintro e w' ⟨rfl, rfl⟩)
              | (go_at_call 12; (with_reducible refine (RN.out _).mono ?_); rintro e w' ⟨rfl, rfl⟩))
            go_roundw
            case rel =>
              have hp0 : 0 ≤ ((m : Int) * (τ : Int) + (r : Int)) % ((k : Nat) : Int) := Int.emod_nonneg _ (by omega)
              have hp1 : ((m : Int) * (τ : Int) + (r : Int)) % ((k : Nat) : Int) < ((k : Nat) : Int) := Int.emod_lt_of_pos _ (by omega)
              refine ⟨m + 1, ts2.set m { x with p := 1 + ((m : Int) * (τ : Int) + (r : Int)) % ((k : Nat) : Int) }, by omega, by go_num, (by rw [wrap_p _ hp0 hp1 hk8]; exact HO2.out.setP HX.out _ (in64_p _ hp0 hp1 hk8)), by rw [List.length_set]; exact HLL.out, Lib.hid (hsf2.out.setP HX.out _), Lib.hid (fun i y hy hi => ?_), setCell_own HL2.out HO2.out.hB _⟩
              by_cases e : m = i
              · subst e
                rw [List.getElem?_set_self (by rw [HLL.out]; omega)] at hy
                cases hy
                rfl
              · rw [List.getElem?_set_ne e] at hy
                exact hq.out i y hy (by omega)
            case measure => simp [intOf]; omega
          · obtain rfl : m = k := by omega
            have HL2 := Lib.hid hL2
            have HO2 := Lib.hid hO2
            have HLL := Lib.hid hl2
            clear hL2 hO2 hl2
            go_wp2
            go_ret
            refine ⟨_, cap2, ts2, by rw [HLL.out]; rfl, HO2.out.row, by rw [HLL.out]; omega, by rw [HLL.out]; omega, ?_, hsf2.out, ?_, Below.trans HB.out (Below.mono HL2.out (Below.size HB.out))⟩
            · exact dist_of (by omega) hk8 (by omega) HTI.out HLL.out (fun i x hx => hq.out i x hx (by have := (List.getElem?_eq_some_iff.1 hx).1; rw [HLL.out] at this; exact this))
            · exact p_bd (by omega) hk8 (fun i x hx => hq.out i x hx (by have := (List.getElem?_eq_some_iff.1 hx).1; rw [HLL.out] at this; exact this))

set_option maxRecDepth 100000 in
set_option maxHeartbeats 8000000 in
theorem set_none (M : Int) (hM1 : 1 ≤ M) (hM8 : M ≤ 8) (A : Option Addr) (cap : Nat) (turn : Int) (w : World) (ht : in64 turn) :
    Calls Tryz.prog 5 #[.slice A 0 cap, .int .i64 M, .int .i64 turn] w (SetPost M w) := by
  obtain ⟨i0, hi, hz0, hz1, hz2⟩ := info_parts infoTs
  obtain ⟨W0, hW0, hR, hB⟩ : ∃ W0, w.alloc (.cells #[.int .i64 turn, .int .i64 0, .int .i64 0, .int .i64 0, .int .i64 0] 47) = W0 ∧ SRow W0 (some ⟨w.heap.size, 0, none⟩) 1 [⟨turn, 0, 0, 0, 0⟩] ∧ Below w.heap.size w W0 := by
    refine ⟨_, rfl, ⟨by simp, by omega, fun x hx => ?_, fun i x hx => ?_⟩, (Below.refl _ _).alloc (Nat.le_refl _) _⟩
    · obtain rfl := List.mem_singleton.1 hx
      exact ⟨ht, by show in64 0; unfold in64; omega, by show in64 0; unfold in64; omega, by show in64 0; unfold in64; omega, by show in64 0; unfold in64; omega⟩
    · have hi : i = 0 := by
        have := (List.getElem?_eq_some_iff.1 hx).1
        simp at this
        exact this
      subst hi
      obtain rfl : (⟨turn, 0, 0, 0, 0⟩ : Sp) = x := by simpa using hx
      refine ⟨_, _, rfl, ⟨fun j v hv => ?_⟩⟩
      rw [cell_of_row _ _ _ _ _ _ (heap_alloc_new w _)]
      simpa [spL] using hv
  have HW := Lib.hid hW0
  have ROW := Lib.hid hR
  have HB := Lib.hid hB
  clear hW0 hR hB
  go_enter Tryz.func5, Tryz.ntmps5
  go_upto_region 4 with (fail)
  rw [HW.out]
  generalize (some ⟨w.heap.size, 0, none⟩ : Option Addr) = A2 at *
  have hmx : 1 ≤ 9223372036854775807 := by omega
  go_wp2
  go_loopw [7, 8] (fun v i wr => ∃ (k : Nat) (ts : List Ts), k ≤ 1 ∧ (k : Int) ≤ M ∧ i = .int .i64 k ∧ SetIn W0.heap.size wr v k ts ∧ Hid (SFs ts) ∧ Lt W0 wr) (fun _ i _ => 8 - (intOf i).toNat)
  case atStart => exact ⟨0, [], Nat.zero_le _, by omega, rfl, SetIn.nil _ _, Lib.hid (fun i x h => by simp at h), Below.refl _ _⟩
  case round =>
    obtain ⟨k, ts, hk, hkM, rfl, hI, hsf, hL⟩ := hrel
    have hk8 : k ≤ 8 := by omega
    by_cases hgo : k < 1 ∧ (k : Int) < M
    · obtain ⟨hlt, h8⟩ := hgo
      obtain ⟨b, o, x, rfl, hx, hxw, hbl, hT⟩ := ROW.out.get hlt
      have hTr := hT.later hL
      have s0 := hTr.c0
      have s1 := hTr.c1
      have s2 := hTr.c2
      have s3 := hTr.c3
      have s4 := hTr.c4
      have hi0 : (0 : Int) ≤ (k : Int) := by omega
      have hi1 : (k : Int) < ((1 : Nat) : Int) := by omega
      have HXW := Lib.hid hxw
      clear hT hTr hx hxw hbl
      go_upto_region 8 with (go_at_call 12; refine (rrest_ex _ _ _ HXW.out.c (by omega) (by omega)).mono ?_; rintro e w' ⟨rc, rfl, rc0, rc1, rfl⟩)
      go_upto_region 9 with (go_at_call 12; refine (rrest_ex _ _ _ HXW.out.d (by omega) (by omega)).mono ?_; rintro e w' ⟨rd, rfl, rd0, rd1, rfl⟩)
      go_upto_region 10 with (go_at_call 12; refine (rrest_ex _ _ _ HXW.out.j (by omega) (by omega)).mono ?_; rintro e w' ⟨rj, rfl, rj0, rj1, rfl⟩)
      go_upto_region 11 with (go_at_call 12; refine (rrest_ex _ _ _ HXW.out.t (by omega) (by omega)).mono ?_; rintro e w' ⟨rt, rfl, rt0, rt1, rfl⟩)
      go_upto_region 12 with (go_at_call 12; refine (rrest_ex _ _ _ HXW.out.q (by omega) (by omega)).mono ?_; rintro e w' ⟨rq, rfl, rq0, rq1, rfl⟩)
      have hcv := fun W => conv_n W (97 + (k : Int)) (by omega) (by omega)
      have hwr : IntKind.u8.wrap (97 + (k : Int)) = 97 + (k : Int) := by rw [IntKind.wrap_u8]; omega
      obtain ⟨nm, hnm, hnms⟩ : ∃ nm, ({ data := #[116] } : ByteArray) ++ chr (97 + (k : Int)) = nm ∧ nm.size ≤ 10 := ⟨_, rfl, by rw [ByteArray.size_append, chr_size]; decide⟩
      have hnk := Lib.hid (hnm.symm.trans (name_of k))
      have hseven := seven_new (wr.alloc (.cells #[.int .u8 (97 + (k : Int))] 5)) ⟨nm, 1 + rc, 1 + rc + rd + rt, 1 + rc + rd, rj, 1 + rq, 0⟩
      rw [World.size_alloc] at hseven
      have HI := Lib.hid hI
      have HL := Lib.hid hL
      have H7 := Lib.hid hseven
      clear hseven hI hL s0 s1 s2 s3 s4
      go_wp2_with (at_builtin; refine wpList_append_own _ rfl _ _ 25 rfl W0.heap.size 40 i0 _ 7 64 Tryz.underlying25 hi hz0 hz1 hz2 rfl (by decide) _ _ _ rfl ((HI.out.row.alloc _).alloc _) ⟨wr.heap.size + 1, 0, none⟩ 1 1 (tsL ⟨nm, 1 + rc, 1 + rc + rd + rt, 1 + rc + rd, rj, 1 + rq, 0⟩) rfl rfl H7.out (tsL_one _) (by unfold maxLen; omega) (by omega) (by have := Below.size HL.out; simp; omega) ?_; intro v' w4 hown' hgrow hnil')
      go_roundw
      case rel =>
        have hb0 := Below.size HL.out
        refine ⟨k + 1, ts ++ [⟨nm, 1 + rc, 1 + rc + rd + rt, 1 + rc + rd, rj, 1 + rq, 0⟩], by omega, by omega, by go_num, ⟨by simp [HI.out.len], fun y hy => ?_, by rw [tsCells_snoc]; exact hown'⟩, Lib.hid (hsf.out.snoc HI.out.len ⟨hnk.out, by show 1 ≤ 1 + rc; omega, by show 1 + rc ≤ 4; omega, by show 1 + rc + rj ≤ 1 + rc + rd; omega, by show 1 + rc + rd ≤ 14; omega, by show 0 ≤ rj; omega, by show 1 + rc + rd ≤ 1 + rc + rd + rt; omega, by show 1 + rc + rd + rt ≤ 20; omega, by show 1 ≤ 1 + rq; omega, by show 1 + rq ≤ 1 + rc; omega⟩), ?_⟩
        · rcases List.mem_append.1 hy with hy | hy
          · exact HI.out.wf y hy
          · obtain rfl := List.mem_singleton.1 hy
            exact ⟨by show nm.size ≤ _; omega, ⟨by show _ ≤ 1 + rc; omega, by show 1 + rc ≤ _; omega⟩, ⟨by show _ ≤ 1 + rc + rd + rt; omega, by show 1 + rc + rd + rt ≤ _; omega⟩, ⟨by show _ ≤ 1 + rc + rd; omega, by show 1 + rc + rd ≤ _; omega⟩, ⟨by show _ ≤ rj; omega, by show rj ≤ _; omega⟩, ⟨by show _ ≤ 1 + rq; omega, by show 1 + rq ≤ _; omega⟩, by show in64 0; unfold in64; omega⟩
        · exact ((((Below.refl W0.heap.size W0).trans HL.out).alloc hb0 _).alloc (by simp; omega) _).grown hgrow (by simp; omega) (fun q hq => (HI.out.row.lt q hq).1)
      case measure => simp [intOf]; omega
    · have hk1 : 1 ≤ k := by omega
      have HSF := hsf
      clear hsf
      obtain ⟨g, cap2, rfl, hO⟩ := hI.own (by omega)
      have TN := Lib.hid (fun w => turns_any k turn w ht hk1 hk8)
      have RN := fun w => rrest_any turn k w ht (by omega) (by omega)
      obtain ⟨r0, r1⟩ := restI_bd turn k (by omega) (by omega)
      have hti := turnsI_is k turn hk1
      obtain ⟨r, hr⟩ : ∃ r : Nat, restI turn k = (r : Int) := ⟨(restI turn k).toNat, by omega⟩
      rw [hr] at RN r0 r1
      have RN := Lib.hid RN
      generalize turnsI k turn = τ at *
      have hτ : τ ≤ 8 := by omega
      have HTI := Lib.hid hti
      have HLEN := Lib.hid hI.len
      have HO0 := Lib.hid hO
      have HL0 := Lib.hid hL
      clear hr hti hI hO hL
      have hl : ¬ k < 1 := by omega
      · have g1 : decide ((k : Int) < ((1 : Nat) : Int)) = false := decide_eq_false (by omega)
        clear hgo
        go_wp2
        go_loopw [15] (fun i wr2 => ∃ (m : Nat) (ts2 : List Ts), m ≤ k ∧ i = .int .i64 m ∧ OwnT W0.heap.size wr2 g cap2 ts2 ∧ ts2.length = k ∧ Hid (SFs ts2) ∧ Hid (∀ (i : Nat) (x : Ts), ts2[i]? = some x → i < m → x.p = 1 + ((i : Int) * (τ : Int) + (r : Int)) % ((k : Nat) : Int)) ∧ Lt W0 wr2) (fun i _ => k - (intOf i).toNat)
        case atStart => exact ⟨0, ts, Nat.zero_le _, rfl, HO0.out, HLEN.out, HSF, Lib.hid (fun i x _ h => absurd h (by omega)), HL0.out⟩
        case round =>
          obtain ⟨m, ts2, hm, rfl, hO2, hl2, hsf2, hq, hL2⟩ := hrel
          by_cases hmk : m < k
          · obtain ⟨x, hx⟩ : ∃ x, ts2[m]? = some x := ⟨ts2[m], List.getElem?_eq_getElem (by omega)⟩
            have c6 := (hO2.at_ m x hx).c6
            have fz := hO2.fz (m * 7 + 6)
            have hi0 : (0 : Int) ≤ (m : Int) := by omega
            have hi1 : (m : Int) < ((k : Nat) : Int) := by omega
            have hkz : (0 : Int) < ((k : Nat) : Int) := by omega
            have hmul : ((m * τ : Nat) : Int) = (m : Int) * (τ : Int) := Int.natCast_mul m τ
            have hmm : m * τ ≤ 8 * 8 := Nat.mul_le_mul (by omega) hτ
            have hm0 : (0 : Int) ≤ (m : Int) * (τ : Int) := by rw [← hmul]; omega
            have hm1 : (m : Int) * (τ : Int) ≤ 64 := by rw [← hmul]; omega
            have hp0 : 0 ≤ ((m : Int) * (τ : Int) + (r : Int)) % ((k : Nat) : Int) := Int.emod_nonneg _ (by omega)
            have hp1 : ((m : Int) * (τ : Int) + (r : Int)) % ((k : Nat) : Int) < ((k : Nat) : Int) := Int.emod_lt_of_pos _ hkz
            have HX := Lib.hid hx
            have HO2 := Lib.hid hO2
            have HL2 := Lib.hid hL2
            have HLL := Lib.hid hl2
            clear hmul hmm hx hO2 hL2 hl2 hp0 hp1
            go_wp2_with (first
              | (go_at_call 13; (with_reducible refine (TN.out _).mono ?_); rintro e w' ⟨rfl, rfl⟩)
              | (go_at_call 12; (with_reducible refine (RN.out _).mono ?_); rintro e w' ⟨rfl, rfl⟩))
            go_roundw
            case rel =>
              have hp0 : 0 ≤ ((m : Int) * (τ : Int) + (r : Int)) % ((k : Nat) : Int) := Int.emod_nonneg _ (by omega)
              have hp1 : ((m : Int) * (τ : Int) + (r : Int)) % ((k : Nat) : Int) < ((k : Nat) : Int) := Int.emod_lt_of_pos _ (by omega)
              refine ⟨m + 1, ts2.set m { x with p := 1 + ((m : Int) * (τ : Int) + (r : Int)) % ((k : Nat) : Int) }, by omega, by go_num, (by rw [wrap_p _ hp0 hp1 hk8]; exact HO2.out.setP HX.out _ (in64_p _ hp0 hp1 hk8)), by rw [List.length_set]; exact HLL.out, Lib.hid (hsf2.out.setP HX.out _), Lib.hid (fun i y hy hi => ?_), setCell_own HL2.out HO2.out.hB _⟩
              by_cases e : m = i
              · subst e
                rw [List.getElem?_set_self (by rw [HLL.out]; omega)] at hy
                cases hy
                rfl
              · rw [List.getElem?_set_ne e] at hy
                exact hq.out i y hy (by omega)
            case measure => simp [intOf]; omega
          · obtain rfl : m = k := by omega
            have HL2 := Lib.hid hL2
            have HO2 := Lib.hid hO2
            have HLL := Lib.hid hl2
            clear hL2 hO2 hl2
            go_wp2
            go_ret
            refine ⟨_, cap2, ts2, by rw [HLL.out]; rfl, HO2.out.row, by rw [HLL.out]; omega, by rw [HLL.out]; omega, ?_, hsf2.out, ?_, Below.trans HB.out (Below.mono HL2.out (Below.size HB.out))⟩
            · exact dist_of (by omega) hk8 (by omega) HTI.out HLL.out (fun i x hx => hq.out i x hx (by have := (List.getElem?_eq_some_iff.1 hx).1; rw [HLL.out] at this; exact this))
            · exact p_bd (by omega) hk8 (fun i x hx => hq.out i x hx (by have := (List.getElem?_eq_some_iff.1 hx).1; rw [HLL.out] at this; exact this))

theorem set_any (M : Int) (hM1 : 1 ≤ M) (hM8 : M ≤ 8) (A : Option Addr) (cap : Nat) (l : List Sp) (turn : Int) (w : World) (hR : SRow w A cap l) (ht : in64 turn) :
    Calls Tryz.prog 5 #[.slice A l.length cap, .int .i64 M, .int .i64 turn] w (SetPost M w) := by
  by_cases h0 : l.length = 0
  · rw [h0]; exact set_none M hM1 hM8 A cap turn w ht
  · exact set_some M hM1 hM8 A cap l turn w hR ht h0
end Go.Proofs.YtnhddnldebdmbaaGreatDoor
