/- What was there ahead: maps of names and of urgencies; the closures that ask them; what CheckAll tells. -/
import Derived.Test.YtngmaiiibinkaaaSpec
import Derived.Test.YtngmaiiibinkaaaFind
import Derived.Laws.BytesString
import Derived.Laws.AppendOwn
import Derived.RangeFuncBox
import Derived.RangeFuncRecord
import Derived.MapKept
namespace Go.Proofs.Ytngmaiiibinkaaa
open Go.RowKit
set_option linter.unusedVariables false
set_option linter.unusedSimpArgs false

/-! ### What CheckAll tells -/
def nameIn (pre : List Ts) (x : Ts) : Bool := pre.any fun y => decide (y.n = x.n)
def prioIn (pre : List Ts) (x : Ts) : Bool := pre.any fun y => decide (y.p = x.p)
def chkFrom (pre : List Ts) : List Ts → Nat × Int
  | [] => (pre.length, 0)
  | x :: r => if checkE x ≠ 0 then (pre.length, checkE x) else if nameIn pre x || prioIn pre x then (pre.length, 13) else chkFrom (pre ++ [x]) r
def chkAll (l : List Ts) : Nat × Int := if l.length = 0 ∨ 1024 < l.length then (0, 14) else chkFrom [] l
theorem take_ts {l : List Ts} {k : Nat} {x : Ts} (h : l[k]? = some x) : l.take (k + 1) = l.take k ++ [x] := by
  rw [List.take_add_one, h]; rfl
theorem chk_bad {l : List Ts} {k : Nat} {x : Ts} (h : chkAll l = chkFrom (l.take k) (l.drop k)) (hx : l[k]? = some x) (he : checkE x ≠ 0) : chkAll l = (k, checkE x) := by
  have := (List.getElem?_eq_some_iff.1 hx).1
  rw [h, drop_ts hx, chkFrom, if_pos he, List.length_take, Nat.min_eq_left (by omega)]
theorem chk_dup {l : List Ts} {k : Nat} {x : Ts} (h : chkAll l = chkFrom (l.take k) (l.drop k)) (hx : l[k]? = some x) (he : checkE x = 0) (hd : (nameIn (l.take k) x || prioIn (l.take k) x) = true) : chkAll l = (k, 13) := by
  have := (List.getElem?_eq_some_iff.1 hx).1
  rw [h, drop_ts hx, chkFrom, if_neg (by omega), if_pos hd, List.length_take, Nat.min_eq_left (by omega)]
theorem chk_next {l : List Ts} {k : Nat} {x : Ts} (h : chkAll l = chkFrom (l.take k) (l.drop k)) (hx : l[k]? = some x) (he : checkE x = 0) (h1 : nameIn (l.take k) x = false) (h2 : prioIn (l.take k) x = false) : chkAll l = chkFrom (l.take (k + 1)) (l.drop (k + 1)) := by
  rw [h, drop_ts hx, chkFrom, if_neg (by omega), h1, h2, take_ts hx]
  rfl
theorem chk_end {l : List Ts} (h : chkAll l = chkFrom (l.take l.length) (l.drop l.length)) : chkAll l = (l.length, 0) := by
  rw [h, List.drop_length, List.take_length]; rfl
theorem chk_start {l : List Ts} (h0 : l.length ≠ 0) (h1 : l.length ≤ 1024) : chkAll l = chkFrom (l.take 0) (l.drop 0) := by
  rw [chkAll, if_neg (by omega)]; rfl

/-! ### Maps -/
/-- Block r holds a map that holds true at each of these keys, and nothing else. -/
def MapOf (w : World) (r : Nat) (keys : List Value) : Prop := ∃ es c, w.heap[r]? = some (.map es c) ∧ es.toList.map (·.key) = keys ∧ ∀ e ∈ es.toList, e.val = .bool true
theorem MapOf.lt {w : World} {r : Nat} {keys : List Value} (h : MapOf w r keys) : r < w.heap.size := by
  obtain ⟨es, c, h1, _⟩ := h
  exact (Array.getElem?_eq_some_iff.1 h1).1
theorem MapOf.below {w w' : World} {r B : Nat} {keys : List Value} (h : MapOf w r keys) (hb : Below B w w') (hB : r < B) : MapOf w' r keys := by
  obtain ⟨es, c, h1, h2⟩ := h
  exact ⟨es, c, (hb.block r hB).trans h1, h2⟩
theorem MapOf.later {w w' : World} {r : Nat} {keys : List Value} (h : MapOf w r keys) (hb : Below w.heap.size w w') : MapOf w' r keys := h.below hb h.lt

theorem ba_beq (s a : ByteArray) : (s == a) = decide (s = a) := by
  cases s with
  | mk s =>
    cases a with
    | mk a =>
      show (s == a) = _
      rw [Bool.eq_iff_iff]
      simp
theorem find_strs (s : ByteArray) : ∀ (es : List MapEntry) (ks : List ByteArray) (i : Nat), es.map (·.key) = ks.map Value.string →
    (s ∈ ks → ∃ j e, e ∈ es ∧ Instr.findNow .string (.string s) es i = some (some (j, e.val))) ∧ (s ∉ ks → Instr.findNow .string (.string s) es i = some none)
  | [], ks, i, h => by
    cases ks with
    | nil => exact ⟨fun h => by simp at h, fun _ => rfl⟩
    | cons a r => simp at h
  | e :: es, ks, i, h => by
    cases ks with
    | nil => simp at h
    | cons a r =>
      simp only [List.map_cons, List.cons.injEq] at h
      obtain ⟨h1, h2⟩ := h
      have ih := find_strs s es r (i + 1) h2
      unfold Instr.findNow
      rw [h1]
      simp only [Instr.sameNow]
      by_cases hs : s = a
      · subst hs
        simp only [ba_beq, decide_true]
        exact ⟨fun _ => ⟨i, e, by simp, rfl⟩, fun hn => absurd (by simp) hn⟩
      · have hb : (s == a) = false := by rw [ba_beq]; exact decide_eq_false hs
        simp only [hb]
        refine ⟨fun hm => ?_, fun hn => ih.2 (by simp at hn; exact hn.2)⟩
        obtain ⟨j, e', he, hf⟩ := ih.1 (by simpa [hs] using hm)
        exact ⟨j, e', by simp [he], hf⟩
theorem find_ints (s : Int) (k : IntKind) : ∀ (es : List MapEntry) (ks : List Int) (i : Nat), es.map (·.key) = ks.map (Value.int .i64) →
    (s ∈ ks → ∃ j e, e ∈ es ∧ Instr.findNow (.int k) (.int .i64 s) es i = some (some (j, e.val))) ∧ (s ∉ ks → Instr.findNow (.int k) (.int .i64 s) es i = some none)
  | [], ks, i, h => by
    cases ks with
    | nil => exact ⟨fun h => by simp at h, fun _ => rfl⟩
    | cons a r => simp at h
  | e :: es, ks, i, h => by
    cases ks with
    | nil => simp at h
    | cons a r =>
      simp only [List.map_cons, List.cons.injEq] at h
      obtain ⟨h1, h2⟩ := h
      have ih := find_ints s k es r (i + 1) h2
      unfold Instr.findNow
      rw [h1]
      simp only [Instr.sameNow, if_true]
      by_cases hs : s = a
      · subst hs
        simp only [beq_self_eq_true]
        exact ⟨fun _ => ⟨i, e, by simp, rfl⟩, fun hn => absurd (by simp) hn⟩
      · have hb : (s == a) = false := by simpa using hs
        simp only [hb]
        refine ⟨fun hm => ?_, fun hn => ih.2 (by simp at hn; exact hn.2)⟩
        obtain ⟨j, e', he, hf⟩ := ih.1 (by simpa [hs] using hm)
        exact ⟨j, e', by simp [he], hf⟩
theorem nameIn_mem (pre : List Ts) (x : Ts) : nameIn pre x = true ↔ x.n ∈ pre.map (·.n) := by
  simp only [nameIn, List.any_eq_true, decide_eq_true_eq, List.mem_map]
theorem prioIn_mem (pre : List Ts) (x : Ts) : prioIn pre x = true ↔ x.p ∈ pre.map (·.p) := by
  simp only [prioIn, List.any_eq_true, decide_eq_true_eq, List.mem_map]

theorem getObj_map {w : World} {r : Nat} {es : Array MapEntry} {c : Nat} (h : w.heap[r]? = some (.map es c)) : (getObj r).run Try.prog w = .ok (.map es c) w := by simp [getObj, Sem.run, h]
theorem checkKey_str (e : Bool) (d : Nat) (s : ByteArray) (w : World) : (Instr.checkKey e (d + 1) 9 (.string s)).run Try.prog w = .ok () w := by simp [Instr.checkKey]
theorem checkKey_int (e : Bool) (d : Nat) (s : Int) (w : World) : (Instr.checkKey e (d + 1) 3 (.int .i64 s)).run Try.prog w = .ok () w := by simp [Instr.checkKey]

theorem setObj_map {w : World} {r : Nat} {es : Array MapEntry} {c : Nat} (h : w.heap[r]? = some (.map es c)) (o : Obj) : (setObj r o).run Try.prog w = .ok () (w.putObj r o) := by simp [setObj, Sem.run, h, World.putObj]
/-! ### The closures -/
def dupE (b : Bool) : Int := if b then 13 else 0
end Go.Proofs.Ytngmaiiibinkaaa
