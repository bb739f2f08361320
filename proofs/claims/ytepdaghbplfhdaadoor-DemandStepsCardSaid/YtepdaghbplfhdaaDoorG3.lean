/- Texts about the program, one after the other: Spec, Find, Maps, Chk, RChk, Checks, Set0. -/
import Derived.Test.YtepdaghbplfhdaaDoorG2
import Derived.Below
import Derived.ChangeOld
import Derived.ProofKit
import Derived.OpenShut
import Derived.LaidMore
import Derived.Laws.BytesString
import Derived.Laws.AppendOwn
import Derived.RangeFuncBox
import Derived.RangeFuncRecord
import Derived.MapKept
import Derived.Deep.LoopGhost
import Derived.WalkMore
/- Plain numbers of tasks in memory; what came in, read. -/
namespace Go.Proofs.YtepdaghbplfhdaaDoor
open Go.RowKit
set_option linter.unusedVariables false
set_option linter.unusedSimpArgs false

/-- A task by plain numbers. -/
structure Sp where
  c : Int
  d : Int
  j : Int
  q : Int
  t : Int
structure SpW (x : Sp) : Prop where
  c : in64 x.c
  d : in64 x.d
  j : in64 x.j
  q : in64 x.q
  t : in64 x.t
def spL (x : Sp) : List Value := [.int .i64 x.c, .int .i64 x.d, .int .i64 x.j, .int .i64 x.q, .int .i64 x.t]
structure SAt (w : World) (b o : Nat) (x : Sp) : Prop where
  r : w.rangeAt b o (spL x)
theorem SAt.c0 {w : World} {b o : Nat} {x : Sp} (h : SAt w b o x) : w.cell? ⟨b, o, none⟩ = some (.int .i64 x.c) := h.r 0 _ rfl
theorem SAt.c1 {w : World} {b o : Nat} {x : Sp} (h : SAt w b o x) : w.cell? ⟨b, o + 1, none⟩ = some (.int .i64 x.d) := h.r 1 _ rfl
theorem SAt.c2 {w : World} {b o : Nat} {x : Sp} (h : SAt w b o x) : w.cell? ⟨b, o + 2, none⟩ = some (.int .i64 x.j) := h.r 2 _ rfl
theorem SAt.c3 {w : World} {b o : Nat} {x : Sp} (h : SAt w b o x) : w.cell? ⟨b, o + 3, none⟩ = some (.int .i64 x.q) := h.r 3 _ rfl
theorem SAt.c4 {w : World} {b o : Nat} {x : Sp} (h : SAt w b o x) : w.cell? ⟨b, o + 4, none⟩ = some (.int .i64 x.t) := h.r 4 _ rfl
theorem SAt.lt {w : World} {b o : Nat} {x : Sp} (h : SAt w b o x) : b < w.heap.size := World.block_lt_of_cell? w _ h.c0
theorem SAt.later {w w' : World} {b o : Nat} {x : Sp} (h : SAt w b o x) (hb : Below w.heap.size w w') : SAt w' b o x := ⟨fun j v hv => (hb.cell (p := ⟨b, o + j, none⟩) h.lt).trans (h.r j v hv)⟩
/-- A slice that reads as a row of them. -/
structure SRow (w : World) (A : Option Addr) (cap : Nat) (l : List Sp) : Prop where
  le : l.length ≤ cap
  mx : cap ≤ 9223372036854775807
  wf : ∀ x ∈ l, SpW x
  at_ : ∀ i x, l[i]? = some x → ∃ b o, A = some ⟨b, o, none⟩ ∧ SAt w b (o + i * 5) x
theorem SRow.later {w w' : World} {A : Option Addr} {cap : Nat} {l : List Sp} (h : SRow w A cap l) (hb : Below w.heap.size w w') : SRow w' A cap l :=
  ⟨h.le, h.mx, h.wf, fun i x hx => by
    obtain ⟨b, o, e, ht⟩ := h.at_ i x hx
    exact ⟨b, o, e, ht.later hb⟩⟩

theorem SRow.get {w : World} {A : Option Addr} {cap : Nat} {l : List Sp} (h : SRow w A cap l) {k : Nat} (hk : k < l.length) : ∃ b o x, A = some ⟨b, o, none⟩ ∧ l[k]? = some x ∧ SpW x ∧ b < w.heap.size ∧ SAt w b (o + k * 5) x := by
  obtain ⟨b, o, e, ht⟩ := h.at_ k l[k] (List.getElem?_eq_getElem hk)
  exact ⟨b, o, l[k], e, List.getElem?_eq_getElem hk, h.wf _ (List.getElem_mem hk), ht.lt, ht⟩
theorem SRow.nil {w : World} (A : Option Addr) (cap : Nat) (h : cap ≤ 9223372036854775807) : SRow w A cap [] := ⟨by simp, h, by simp, by simp⟩
theorem list_of {α : Type} {P : Nat → α → Prop} : ∀ (n : Nat), (∀ i, i < n → ∃ x, P i x) → ∃ l : List α, l.length = n ∧ ∀ i x, l[i]? = some x → P i x
  | 0, _ => ⟨[], rfl, by simp⟩
  | n + 1, h => by
    obtain ⟨l, hl, hp⟩ := list_of n (fun i hi => h i (by omega))
    obtain ⟨x, hx⟩ := h n (by omega)
    refine ⟨l ++ [x], by simp [hl], fun i y hy => ?_⟩
    by_cases hi : i < l.length
    · rw [List.getElem?_append_left hi] at hy; exact hp i y hy
    · rw [List.getElem?_append_right (by omega)] at hy
      have : i - l.length = 0 := by
        rcases Nat.eq_zero_or_pos (i - l.length) with h0 | h0
        · exact h0
        · rw [List.getElem?_eq_none (by simp; omega)] at hy; cases hy
      rw [this] at hy
      obtain rfl : x = y := by simpa using hy
      obtain rfl : i = n := by omega
      exact hx
theorem spot_of {w : World} {a : Addr} {v : Value} (h : w.cell? a = some v) : a = ⟨a.block, a.off, none⟩ := by
  cases a with
  | mk b o s =>
    cases s with
    | none => rfl
    | some s =>
      unfold World.cell? at h
      split at h
      · simp at h
      · cases h
theorem add_none (b o n : Nat) : (⟨b, o, none⟩ : Addr).add n = ⟨b, o + n, none⟩ := by
  unfold Addr.add
  by_cases h : n = 0
  · simp [h]
  · simp [h]
theorem in64_of {n : Int} (h : (Lit.int .i64 n).wf = true) : in64 n := by
  simp [Lit.wf, IntKind.min, IntKind.max, IntKind.bits, IntKind.signed] at h
  unfold in64
  omega

theorem slice_spot {α : Type} {w : World} {base k len : Nat} {a : Addr} {f : List Value → Option α} {elems : List α} (hlen : elems.length = len) (h0 : 0 < len) (hk : 0 < k)
    (hel : ∀ i, i < len → (w.cells? base (a.add (i * k)) k).bind f = elems[i]?) : a = ⟨a.block, a.off, none⟩ := by
  have h1 := hel 0 h0
  rw [List.getElem?_eq_getElem (by omega)] at h1
  obtain ⟨cl, hcs2, ht⟩ := Option.bind_eq_some_iff.1 h1
  obtain ⟨_, hcl, hat⟩ := World.cells?_some hcs2
  have h2 := hat 0 hk
  rw [List.getElem?_eq_getElem (by omega)] at h2
  have e : (a.add (0 * k)).add 0 = a := by simp [Addr.add]
  rw [e] at h2
  exact spot_of h2

section
open Go.ChangeShapes Go.WideShapes Go.ChangeAt
variable {H : Type} {enc : TypeId × Value → H} {W : World} {base : Nat} {sp : Nat → Bool} {hd : Bool}
set_option maxRecDepth 100000 in
theorem read_tasks {fuel : Nat} {v : Value} {y : DataW H × List MemPlace} (h : DataW.trod enc Tryd.prog W base sp hd fuel 23 [v] = some y) :
    ∃ A cap l, v = .slice A l.length cap ∧ Row W A cap l := by
  rcases DataW.trod_slice Tryd.underlying23 h with ⟨hcs, _⟩ | ⟨a, len, cap, elems, rest, n, _, hcs, _, _, hl', hm, hlen, hel, _, _⟩
  · obtain rfl : v = .slice none 0 0 := by simpa using hcs
    exact ⟨none, 0, [], rfl, Row.nil _ _ (by omega)⟩
  · obtain rfl : v = .slice (some a) len cap := by simpa using hcs
    have c7 : Tryd.prog.cellsOf 43 = 7 := by kernel_rfl
    rw [c7] at hel
    unfold maxLen at hm
    rcases Nat.eq_zero_or_pos len with h0 | h0
    · subst h0
      exact ⟨_, cap, [], rfl, Row.nil _ _ hm⟩
    have hsp := slice_spot hlen h0 (by omega) hel
    obtain ⟨ab, ao, asp⟩ := a
    obtain rfl : asp = none := by injection hsp
    clear hsp
    have key : ∀ i, i < len → ∃ x : Ts, TsW x ∧ TAt W ab (ao + i * 7) x := by
      intro i hi
      have h1 := hel i hi
      have ci : Tryd.prog.cellsOf 3 = 1 := by kernel_rfl
      have ch : Tryd.prog.cellsOf 2 = 1 := by kernel_rfl
      have cs : Tryd.prog.cellsOf 9 = 1 := by kernel_rfl
      rw [List.getElem?_eq_getElem (by omega)] at h1
      obtain ⟨cl, hcs2, ht⟩ := Option.bind_eq_some_iff.1 h1
      obtain ⟨_, hcl, hat⟩ := World.cells?_some hcs2
      obtain ⟨ys, n', _, _, _, hyl, hf⟩ := DataW.trod_struct Tryd.underlying43 ht
      match cl, hcl, hat, hf with
      | [v0, v1, v2, v3, v4, v5, v6], _, hat, hf =>
        have g0 : DataW.trod enc Tryd.prog W base sp hd n' 9 [v0] = ys[0]? := by
          have e : DataW.trod enc Tryd.prog W base sp hd n' 9 (([v0, v1, v2, v3, v4, v5, v6].drop 0).take (Tryd.prog.cellsOf 9)) = ys[0]? := hf 0 _ rfl
          rw [cs] at e
          exact e
        have g1 : DataW.trod enc Tryd.prog W base sp hd n' 2 [v1] = ys[1]? := by
          have e : DataW.trod enc Tryd.prog W base sp hd n' 2 (([v0, v1, v2, v3, v4, v5, v6].drop 1).take (Tryd.prog.cellsOf 2)) = ys[1]? := hf 1 _ rfl
          rw [ch] at e
          exact e
        have g2 : DataW.trod enc Tryd.prog W base sp hd n' 2 [v2] = ys[2]? := by
          have e : DataW.trod enc Tryd.prog W base sp hd n' 2 (([v0, v1, v2, v3, v4, v5, v6].drop 2).take (Tryd.prog.cellsOf 2)) = ys[2]? := hf 2 _ rfl
          rw [ch] at e
          exact e
        have g3 : DataW.trod enc Tryd.prog W base sp hd n' 2 [v3] = ys[3]? := by
          have e : DataW.trod enc Tryd.prog W base sp hd n' 2 (([v0, v1, v2, v3, v4, v5, v6].drop 3).take (Tryd.prog.cellsOf 2)) = ys[3]? := hf 3 _ rfl
          rw [ch] at e
          exact e
        have g4 : DataW.trod enc Tryd.prog W base sp hd n' 2 [v4] = ys[4]? := by
          have e : DataW.trod enc Tryd.prog W base sp hd n' 2 (([v0, v1, v2, v3, v4, v5, v6].drop 4).take (Tryd.prog.cellsOf 2)) = ys[4]? := hf 4 _ rfl
          rw [ch] at e
          exact e
        have g5 : DataW.trod enc Tryd.prog W base sp hd n' 2 [v5] = ys[5]? := by
          have e : DataW.trod enc Tryd.prog W base sp hd n' 2 (([v0, v1, v2, v3, v4, v5, v6].drop 5).take (Tryd.prog.cellsOf 2)) = ys[5]? := hf 5 _ rfl
          rw [ch] at e
          exact e
        have g6 : DataW.trod enc Tryd.prog W base sp hd n' 3 [v6] = ys[6]? := by
          have e : DataW.trod enc Tryd.prog W base sp hd n' 3 (([v0, v1, v2, v3, v4, v5, v6].drop 6).take (Tryd.prog.cellsOf 3)) = ys[6]? := hf 6 _ rfl
          rw [ci] at e
          exact e
        have hy7 : ys.length = 7 := hyl
        rw [List.getElem?_eq_getElem (by omega)] at g0 g1 g2 g3 g4 g5 g6
        obtain ⟨z0, e0, _, w0⟩ := DataW.trod_string Tryd.underlying9 g0
        obtain ⟨z1, e1, _, w1⟩ := DataW.trod_int Tryd.underlying2 g1
        obtain ⟨z2, e2, _, w2⟩ := DataW.trod_int Tryd.underlying2 g2
        obtain ⟨z3, e3, _, w3⟩ := DataW.trod_int Tryd.underlying2 g3
        obtain ⟨z4, e4, _, w4⟩ := DataW.trod_int Tryd.underlying2 g4
        obtain ⟨z5, e5, _, w5⟩ := DataW.trod_int Tryd.underlying2 g5
        obtain ⟨z6, e6, _, w6⟩ := DataW.trod_int Tryd.underlying3 g6
        obtain rfl : v0 = .string z0 := by simpa using e0
        obtain rfl : v1 = .int .i64 z1 := by simpa using e1
        obtain rfl : v2 = .int .i64 z2 := by simpa using e2
        obtain rfl : v3 = .int .i64 z3 := by simpa using e3
        obtain rfl : v4 = .int .i64 z4 := by simpa using e4
        obtain rfl : v5 = .int .i64 z5 := by simpa using e5
        obtain rfl : v6 = .int .i64 z6 := by simpa using e6
        refine ⟨⟨z0, z1, z2, z3, z4, z5, z6⟩, ⟨by simpa [maxLen] using w0, in64_of w1, in64_of w2, in64_of w3, in64_of w4, in64_of w5, in64_of w6⟩, ⟨fun j u hu => ?_⟩⟩
        have hj : j < 7 := by
          rcases Nat.lt_or_ge j 7 with h | h
          · exact h
          · rw [List.getElem?_eq_none (by simp [tsL]; omega)] at hu; cases hu
        have := hat j (by simpa using hj)
        simp only [add_none] at this
        rw [this]
        rw [← hu]
        rfl
    obtain ⟨l, hl, hp⟩ := list_of len key
    subst hl
    refine ⟨some ⟨ab, ao, none⟩, cap, l, rfl, ⟨hl', hm, fun x hx => ?_, fun i x hx => ⟨ab, ao, rfl, (hp i x hx).2⟩⟩⟩
    obtain ⟨i, hi, rfl⟩ := List.getElem_of_mem hx
    exact (hp i _ (List.getElem?_eq_getElem hi)).1
set_option maxRecDepth 100000 in
theorem read_specs {fuel : Nat} {v : Value} {y : DataW H × List MemPlace} (h : DataW.trod enc Tryd.prog W base sp hd fuel 22 [v] = some y) :
    ∃ A cap l, v = .slice A l.length cap ∧ SRow W A cap l := by
  rcases DataW.trod_slice Tryd.underlying22 h with ⟨hcs, _⟩ | ⟨a, len, cap, elems, rest, n, _, hcs, _, _, hl', hm, hlen, hel, _, _⟩
  · obtain rfl : v = .slice none 0 0 := by simpa using hcs
    exact ⟨none, 0, [], rfl, SRow.nil _ _ (by omega)⟩
  · obtain rfl : v = .slice (some a) len cap := by simpa using hcs
    have c5 : Tryd.prog.cellsOf 50 = 5 := by kernel_rfl
    rw [c5] at hel
    unfold maxLen at hm
    rcases Nat.eq_zero_or_pos len with h0 | h0
    · subst h0
      exact ⟨_, cap, [], rfl, SRow.nil _ _ hm⟩
    have hsp := slice_spot hlen h0 (by omega) hel
    obtain ⟨ab, ao, asp⟩ := a
    obtain rfl : asp = none := by injection hsp
    clear hsp
    have key : ∀ i, i < len → ∃ x : Sp, SpW x ∧ SAt W ab (ao + i * 5) x := by
      intro i hi
      have h1 := hel i hi
      have ci : Tryd.prog.cellsOf 3 = 1 := by kernel_rfl
      rw [List.getElem?_eq_getElem (by omega)] at h1
      obtain ⟨cl, hcs2, ht⟩ := Option.bind_eq_some_iff.1 h1
      obtain ⟨_, hcl, hat⟩ := World.cells?_some hcs2
      obtain ⟨ys, n', _, _, _, hyl, hf⟩ := DataW.trod_struct Tryd.underlying50 ht
      match cl, hcl, hat, hf with
      | [v0, v1, v2, v3, v4], _, hat, hf =>
        have g0 : DataW.trod enc Tryd.prog W base sp hd n' 3 [v0] = ys[0]? := by
          have e : DataW.trod enc Tryd.prog W base sp hd n' 3 (([v0, v1, v2, v3, v4].drop 0).take (Tryd.prog.cellsOf 3)) = ys[0]? := hf 0 _ rfl
          rw [ci] at e
          exact e
        have g1 : DataW.trod enc Tryd.prog W base sp hd n' 3 [v1] = ys[1]? := by
          have e : DataW.trod enc Tryd.prog W base sp hd n' 3 (([v0, v1, v2, v3, v4].drop 1).take (Tryd.prog.cellsOf 3)) = ys[1]? := hf 1 _ rfl
          rw [ci] at e
          exact e
        have g2 : DataW.trod enc Tryd.prog W base sp hd n' 3 [v2] = ys[2]? := by
          have e : DataW.trod enc Tryd.prog W base sp hd n' 3 (([v0, v1, v2, v3, v4].drop 2).take (Tryd.prog.cellsOf 3)) = ys[2]? := hf 2 _ rfl
          rw [ci] at e
          exact e
        have g3 : DataW.trod enc Tryd.prog W base sp hd n' 3 [v3] = ys[3]? := by
          have e : DataW.trod enc Tryd.prog W base sp hd n' 3 (([v0, v1, v2, v3, v4].drop 3).take (Tryd.prog.cellsOf 3)) = ys[3]? := hf 3 _ rfl
          rw [ci] at e
          exact e
        have g4 : DataW.trod enc Tryd.prog W base sp hd n' 3 [v4] = ys[4]? := by
          have e : DataW.trod enc Tryd.prog W base sp hd n' 3 (([v0, v1, v2, v3, v4].drop 4).take (Tryd.prog.cellsOf 3)) = ys[4]? := hf 4 _ rfl
          rw [ci] at e
          exact e
        have hy5 : ys.length = 5 := hyl
        rw [List.getElem?_eq_getElem (by omega)] at g0 g1 g2 g3 g4
        obtain ⟨z0, e0, _, w0⟩ := DataW.trod_int Tryd.underlying3 g0
        obtain ⟨z1, e1, _, w1⟩ := DataW.trod_int Tryd.underlying3 g1
        obtain ⟨z2, e2, _, w2⟩ := DataW.trod_int Tryd.underlying3 g2
        obtain ⟨z3, e3, _, w3⟩ := DataW.trod_int Tryd.underlying3 g3
        obtain ⟨z4, e4, _, w4⟩ := DataW.trod_int Tryd.underlying3 g4
        obtain rfl : v0 = .int .i64 z0 := by simpa using e0
        obtain rfl : v1 = .int .i64 z1 := by simpa using e1
        obtain rfl : v2 = .int .i64 z2 := by simpa using e2
        obtain rfl : v3 = .int .i64 z3 := by simpa using e3
        obtain rfl : v4 = .int .i64 z4 := by simpa using e4
        refine ⟨⟨z0, z1, z2, z3, z4⟩, ⟨in64_of w0, in64_of w1, in64_of w2, in64_of w3, in64_of w4⟩, ⟨fun j u hu => ?_⟩⟩
        have hj : j < 5 := by
          rcases Nat.lt_or_ge j 5 with h | h
          · exact h
          · rw [List.getElem?_eq_none (by simp [spL]; omega)] at hu; cases hu
        have := hat j (by simpa using hj)
        simp only [add_none] at this
        rw [this]
        rw [← hu]
        rfl
    obtain ⟨l, hl, hp⟩ := list_of len key
    subst hl
    refine ⟨some ⟨ab, ao, none⟩, cap, l, rfl, ⟨hl', hm, fun x hx => ?_, fun i x hx => ⟨ab, ao, rfl, (hp i x hx).2⟩⟩⟩
    obtain ⟨i, hi, rfl⟩ := List.getElem_of_mem hx
    exact (hp i _ (List.getElem?_eq_getElem hi)).1
end
end Go.Proofs.YtepdaghbplfhdaaDoor
/- Find, and the law's finds. -/
namespace Go.Proofs.YtepdaghbplfhdaaDoor
open Go.RowKit
set_option linter.unusedVariables false
set_option linter.unusedSimpArgs false

/-- The first place of a task of that name. -/
def fnd : List Ts → ByteArray → Option Nat
  | [], _ => none
  | x :: r, s => if x.n = s then some 0 else (fnd r s).map (· + 1)
theorem name_eq (a b : ByteArray) : (a.toList == b.toList) = decide (a = b) := by
  rw [Lib.toList_data, Lib.toList_data, Bool.eq_iff_iff]
  simp only [beq_iff_eq, decide_eq_true_eq]
  constructor
  · intro h
    apply ByteArray.ext
    exact Array.toList_inj.1 h
  · intro h; rw [h]
theorem drop_ts {l : List Ts} {k : Nat} {x : Ts} (h : l[k]? = some x) : l.drop k = x :: l.drop (k + 1) := by
  obtain ⟨hk, e⟩ := List.getElem?_eq_some_iff.1 h
  rw [List.drop_eq_getElem_cons hk, e]
theorem fnd_hit {l : List Ts} {s : ByteArray} {k : Nat} {x : Ts} (h : fnd l s = (fnd (l.drop k) s).map (· + k)) (hx : l[k]? = some x) (he : x.n = s) : fnd l s = some k := by
  rw [h, drop_ts hx, fnd, if_pos he]; simp
theorem fnd_miss {l : List Ts} {s : ByteArray} {k : Nat} {x : Ts} (h : fnd l s = (fnd (l.drop k) s).map (· + k)) (hx : l[k]? = some x) (he : x.n ≠ s) : fnd l s = (fnd (l.drop (k + 1)) s).map (· + (k + 1)) := by
  rw [h, drop_ts hx, fnd, if_neg he, Option.map_map]
  congr 1
  funext m
  simp; omega
theorem fnd_end {l : List Ts} {s : ByteArray} (h : fnd l s = (fnd (l.drop l.length) s).map (· + l.length)) : fnd l s = none := by
  rw [h, List.drop_length]; rfl
theorem fnd_self : ∀ {l : List Ts} {k : Nat} {x : Ts}, l[k]? = some x → ∃ m y, fnd l x.n = some m ∧ m ≤ k ∧ l[m]? = some y ∧ y.n = x.n
  | [], k, x, h => by simp at h
  | a :: r, k, x, h => by
    by_cases ha : a.n = x.n
    · exact ⟨0, a, by rw [fnd, if_pos ha], Nat.zero_le _, rfl, ha⟩
    · cases k with
      | zero => exact absurd (by simpa using congrArg (Option.map Ts.n) h) ha
      | succ k =>
        obtain ⟨m, y, h1, h2, h3, h4⟩ := fnd_self (l := r) (k := k) (x := x) (by simpa using h)
        exact ⟨m + 1, y, by rw [fnd, if_neg ha, h1]; rfl, by omega, by simpa using h3, h4⟩
theorem fnd_lt : ∀ {l : List Ts} {s : ByteArray} {m : Nat}, fnd l s = some m → m < l.length
  | [], s, m, h => by cases h
  | a :: r, s, m, h => by
    unfold fnd at h
    by_cases ha : a.n = s
    · rw [if_pos ha] at h; cases h; simp
    · rw [if_neg ha] at h
      cases hr : fnd r s with
      | none => rw [hr] at h; cases h
      | some k => rw [hr] at h; have := fnd_lt hr; simp at h; simp; omega

end Go.Proofs.YtepdaghbplfhdaaDoor
/- What was there ahead: maps of names and of urgencies; the closures that ask them; what CheckAll tells. -/
namespace Go.Proofs.YtepdaghbplfhdaaDoor
open Go.RowKit
set_option linter.unusedVariables false
set_option linter.unusedSimpArgs false

/-! ### What CheckAll tells -/
def nameIn (pre : List Ts) (x : Ts) : Bool := pre.any fun y => decide (y.n = x.n)
def prioIn (pre : List Ts) (x : Ts) : Bool := pre.any fun y => decide (y.p = x.p)
def chkFrom (pre : List Ts) : List Ts → Nat × Int
  | [] => (pre.length, 0)
  | x :: r => if checkE x ≠ 0 then (pre.length, checkE x) else if nameIn pre x || prioIn pre x then (pre.length, 13) else chkFrom (pre ++ [x]) r
def chkAll (l : List Ts) : Nat × Int := if l.length = 0 ∨ 1024 < l.length then (0, 14) else chkFrom [] l
theorem take_ts {l : List Ts} {k : Nat} {x : Ts} (h : l[k]? = some x) : l.take (k + 1) = l.take k ++ [x] := by
  rw [List.take_add_one, h]; rfl
theorem chk_bad {l : List Ts} {k : Nat} {x : Ts} (h : chkAll l = chkFrom (l.take k) (l.drop k)) (hx : l[k]? = some x) (he : checkE x ≠ 0) : chkAll l = (k, checkE x) := by
  have := (List.getElem?_eq_some_iff.1 hx).1
  rw [h, drop_ts hx, chkFrom, if_pos he, List.length_take, Nat.min_eq_left (by omega)]
theorem chk_dup {l : List Ts} {k : Nat} {x : Ts} (h : chkAll l = chkFrom (l.take k) (l.drop k)) (hx : l[k]? = some x) (he : checkE x = 0) (hd : (nameIn (l.take k) x || prioIn (l.take k) x) = true) : chkAll l = (k, 13) := by
  have := (List.getElem?_eq_some_iff.1 hx).1
  rw [h, drop_ts hx, chkFrom, if_neg (by omega), if_pos hd, List.length_take, Nat.min_eq_left (by omega)]
theorem chk_next {l : List Ts} {k : Nat} {x : Ts} (h : chkAll l = chkFrom (l.take k) (l.drop k)) (hx : l[k]? = some x) (he : checkE x = 0) (h1 : nameIn (l.take k) x = false) (h2 : prioIn (l.take k) x = false) : chkAll l = chkFrom (l.take (k + 1)) (l.drop (k + 1)) := by
  rw [h, drop_ts hx, chkFrom, if_neg (by omega), h1, h2, take_ts hx]
  rfl
theorem chk_end {l : List Ts} (h : chkAll l = chkFrom (l.take l.length) (l.drop l.length)) : chkAll l = (l.length, 0) := by
  rw [h, List.drop_length, List.take_length]; rfl
theorem chk_start {l : List Ts} (h0 : l.length ≠ 0) (h1 : l.length ≤ 1024) : chkAll l = chkFrom (l.take 0) (l.drop 0) := by
  rw [chkAll, if_neg (by omega)]; rfl

/-! ### Maps -/
/-- Block r holds a map that holds true at each of these keys, and nothing else. -/
def MapOf (w : World) (r : Nat) (keys : List Value) : Prop := ∃ es c, w.heap[r]? = some (.map es c) ∧ es.toList.map (·.key) = keys ∧ ∀ e ∈ es.toList, e.val = .bool true
theorem MapOf.lt {w : World} {r : Nat} {keys : List Value} (h : MapOf w r keys) : r < w.heap.size := by
  obtain ⟨es, c, h1, _⟩ := h
  exact (Array.getElem?_eq_some_iff.1 h1).1
theorem MapOf.below {w w' : World} {r B : Nat} {keys : List Value} (h : MapOf w r keys) (hb : Below B w w') (hB : r < B) : MapOf w' r keys := by
  obtain ⟨es, c, h1, h2⟩ := h
  exact ⟨es, c, (hb.block r hB).trans h1, h2⟩
theorem MapOf.later {w w' : World} {r : Nat} {keys : List Value} (h : MapOf w r keys) (hb : Below w.heap.size w w') : MapOf w' r keys := h.below hb h.lt

theorem ba_beq (s a : ByteArray) : (s == a) = decide (s = a) := by
  cases s with
  | mk s =>
    cases a with
    | mk a =>
      show (s == a) = _
      rw [Bool.eq_iff_iff]
      simp
theorem find_strs (s : ByteArray) : ∀ (es : List MapEntry) (ks : List ByteArray) (i : Nat), es.map (·.key) = ks.map Value.string →
    (s ∈ ks → ∃ j e, e ∈ es ∧ Instr.findNow .string (.string s) es i = some (some (j, e.val))) ∧ (s ∉ ks → Instr.findNow .string (.string s) es i = some none)
  | [], ks, i, h => by
    cases ks with
    | nil => exact ⟨fun h => by simp at h, fun _ => rfl⟩
    | cons a r => simp at h
  | e :: es, ks, i, h => by
    cases ks with
    | nil => simp at h
    | cons a r =>
      simp only [List.map_cons, List.cons.injEq] at h
      obtain ⟨h1, h2⟩ := h
      have ih := find_strs s es r (i + 1) h2
      unfold Instr.findNow
      rw [h1]
      simp only [Instr.sameNow]
      by_cases hs : s = a
      · subst hs
        simp only [ba_beq, decide_true]
        exact ⟨fun _ => ⟨i, e, by simp, rfl⟩, fun hn => absurd (by simp) hn⟩
      · have hb : (s == a) = false := by rw [ba_beq]; exact decide_eq_false hs
        simp only [hb]
        refine ⟨fun hm => ?_, fun hn => ih.2 (by simp at hn; exact hn.2)⟩
        obtain ⟨j, e', he, hf⟩ := ih.1 (by simpa [hs] using hm)
        exact ⟨j, e', by simp [he], hf⟩
theorem find_ints (s : Int) (k : IntKind) : ∀ (es : List MapEntry) (ks : List Int) (i : Nat), es.map (·.key) = ks.map (Value.int .i64) →
    (s ∈ ks → ∃ j e, e ∈ es ∧ Instr.findNow (.int k) (.int .i64 s) es i = some (some (j, e.val))) ∧ (s ∉ ks → Instr.findNow (.int k) (.int .i64 s) es i = some none)
  | [], ks, i, h => by
    cases ks with
    | nil => exact ⟨fun h => by simp at h, fun _ => rfl⟩
    | cons a r => simp at h
  | e :: es, ks, i, h => by
    cases ks with
    | nil => simp at h
    | cons a r =>
      simp only [List.map_cons, List.cons.injEq] at h
      obtain ⟨h1, h2⟩ := h
      have ih := find_ints s k es r (i + 1) h2
      unfold Instr.findNow
      rw [h1]
      simp only [Instr.sameNow, if_true]
      by_cases hs : s = a
      · subst hs
        simp only [beq_self_eq_true]
        exact ⟨fun _ => ⟨i, e, by simp, rfl⟩, fun hn => absurd (by simp) hn⟩
      · have hb : (s == a) = false := by simpa using hs
        simp only [hb]
        refine ⟨fun hm => ?_, fun hn => ih.2 (by simp at hn; exact hn.2)⟩
        obtain ⟨j, e', he, hf⟩ := ih.1 (by simpa [hs] using hm)
        exact ⟨j, e', by simp [he], hf⟩
theorem nameIn_mem (pre : List Ts) (x : Ts) : nameIn pre x = true ↔ x.n ∈ pre.map (·.n) := by
  simp only [nameIn, List.any_eq_true, decide_eq_true_eq, List.mem_map]
theorem prioIn_mem (pre : List Ts) (x : Ts) : prioIn pre x = true ↔ x.p ∈ pre.map (·.p) := by
  simp only [prioIn, List.any_eq_true, decide_eq_true_eq, List.mem_map]

theorem getObj_map {w : World} {r : Nat} {es : Array MapEntry} {c : Nat} (h : w.heap[r]? = some (.map es c)) : (getObj r).run Tryd.prog w = .ok (.map es c) w := by simp [getObj, Sem.run, h]
theorem checkKey_str (e : Bool) (d : Nat) (s : ByteArray) (w : World) : (Instr.checkKey e (d + 1) 9 (.string s)).run Tryd.prog w = .ok () w := by simp [Instr.checkKey]
theorem checkKey_int (e : Bool) (d : Nat) (s : Int) (w : World) : (Instr.checkKey e (d + 1) 3 (.int .i64 s)).run Tryd.prog w = .ok () w := by simp [Instr.checkKey]

theorem look_name {w : World} {r : Nat} {pre : List Ts} (h : MapOf w r (pre.map fun y => .string y.n)) (x : Ts) :
    (Instr.lookup 83 (.map (some r)) (.string x.n) false).run Tryd.prog w = .ok (.bool (nameIn pre x)) w := by
  obtain ⟨es, c, h1, h2, h3⟩ := h
  have hg := getObj_map h1
  have hf := find_strs x.n es.toList (pre.map (·.n)) 0 (by rw [h2, List.map_map]; rfl)
  cases hb : nameIn pre x
  · have hn : x.n ∉ pre.map (·.n) := fun hm => by rw [(nameIn_mem pre x).2 hm] at hb; cases hb
    simp [Instr.lookup, hg, checkKey_str, Instr.findKey, hf.2 hn]
  · obtain ⟨j, e, he, hfe⟩ := hf.1 ((nameIn_mem pre x).1 hb)
    simp [Instr.lookup, hg, checkKey_str, Instr.findKey, hfe, h3 e he]
theorem look_prio {w : World} {r : Nat} {pre : List Ts} (h : MapOf w r (pre.map fun y => .int .i64 y.p)) (x : Ts) :
    (Instr.lookup 84 (.map (some r)) (.int .i64 x.p) false).run Tryd.prog w = .ok (.bool (prioIn pre x)) w := by
  obtain ⟨es, c, h1, h2, h3⟩ := h
  have hg := getObj_map h1
  have hf := fun k => find_ints x.p k es.toList (pre.map (·.p)) 0 (by rw [h2, List.map_map]; rfl)
  cases hb : prioIn pre x
  · have hn : x.p ∉ pre.map (·.p) := fun hm => by rw [(prioIn_mem pre x).2 hm] at hb; cases hb
    simp [Instr.lookup, hg, checkKey_int, Instr.findKey, (hf _).2 hn]
  · obtain ⟨j, e, he, hfe⟩ := (hf .i64).1 ((prioIn_mem pre x).1 hb)
    simp [Instr.lookup, hg, checkKey_int, Instr.findKey, hfe, h3 e he]
theorem setObj_map {w : World} {r : Nat} {es : Array MapEntry} {c : Nat} (h : w.heap[r]? = some (.map es c)) (o : Obj) : (setObj r o).run Tryd.prog w = .ok () (w.putObj r o) := by simp [setObj, Sem.run, h, World.putObj]
/-- What is new is put behind what was there. -/
theorem put_name {w : World} {r : Nat} {pre : List Ts} (h : MapOf w r (pre.map fun y => .string y.n)) (x : Ts) (hn : nameIn pre x = false) :
    ∃ o, (Instr.mapUpdate 83 (.map (some r)) (.string x.n) (.bool true)).run Tryd.prog w = .ok () (w.putObj r o) ∧ MapOf (w.putObj r o) r ((pre ++ [x]).map fun y => .string y.n) := by
  have hlt := h.lt
  obtain ⟨es, c, h1, h2, h3⟩ := h
  have hg := getObj_map h1
  have hs := setObj_map h1
  have hf := find_strs x.n es.toList (pre.map (·.n)) 0 (by rw [h2, List.map_map]; rfl)
  have hm : x.n ∉ pre.map (·.n) := fun hm => by rw [(nameIn_mem pre x).2 hm] at hn; cases hn
  refine ⟨.map (es.push { key := .string x.n, val := .bool true, born := c }) (c + 1), by simp [Instr.mapUpdate, hg, checkKey_str, Instr.findKey, hf.2 hm, hs], _, _, World.putObj_heap_same hlt, by simp [h2], fun e he => ?_⟩
  simp at he
  rcases he with he | rfl
  · exact h3 e (by simpa using he)
  · rfl
theorem put_prio {w : World} {r : Nat} {pre : List Ts} (h : MapOf w r (pre.map fun y => .int .i64 y.p)) (x : Ts) (hn : prioIn pre x = false) :
    ∃ o, (Instr.mapUpdate 84 (.map (some r)) (.int .i64 x.p) (.bool true)).run Tryd.prog w = .ok () (w.putObj r o) ∧ MapOf (w.putObj r o) r ((pre ++ [x]).map fun y => .int .i64 y.p) := by
  have hlt := h.lt
  obtain ⟨es, c, h1, h2, h3⟩ := h
  have hg := getObj_map h1
  have hs := setObj_map h1
  have hf := fun k => find_ints x.p k es.toList (pre.map (·.p)) 0 (by rw [h2, List.map_map]; rfl)
  have hm : x.p ∉ pre.map (·.p) := fun hm => by rw [(prioIn_mem pre x).2 hm] at hn; cases hn
  refine ⟨.map (es.push { key := .int .i64 x.p, val := .bool true, born := c }) (c + 1), by simp [Instr.mapUpdate, hg, checkKey_int, Instr.findKey, (hf _).2 hm, hs], _, _, World.putObj_heap_same hlt, by simp [h2], fun e he => ?_⟩
  simp at he
  rcases he with he | rfl
  · exact h3 e (by simpa using he)
  · rfl

/-! ### The closures -/
def dupE (b : Bool) : Int := if b then 13 else 0
theorem twice_any (b : Bool) (w : World) : Calls Tryd.prog 51 #[.bool b] w fun e w' => e = .returned (.int .i64 (dupE b)) ∧ w = w' := by
  cases b
  · show Calls Tryd.prog 51 #[.bool false] w fun e w' => e = .returned (.int .i64 0) ∧ w = w'
    go_enter Tryd.func51, Tryd.ntmps51
    go_wp2
    go_ret
    exact ⟨rfl, rfl⟩
  · show Calls Tryd.prog 51 #[.bool true] w fun e w' => e = .returned (.int .i64 13) ∧ w = w'
    go_enter Tryd.func51, Tryd.ntmps51
    go_wp2
    go_ret
    exact ⟨rfl, rfl⟩
set_option maxRecDepth 100000 in
set_option maxHeartbeats 1000000 in
theorem close1_any (b r : Nat) (pre : List Ts) (x : Ts) (w : World) (hc : w.cell? ⟨b, 0, none⟩ = some (.map (some r))) (hm : MapOf w r (pre.map fun y => .string y.n)) :
    Calls Tryd.prog 50 #[tsV x, .pointer (some ⟨b, 0, none⟩)] w fun e w' => e = .returned (.int .i64 (dupE (nameIn pre x))) ∧ Below w.heap.size w w' := by
  have b0 : Below w.heap.size w (w.alloc (.cells #[.string x.n, .int .i64 x.c, .int .i64 x.t, .int .i64 x.d, .int .i64 x.j, .int .i64 x.q, .int .i64 x.p] 43)) := (Below.refl _ _).alloc (Nat.le_refl _) _
  have hbl := World.block_lt_of_cell? w _ hc
  have hlk := look_name (hm.later b0) x
  have T := Lib.hid twice_any
  generalize nameIn pre x = u at *
  go_enter Tryd.func50, Tryd.ntmps50
  go_wp2_with (go_at_call 51; (with_reducible refine (T.out _ _).mono ?_); rintro e w' ⟨rfl, rfl⟩)
  go_ret
  exact ⟨rfl, b0⟩
set_option maxRecDepth 100000 in
set_option maxHeartbeats 1000000 in
theorem close2_any (b r : Nat) (pre : List Ts) (x : Ts) (w : World) (hc : w.cell? ⟨b, 0, none⟩ = some (.map (some r))) (hm : MapOf w r (pre.map fun y => .int .i64 y.p)) :
    Calls Tryd.prog 52 #[tsV x, .pointer (some ⟨b, 0, none⟩)] w fun e w' => e = .returned (.int .i64 (dupE (prioIn pre x))) ∧ Below w.heap.size w w' := by
  have b0 : Below w.heap.size w (w.alloc (.cells #[.string x.n, .int .i64 x.c, .int .i64 x.t, .int .i64 x.d, .int .i64 x.j, .int .i64 x.q, .int .i64 x.p] 43)) := (Below.refl _ _).alloc (Nat.le_refl _) _
  have hbl := World.block_lt_of_cell? w _ hc
  have hlk := look_prio (hm.later b0) x
  have T := Lib.hid twice_any
  generalize prioIn pre x = u at *
  go_enter Tryd.func52, Tryd.ntmps52
  go_wp2_with (go_at_call 51; (with_reducible refine (T.out _ _).mono ?_); rintro e w' ⟨rfl, rfl⟩)
  go_ret
  exact ⟨rfl, b0⟩
end Go.Proofs.YtepdaghbplfhdaaDoor
/- CheckAll: the walk. -/
namespace Go.Proofs.YtepdaghbplfhdaaDoor
open Go.RowKit
set_option linter.unusedVariables false
set_option linter.unusedSimpArgs false

theorem run_store_func (P : Program) (w : World) (a : Addr) (m : Mode) (f : Fn) (x y : Array Value) : (store a (.func f x y) m).run P w = stored P w a (.func f x y) m := run_store P w a _ m rfl
attribute [local go_sem] run_store_func
theorem checkAll_many (A : Option Addr) (cap : Nat) (l : List Ts) (w : World) (h : l.length = 0 ∨ 1024 < l.length) (hl : l.length ≤ 9223372036854775807) :
    Calls Tryd.prog 38 #[.slice A l.length cap] w fun e w' => e = .returned (.tuple #[.int .i64 0, .int .i64 14]) ∧ Below w.heap.size w w' := by
  generalize l.length = n at *
  by_cases h0 : n = 0
  · subst h0
    go_enter Tryd.func38, Tryd.ntmps38
    go_wp2
    go_step3
    go_wp2
    rw [Exit.noGoto_ret]
    go_ret2
    exact ⟨rfl, Below.refl _ _⟩
  · have t0 : ((n : Int) == 0) = false := by rw [beq_eq_false_iff_ne]; omega
    have t1 : decide ((n : Int) > 1024) = true := decide_eq_true (by omega)
    have t2 : 1024 < (n : Int) := by omega
    go_enter Tryd.func38, Tryd.ntmps38
    go_wp2
    go_step3
    go_wp2
    rw [Exit.noGoto_ret]
    go_ret2
    exact ⟨rfl, Below.refl _ _⟩

/-- What the walk holds of memory, at each task: N is how much there was. -/
structure CA (N : Nat) (w0 w : World) (pre : List Ts) : Prop where
  c4 : w.cell? ⟨N + 1 + 1, 0, none⟩ = some (.map (some N))
  c5 : w.cell? ⟨N + 1 + 1 + 1, 0, none⟩ = some (.map (some (N + 1)))
  l0 : w.cell? ⟨N + 1 + 1 + 1 + 1, 0, none⟩ = some (.func (.func 49) #[] #[])
  l1 : w.cell? ⟨N + 1 + 1 + 1 + 1, 1, none⟩ = some (.func (.func 50) #[] #[.pointer (some ⟨N + 1 + 1, 0, none⟩)])
  l2 : w.cell? ⟨N + 1 + 1 + 1 + 1, 2, none⟩ = some (.func (.func 52) #[] #[.pointer (some ⟨N + 1 + 1 + 1, 0, none⟩)])
  m1 : MapOf w N (pre.map fun y => .string y.n)
  m2 : MapOf w (N + 1) (pre.map fun y => .int .i64 y.p)
  hB : Below N w0 w
  hs : N + 1 + 1 + 1 + 1 < w.heap.size
theorem CA.later {N : Nat} {w0 w w' : World} {pre : List Ts} (h : CA N w0 w pre) (hb : Below w.heap.size w w') : CA N w0 w' pre := by
  have hs := h.hs
  have hz := hb.size
  exact ⟨(hb.cell (p := ⟨N + 1 + 1, 0, none⟩) (by simp only; omega)).trans h.c4, (hb.cell (p := ⟨N + 1 + 1 + 1, 0, none⟩) (by simp only; omega)).trans h.c5,
    (hb.cell (p := ⟨N + 1 + 1 + 1 + 1, 0, none⟩) (by simp only; omega)).trans h.l0, (hb.cell (p := ⟨N + 1 + 1 + 1 + 1, 1, none⟩) (by simp only; omega)).trans h.l1, (hb.cell (p := ⟨N + 1 + 1 + 1 + 1, 2, none⟩) (by simp only; omega)).trans h.l2,
    h.m1.later hb, h.m2.later hb, h.hB.trans (hb.mono (by omega)), by omega⟩
theorem CA.start (w : World) : ∃ W, ((((w.alloc (.map #[] 0)).alloc (.map #[] 0)).alloc (.cells #[.map (some w.heap.size)] 83)).alloc (.cells #[.map (some (w.heap.size + 1))] 84)).alloc
    (.cells #[.func (.func 49) #[] #[], .func (.func 50) #[] #[.pointer (some ⟨w.heap.size + 1 + 1, 0, none⟩)], .func (.func 52) #[] #[.pointer (some ⟨w.heap.size + 1 + 1 + 1, 0, none⟩)]] 87) = W ∧ CA w.heap.size w W [] := by
  have b1 := (Below.refl w.heap.size w).alloc (Nat.le_refl _) (.map #[] 0)
  have hh : ∀ (W : World) (o : Obj) (k : Nat), k < W.heap.size → (W.alloc o).heap[k]? = W.heap[k]? := fun W o k hk => Below.heap_alloc W o k hk
  refine ⟨_, rfl, ?_, ?_, ?_, ?_, ?_, ⟨#[], 0, ?_, rfl, by simp⟩, ⟨#[], 0, ?_, rfl, by simp⟩, ?_, by simp⟩
  · rw [World.cell?_alloc_lt _ _ _ (by simp), World.cell?_alloc_lt _ _ _ (by simp)]
    have := cell_of_row _ _ 0 _ _ _ (heap_alloc_new ((w.alloc (.map #[] 0)).alloc (.map #[] 0)) (.cells #[.map (some w.heap.size)] 83))
    simp only [World.size_alloc] at this
    exact this
  · rw [World.cell?_alloc_lt _ _ _ (by simp)]
    have := cell_of_row _ _ 0 _ _ _ (heap_alloc_new (((w.alloc (.map #[] 0)).alloc (.map #[] 0)).alloc (.cells #[.map (some w.heap.size)] 83)) (.cells #[.map (some (w.heap.size + 1))] 84))
    simp only [World.size_alloc] at this
    exact this
  · have := cell_of_row _ _ 0 _ _ _ (heap_alloc_new ((((w.alloc (.map #[] 0)).alloc (.map #[] 0)).alloc (.cells #[.map (some w.heap.size)] 83)).alloc (.cells #[.map (some (w.heap.size + 1))] 84)) (.cells #[.func (.func 49) #[] #[], .func (.func 50) #[] #[.pointer (some ⟨w.heap.size + 1 + 1, 0, none⟩)], .func (.func 52) #[] #[.pointer (some ⟨w.heap.size + 1 + 1 + 1, 0, none⟩)]] 87))
    simp only [World.size_alloc] at this
    exact this
  · have := cell_of_row _ _ 1 _ _ _ (heap_alloc_new ((((w.alloc (.map #[] 0)).alloc (.map #[] 0)).alloc (.cells #[.map (some w.heap.size)] 83)).alloc (.cells #[.map (some (w.heap.size + 1))] 84)) (.cells #[.func (.func 49) #[] #[], .func (.func 50) #[] #[.pointer (some ⟨w.heap.size + 1 + 1, 0, none⟩)], .func (.func 52) #[] #[.pointer (some ⟨w.heap.size + 1 + 1 + 1, 0, none⟩)]] 87))
    simp only [World.size_alloc] at this
    exact this
  · have := cell_of_row _ _ 2 _ _ _ (heap_alloc_new ((((w.alloc (.map #[] 0)).alloc (.map #[] 0)).alloc (.cells #[.map (some w.heap.size)] 83)).alloc (.cells #[.map (some (w.heap.size + 1))] 84)) (.cells #[.func (.func 49) #[] #[], .func (.func 50) #[] #[.pointer (some ⟨w.heap.size + 1 + 1, 0, none⟩)], .func (.func 52) #[] #[.pointer (some ⟨w.heap.size + 1 + 1 + 1, 0, none⟩)]] 87))
    simp only [World.size_alloc] at this
    exact this
  · rw [hh _ _ _ (by first | (simp; done) | (simp; omega)), hh _ _ _ (by first | (simp; done) | (simp; omega)), hh _ _ _ (by first | (simp; done) | (simp; omega)), hh _ _ _ (by simp)]
    exact heap_alloc_new w _
  · rw [hh _ _ _ (by first | (simp; done) | (simp; omega)), hh _ _ _ (by first | (simp; done) | (simp; omega)), hh _ _ _ (by simp)]
    have := heap_alloc_new (w.alloc (.map #[] 0)) (.map #[] 0)
    rwa [World.size_alloc] at this
  · exact ((((b1.alloc (by simp) _).alloc (by first | (simp; done) | (simp; omega)) _).alloc (by first | (simp; done) | (simp; omega)) _).alloc (by first | (simp; done) | (simp; omega)) _)
theorem MapOf.put_other {w : World} {r r' : Nat} {keys : List Value} (h : MapOf w r keys) (o : Obj) (hne : r ≠ r') : MapOf (w.putObj r' o) r keys := by
  obtain ⟨es, c, h1, h2⟩ := h
  exact ⟨es, c, (World.putObj_heap_other hne).trans h1, h2⟩
theorem cell_put {w : World} {r b i : Nat} (o : Obj) (hne : b ≠ r) : (w.putObj r o).cell? ⟨b, i, none⟩ = w.cell? ⟨b, i, none⟩ := by
  unfold World.cell?
  simp only [World.putObj_heap_other (o := o) hne]
theorem below_put {B : Nat} {w0 w : World} {r : Nat} (h : Below B w0 w) (o : Obj) (hB : B ≤ r) : Below B w0 (w.putObj r o) :=
  h.trans ⟨rfl, rfl, rfl, by simp, fun k hk => World.putObj_heap_other (by omega)⟩
theorem CA.put {N : Nat} {w0 w : World} {pre : List Ts} (h : CA N w0 w pre) (x : Ts) (h1 : nameIn pre x = false) (h2 : prioIn pre x = false) :
    ∃ o1 o2, (Instr.mapUpdate 83 (.map (some N)) (.string x.n) (.bool true)).run Tryd.prog w = .ok () (w.putObj N o1) ∧
      (Instr.mapUpdate 84 (.map (some (N + 1))) (.int .i64 x.p) (.bool true)).run Tryd.prog (w.putObj N o1) = .ok () ((w.putObj N o1).putObj (N + 1) o2) ∧
      CA N w0 ((w.putObj N o1).putObj (N + 1) o2) (pre ++ [x]) := by
  obtain ⟨o1, p1, m1⟩ := put_name h.m1 x h1
  obtain ⟨o2, p2, m2⟩ := put_prio (h.m2.put_other (r' := N) o1 (by omega)) x h2
  refine ⟨o1, o2, p1, p2, ?_, ?_, ?_, ?_, ?_, m1.put_other (r' := N + 1) o2 (by omega), m2, below_put (below_put h.hB o1 (Nat.le_refl _)) o2 (by omega), by simp; exact h.hs⟩
  · rw [cell_put _ (by omega), cell_put _ (by omega)]; exact h.c4
  · rw [cell_put _ (by omega), cell_put _ (by omega)]; exact h.c5
  · rw [cell_put _ (by omega), cell_put _ (by omega)]; exact h.l0
  · rw [cell_put _ (by omega), cell_put _ (by omega)]; exact h.l1
  · rw [cell_put _ (by omega), cell_put _ (by omega)]; exact h.l2
/-- A task that lies at the beginning of a block. -/
theorem TAt.z {w : World} {b : Nat} {x : Ts} (h : TAt w b 0 x) : w.cell? ⟨b, 0, none⟩ = some (.string x.n) ∧ w.cell? ⟨b, 1, none⟩ = some (.int .i64 x.c) ∧ w.cell? ⟨b, 2, none⟩ = some (.int .i64 x.t) ∧ w.cell? ⟨b, 3, none⟩ = some (.int .i64 x.d) ∧ w.cell? ⟨b, 4, none⟩ = some (.int .i64 x.j) ∧ w.cell? ⟨b, 5, none⟩ = some (.int .i64 x.q) ∧ w.cell? ⟨b, 6, none⟩ = some (.int .i64 x.p) :=
  ⟨h.c0, h.c1, h.c2, h.c3, h.c4, h.c5, h.c6⟩
set_option maxRecDepth 100000 in
theorem three_idx (g0 g1 g2 : Fn) (a0 b0 a1 b1 a2 b2 : Array Value) (w : World) :
    (Instr.index 87 (.agg #[.func g0 a0 b0, .func g1 a1 b1, .func g2 a2 b2]) (.int .i64 0)).run Tryd.prog w = .ok (.func g0 a0 b0) w ∧
    (Instr.index 87 (.agg #[.func g0 a0 b0, .func g1 a1 b1, .func g2 a2 b2]) (.int .i64 1)).run Tryd.prog w = .ok (.func g1 a1 b1) w ∧
    (Instr.index 87 (.agg #[.func g0 a0 b0, .func g1 a1 b1, .func g2 a2 b2]) (.int .i64 2)).run Tryd.prog w = .ok (.func g2 a2 b2) w := by
  refine ⟨?_, ?_, ?_⟩ <;> rfl

set_option maxRecDepth 100000 in
set_option maxHeartbeats 8000000 in
theorem checkAll_few (A : Option Addr) (cap : Nat) (l : List Ts) (w : World) (hR : Row w A cap l) (h0 : l.length ≠ 0) (h1 : l.length ≤ 1024) :
    Calls Tryd.prog 38 #[.slice A l.length cap] w fun e w' => e = .returned (.tuple #[.int .i64 ((chkAll l).1 : Int), .int .i64 (chkAll l).2]) ∧ Below w.heap.size w w' := by
  have t0 : ((l.length : Int) == 0) = false := by rw [beq_eq_false_iff_ne]; omega
  have t1 : decide ((l.length : Int) > 1024) = false := decide_eq_false (by omega)
  have t2 : decide (1024 < l.length) = false := decide_eq_false (by omega)
  have hle := hR.le
  have hmx := hR.mx
  have HS := Lib.hid (chk_start h0 h1)
  have ROW := Lib.hid hR
  obtain ⟨a, e, he⟩ : ∃ a e, chkAll l = (a, e) := ⟨_, _, rfl⟩
  rw [he]
  have HE := Lib.hid he
  obtain ⟨W0, hW0, C0⟩ := CA.start w
  have HW0 := Lib.hid hW0
  have hmm := @run_makeMap Tryd.prog
  clear hR he hW0 h0
  go_enter Tryd.func38, Tryd.ntmps38
  go_wp2
  go_step3
  go_wp2
  go_step3
  go_wp2
  rw [HW0.out]
  clear hmm t0 t1 t2 HW0
  generalize hN : w.heap.size = N at *
  have HN := Lib.hid hN
  clear hN
  go_loopg [7, 8, 30] l.length (fun g s7 s8 i wr => ∃ k : Nat, k ≤ l.length ∧ l.length - k ≤ g ∧ i = .int .i64 k ∧ s7 = .int .i64 l.length ∧ s8 = .int .i64 0 ∧ CA N w wr (l.take k) ∧ Hid (chkAll l = chkFrom (l.take k) (l.drop k)))
  case atStart => exact ⟨0, Nat.zero_le _, by omega, rfl, rfl, rfl, C0, HS⟩
  case round =>
    obtain ⟨k, hk, hg, rfl, rfl, rfl, hC, hq⟩ := hrel
    by_cases hlt : k < l.length
    · obtain ⟨b, o, x, rfl, hx, hw, hbl, hT⟩ := ROW.out.get hlt
      have hTr := hT.below hC.hB (by rw [HN.out] at hbl; exact hbl)
      have c0 := hTr.c0
      have c1 := hTr.c1
      have c2 := hTr.c2
      have c3 := hTr.c3
      have c4 := hTr.c4
      have c5 := hTr.c5
      have c6 := hTr.c6
      have hi0 : (0 : Int) ≤ (k : Int) := by omega
      have hi1 : (k : Int) < (l.length : Int) := by omega
      have HX := Lib.hid hx
      have HC := Lib.hid hC
      clear hT hTr hx hw hC
      go_upto_region 9 with (fail)
      obtain ⟨W1, hW1, C1, T1⟩ : ∃ W1, wr.alloc (.cells #[.string x.n, .int .i64 x.c, .int .i64 x.t, .int .i64 x.d, .int .i64 x.j, .int .i64 x.q, .int .i64 x.p] 43) = W1 ∧ CA N w W1 (l.take k) ∧ TAt W1 wr.heap.size 0 x :=
        ⟨_, rfl, HC.out.later ((Below.refl _ _).alloc (Nat.le_refl _) _), TAt.new wr x⟩
      rw [hW1]
      have u0 := C1.l0
      have u1 := C1.l1
      have u2 := C1.l2
      obtain ⟨z0, z1, z2, z3, z4, z5, z6⟩ := T1.z
      have CA1 := Lib.hid C1
      have T1 := Lib.hid T1
      clear hW1 C1 c0 c1 c2 c3 c4 c5 c6
      have hbx : N < wr.heap.size := by have := HC.out.hs; omega
      generalize wr.heap.size = bx at *
      have K0 := Lib.hid (fun W => check_any x W)
      have I3 := fun W => three_idx (.func 49) (.func 50) (.func 52) #[] #[] #[] #[.pointer (some ⟨N + 1 + 1, 0, none⟩)] #[] #[.pointer (some ⟨N + 1 + 1 + 1, 0, none⟩)] W
      have i30 := fun W => (I3 W).1
      have i31 := fun W => (I3 W).2.1
      have i32 := fun W => (I3 W).2.2
      clear I3
      by_cases he0 : checkE x = 0
      · cases hn1 : nameIn (l.take k) x
        · cases hn2 : prioIn (l.take k) x
          · have HQ := Lib.hid (chk_next hq.out HX.out he0 hn1 hn2)
            rw [he0] at K0
            have hk1 : Hid (nameIn (l.take k) x = false) := Lib.hid hn1
            have hk2 : Hid (prioIn (l.take k) x = false) := Lib.hid hn2
            clear he0 hn1 hn2 hq
            go_wp2
            refine wp_loop_rounds 4 ?_
            rw [rounds_succ]
            go_wp2_with (go_at_call 49; (with_reducible refine (K0.out _).mono ?_); rintro e2 w2 ⟨rfl, h2⟩; have CA2 := CA1.out.later h2; have T2 := T1.out.later h2; obtain ⟨d0, d1, d2, d3, d4, d5, d6⟩ := T2.z; have K1 := Lib.hid (close1_any _ _ (l.take k) x w2 CA2.c4 CA2.m1); have HC2 := Lib.hid CA2; have HT2 := Lib.hid T2; clear CA2 T2 h2)
            rw [hk1.out] at K1
            have K1 : Hid (Calls Tryd.prog 50 #[tsV x, .pointer (some ⟨N + 1 + 1, 0, none⟩)] w2 fun e w' => e = .returned (.int .i64 0) ∧ Below w2.heap.size w2 w') := K1
            clear z0 z1 z2 z3 z4 z5 z6 u0 u1 u2
            rw [rounds_succ]
            go_wp2_with (go_at_call 50; (with_reducible refine K1.out.mono ?_); rintro e3 w3 ⟨rfl, h3⟩; have CA3 := HC2.out.later h3; have T3 := HT2.out.later h3; obtain ⟨f0, f1, f2, f3, f4, f5, f6⟩ := T3.z; have K2 := Lib.hid (close2_any _ _ (l.take k) x w3 CA3.c5 CA3.m2); have HC3 := Lib.hid CA3; have HT3 := Lib.hid T3; clear CA3 T3 h3)
            rw [hk2.out] at K2
            have K2 : Hid (Calls Tryd.prog 52 #[tsV x, .pointer (some ⟨N + 1 + 1 + 1, 0, none⟩)] w3 fun e w' => e = .returned (.int .i64 0) ∧ Below w3.heap.size w3 w') := K2
            clear d0 d1 d2 d3 d4 d5 d6
            rw [rounds_succ]
            go_wp2_with (go_at_call 52; (with_reducible refine K2.out.mono ?_); rintro e4 w4 ⟨rfl, h4⟩; have CA4 := HC3.out.later h4; have T4 := HT3.out.later h4; have HC4 := Lib.hid CA4; have HT4 := Lib.hid T4; clear CA4 T4 h4)
            rw [rounds_succ]
            go_wp2
            obtain ⟨o1, o2, p1, p2, CF⟩ := (HC4.out.later (below_drew w4)).put x hk1.out hk2.out
            have q4 := HC4.out.c4
            have q5 := HC4.out.c5
            obtain ⟨y0, y1, y2, y3, y4, y5, y6⟩ := HT4.out.z
            have HCF := Lib.hid CF
            have v4 : (w4.drew.putObj N o1).cell? ⟨N + 1 + 1, 0, none⟩ = _ := (cell_put o1 (by omega)).trans q4
            have v5 : (w4.drew.putObj N o1).cell? ⟨N + 1 + 1 + 1, 0, none⟩ = _ := (cell_put o1 (by omega)).trans q5
            have v0 : (w4.drew.putObj N o1).cell? ⟨bx, 0, none⟩ = _ := (cell_put o1 (by omega)).trans y0
            have v6 : (w4.drew.putObj N o1).cell? ⟨bx, 6, none⟩ = _ := (cell_put o1 (by omega)).trans y6
            clear CF f0 f1 f2 f3 f4 f5 f6 i30 i31 i32
            go_region
            all_goals
              go_wp2
              go_roundg (l.length - (k + 1))
              case measure => omega
              case rel => exact ⟨k + 1, by omega, by omega, by go_num, rfl, rfl, by rw [take_ts HX.out]; exact HCF.out, HQ⟩
          · have HQ := Lib.hid ((HE.out.symm.trans (chk_dup hq.out HX.out he0 (by rw [hn2]; simp))))
            rw [he0] at K0
            have hk1 : Hid (nameIn (l.take k) x = false) := Lib.hid hn1
            have hk2 : Hid (prioIn (l.take k) x = true) := Lib.hid hn2
            clear he0 hn1 hn2 hq
            go_wp2
            refine wp_loop_rounds 4 ?_
            rw [rounds_succ]
            go_wp2_with (go_at_call 49; (with_reducible refine (K0.out _).mono ?_); rintro e2 w2 ⟨rfl, h2⟩; have CA2 := CA1.out.later h2; have T2 := T1.out.later h2; obtain ⟨d0, d1, d2, d3, d4, d5, d6⟩ := T2.z; have K1 := Lib.hid (close1_any _ _ (l.take k) x w2 CA2.c4 CA2.m1); have HC2 := Lib.hid CA2; have HT2 := Lib.hid T2; clear CA2 T2 h2)
            rw [hk1.out] at K1
            have K1 : Hid (Calls Tryd.prog 50 #[tsV x, .pointer (some ⟨N + 1 + 1, 0, none⟩)] w2 fun e w' => e = .returned (.int .i64 0) ∧ Below w2.heap.size w2 w') := K1
            clear z0 z1 z2 z3 z4 z5 z6 u0 u1 u2
            rw [rounds_succ]
            go_wp2_with (go_at_call 50; (with_reducible refine K1.out.mono ?_); rintro e3 w3 ⟨rfl, h3⟩; have CA3 := HC2.out.later h3; have T3 := HT2.out.later h3; obtain ⟨f0, f1, f2, f3, f4, f5, f6⟩ := T3.z; have K2 := Lib.hid (close2_any _ _ (l.take k) x w3 CA3.c5 CA3.m2); have HC3 := Lib.hid CA3; have HT3 := Lib.hid T3; clear CA3 T3 h3)
            rw [hk2.out] at K2
            have K2 : Hid (Calls Tryd.prog 52 #[tsV x, .pointer (some ⟨N + 1 + 1 + 1, 0, none⟩)] w3 fun e w' => e = .returned (.int .i64 13) ∧ Below w3.heap.size w3 w') := K2
            clear d0 d1 d2 d3 d4 d5 d6
            rw [rounds_succ]
            go_wp2_with (go_at_call 52; (with_reducible refine K2.out.mono ?_); rintro e4 w4 ⟨rfl, h4⟩; have CA4 := HC3.out.later h4; have T4 := HT3.out.later h4; have HC4 := Lib.hid CA4; have HT4 := Lib.hid T4; clear CA4 T4 h4)
            rw [Exit.noGoto_ret]
            go_ret2
            exact ⟨by obtain ⟨rfl, rfl⟩ := Prod.mk.inj HQ.out; rfl, by rw [HN.out]; exact HC4.out.hB⟩
        · have HQ := Lib.hid ((HE.out.symm.trans (chk_dup hq.out HX.out he0 (by rw [hn1]; simp))))
          rw [he0] at K0
          have hk1 : Hid (nameIn (l.take k) x = true) := Lib.hid hn1
          clear he0 hn1 hq
          go_wp2
          refine wp_loop_rounds 4 ?_
          rw [rounds_succ]
          go_wp2_with (go_at_call 49; (with_reducible refine (K0.out _).mono ?_); rintro e2 w2 ⟨rfl, h2⟩; have CA2 := CA1.out.later h2; have T2 := T1.out.later h2; obtain ⟨d0, d1, d2, d3, d4, d5, d6⟩ := T2.z; have K1 := Lib.hid (close1_any _ _ (l.take k) x w2 CA2.c4 CA2.m1); have HC2 := Lib.hid CA2; have HT2 := Lib.hid T2; clear CA2 T2 h2)
          rw [hk1.out] at K1
          have K1 : Hid (Calls Tryd.prog 50 #[tsV x, .pointer (some ⟨N + 1 + 1, 0, none⟩)] w2 fun e w' => e = .returned (.int .i64 13) ∧ Below w2.heap.size w2 w') := K1
          clear z0 z1 z2 z3 z4 z5 z6 u0 u1 u2
          rw [rounds_succ]
          go_wp2_with (go_at_call 50; (with_reducible refine K1.out.mono ?_); rintro e3 w3 ⟨rfl, h3⟩; have CA3 := HC2.out.later h3; have T3 := HT2.out.later h3; obtain ⟨f0, f1, f2, f3, f4, f5, f6⟩ := T3.z; have K2 := Lib.hid (close2_any _ _ (l.take k) x w3 CA3.c5 CA3.m2); have HC3 := Lib.hid CA3; have HT3 := Lib.hid T3; clear CA3 T3 h3)
          rw [Exit.noGoto_ret]
          go_ret2
          exact ⟨by obtain ⟨rfl, rfl⟩ := Prod.mk.inj HQ.out; rfl, by rw [HN.out]; exact HC3.out.hB⟩
      · have HQ := Lib.hid ((HE.out.symm.trans (chk_bad hq.out HX.out he0)))
        have t5 : (checkE x != 0) = true := by simpa using he0
        generalize checkE x = ce at *
        clear he0 hq
        go_wp2
        refine wp_loop_rounds 4 ?_
        rw [rounds_succ]
        go_wp2_with (go_at_call 49; (with_reducible refine (K0.out _).mono ?_); rintro e2 w2 ⟨rfl, h2⟩; have CA2 := CA1.out.later h2; have T2 := T1.out.later h2; obtain ⟨d0, d1, d2, d3, d4, d5, d6⟩ := T2.z; have K1 := Lib.hid (close1_any _ _ (l.take k) x w2 CA2.c4 CA2.m1); have HC2 := Lib.hid CA2; have HT2 := Lib.hid T2; clear CA2 T2 h2)
        rw [Exit.noGoto_ret]
        go_ret2
        exact ⟨by obtain ⟨rfl, rfl⟩ := Prod.mk.inj HQ.out; rfl, by rw [HN.out]; exact HC2.out.hB⟩
    · obtain rfl : k = l.length := by omega
      have HQ := Lib.hid (HE.out.symm.trans (chk_end hq.out))
      have HC := Lib.hid hC
      clear hq hC
      go_wp2
      rw [Exit.noGoto_ret]
      go_ret2
      exact ⟨by obtain ⟨rfl, rfl⟩ := Prod.mk.inj HQ.out; rfl, by rw [HN.out]; exact HC.out.hB⟩
end Go.Proofs.YtepdaghbplfhdaaDoor
/- The document's own CheckAll. -/
namespace Go.Proofs.YtepdaghbplfhdaaDoor
open Go.RowKit
set_option linter.unusedVariables false
set_option linter.unusedSimpArgs false

/-- A block that holds a place and an error. -/
structure GB (w : World) (b : Nat) (a e : Int) : Prop where
  is : w.heap[b]? = some (.cells #[.int .i64 a, .int .i64 e] 81 (0, 0))
theorem GB.lt {W : World} {b : Nat} {a e : Int} (h : GB W b a e) : b < W.heap.size := (Array.getElem?_eq_some_iff.1 h.is).1
theorem GB.c0 {W : World} {b : Nat} {a e : Int} (h : GB W b a e) : W.cell? ⟨b, 0, none⟩ = some (.int .i64 a) := by rw [cell_of_row W b 0 _ _ _ h.is]; rfl
theorem GB.c1 {W : World} {b : Nat} {a e : Int} (h : GB W b a e) : W.cell? ⟨b, 1, none⟩ = some (.int .i64 e) := by rw [cell_of_row W b 1 _ _ _ h.is]; rfl
theorem GB.frozen {W : World} {b : Nat} {a e : Int} (h : GB W b a e) (i : Nat) : W.frozen? ⟨b, i, none⟩ = false := frozen_of_row W b i _ _ h.is
theorem GB.later {W W' : World} {b : Nat} {a e : Int} (h : GB W b a e) (hb : Below W.heap.size W W') : GB W' b a e := ⟨(hb.block b h.lt).trans h.is⟩
theorem GB.set0 {W : World} {b : Nat} {a e : Int} (h : GB W b a e) (a' : Int) : GB (W.setCell ⟨b, 0, none⟩ (.int .i64 a')) b a' e := ⟨heap_setCell_same _ b 0 _ _ (.int .i64 a') h.is⟩
theorem GB.set1 {W : World} {b : Nat} {a e : Int} (h : GB W b a e) (e' : Int) : GB (W.setCell ⟨b, 1, none⟩ (.int .i64 e')) b a e' := ⟨heap_setCell_same _ b 1 _ _ (.int .i64 e') h.is⟩
theorem GB.new (w : World) (a e : Int) : GB (w.alloc (.cells #[.int .i64 a, .int .i64 e] 81)) w.heap.size a e := ⟨heap_alloc_new w _⟩
theorem infoG : (Tryd.prog.info? 81).map (·.size) = some 2 := by kernel_rfl
theorem results_got {fn : Func} {p : Tmp} (h : fn.results = #[.cell p 81]) (tmps : Array Value) (w : World) (b : Nat) (a e : Int) (hp : tmps.getD p undef = .pointer (some ⟨b, 0, none⟩)) (hb : GB w b a e) :
    (results fn tmps).run Tryd.prog w = .ok (.agg #[.int .i64 a, .int .i64 e]) w :=
  results_cell_row h tmps w b _ _ _ _ hp hb.is Tryd.underlying81 rfl infoG

theorem nameIn_none {l : List Ts} {k : Nat} {x : Ts} (h : ∀ (i : Nat) (y : Ts), i < k → l[i]? = some y → y.n ≠ x.n) : nameIn (l.take k) x = false := by
  rw [nameIn, List.any_eq_false]
  intro y hy
  obtain ⟨i, hi, he⟩ := List.getElem_of_mem hy
  have hk : i < k := by rw [List.length_take] at hi; omega
  have hy2 : (l.take k)[i]? = some y := by rw [List.getElem?_eq_getElem hi, he]
  rw [List.getElem?_take_of_lt hk] at hy2
  simpa using h i y hk hy2
theorem prioIn_none {l : List Ts} {k : Nat} {x : Ts} (h : ∀ (i : Nat) (y : Ts), i < k → l[i]? = some y → y.p ≠ x.p) : prioIn (l.take k) x = false := by
  rw [prioIn, List.any_eq_false]
  intro y hy
  obtain ⟨i, hi, he⟩ := List.getElem_of_mem hy
  have hk : i < k := by rw [List.length_take] at hi; omega
  have hy2 : (l.take k)[i]? = some y := by rw [List.getElem?_eq_getElem hi, he]
  rw [List.getElem?_take_of_lt hk] at hy2
  simpa using h i y hk hy2
theorem dup_hit {l : List Ts} {k i : Nat} {x y : Ts} (hi : i < k) (hy : l[i]? = some y) (h : y.n = x.n ∨ y.p = x.p) : (nameIn (l.take k) x || prioIn (l.take k) x) = true := by
  have hm : y ∈ l.take k := List.mem_of_getElem? (i := i) (by rw [List.getElem?_take_of_lt hi]; exact hy)
  rcases h with h | h
  · have : nameIn (l.take k) x = true := by rw [nameIn, List.any_eq_true]; exact ⟨y, hm, by simpa using h⟩
    rw [this]; rfl
  · have : prioIn (l.take k) x = true := by rw [prioIn, List.any_eq_true]; exact ⟨y, hm, by simpa using h⟩
    rw [this]; simp

set_option maxRecDepth 100000 in
set_option maxHeartbeats 8000000 in
theorem rcheckAll_any (A : Option Addr) (cap : Nat) (l : List Ts) (w : World) (hR : Row w A cap l) :
    Calls Tryd.prog 48 #[.slice A l.length cap] w fun e w' => e = .returned (.agg #[.int .i64 ((chkAll l).1 : Int), .int .i64 (chkAll l).2]) ∧ Below w.heap.size w w' := by
  have hle := hR.le
  have hmx := hR.mx
  obtain ⟨a, e, he⟩ : ∃ a e, chkAll l = (a, e) := ⟨_, _, rfl⟩
  rw [he]
  have HE := Lib.hid he
  have ROW := Lib.hid hR
  obtain ⟨W1, hW1, G1, B1⟩ : ∃ W1, w.alloc (.cells #[.int .i64 0, .int .i64 0] 81) = W1 ∧ GB W1 w.heap.size 0 0 ∧ Below w.heap.size w W1 := ⟨_, rfl, GB.new w 0 0, (Below.refl _ _).alloc (Nat.le_refl _) _⟩
  have HW1 := Lib.hid hW1
  clear hR he hW1
  have d0 := G1.c0
  have d1 := G1.c1
  have e0 := G1.frozen 0
  have e1 := G1.frozen 1
  have hfin : ∀ (a' e' : Int) (wr : World), Lt W1 wr → GB ((wr.setCell ⟨w.heap.size, 0, none⟩ (.int .i64 a')).setCell ⟨w.heap.size, 1, none⟩ (.int .i64 e')) w.heap.size a' e' ∧ Below w.heap.size w ((wr.setCell ⟨w.heap.size, 0, none⟩ (.int .i64 a')).setCell ⟨w.heap.size, 1, none⟩ (.int .i64 e')) := fun a' e' wr hL =>
    ⟨((G1.later hL).set0 a').set1 e', ((B1.trans (Below.mono hL B1.size)).setCell (p := ⟨w.heap.size, 0, none⟩) (Nat.le_refl _) _).setCell (p := ⟨w.heap.size, 1, none⟩) (Nat.le_refl _) _⟩
  have HF := Lib.hid hfin
  clear hfin
  by_cases hbad : l.length = 0 ∨ 1024 < l.length
  · obtain ⟨rfl, rfl⟩ : 0 = a ∧ (14 : Int) = e := by
      have := HE.out
      rw [chkAll, if_pos hbad] at this
      exact ⟨congrArg Prod.fst this, congrArg Prod.snd this⟩
    clear G1 B1
    by_cases h0 : l.length = 0
    · have t0 : ((l.length : Int) == 0) = true := by rw [h0]; rfl
      have H0 := Lib.hid h0
      clear h0 hbad
      go_enter Tryd.func48, Tryd.ntmps48
      go_upto_region 1 with (fail)
      rw [HW1.out]
      go_wp2
      obtain ⟨R, hB⟩ := HF.out 0 14 _ (Below.refl _ _)
      exact bodyPost_ret (v := .agg #[.int .i64 0, .int .i64 14]) (results_got rfl _ _ _ _ _ rfl R) rfl ⟨rfl, hB⟩
    · have t0 : ((l.length : Int) == 0) = false := by rw [beq_eq_false_iff_ne]; omega
      have t1 : decide ((l.length : Int) > 1024) = true := decide_eq_true (by omega)
      have t2 : 1024 < (l.length : Int) := by omega
      clear h0 hbad
      go_enter Tryd.func48, Tryd.ntmps48
      go_upto_region 1 with (fail)
      rw [HW1.out]
      go_wp2
      obtain ⟨R, hB⟩ := HF.out 0 14 _ (Below.refl _ _)
      exact bodyPost_ret (v := .agg #[.int .i64 0, .int .i64 14]) (results_got rfl _ _ _ _ _ rfl R) rfl ⟨rfl, hB⟩
  · have t0 : ((l.length : Int) == 0) = false := by rw [beq_eq_false_iff_ne]; omega
    have t1 : decide ((l.length : Int) > 1024) = false := decide_eq_false (by omega)
    have t2 : decide (1024 < l.length) = false := decide_eq_false (by omega)
    have HS := Lib.hid (chk_start (l := l) (by omega) (by omega))
    have hl : l.length ≤ 1024 := by omega
    have G1 := Lib.hid G1
    have B1 := Lib.hid B1
    clear hbad
    go_enter Tryd.func48, Tryd.ntmps48
    go_upto_region 1 with (fail)
    rw [HW1.out]
    clear HW1
    go_wp2
    go_loopw [3] (fun i wr => ∃ k : Nat, k ≤ l.length ∧ i = .int .i64 k ∧ Lt W1 wr ∧ Hid (chkAll l = chkFrom (l.take k) (l.drop k))) (fun i _ => l.length - (intOf i).toNat)
    case atStart => exact ⟨0, Nat.zero_le _, rfl, Below.refl _ _, HS⟩
    case round =>
      obtain ⟨k, hk, rfl, hL, hq⟩ := hrel
      have g0 := (G1.out.later hL).c0
      have g1 := (G1.out.later hL).c1
      have f0 := (G1.out.later hL).frozen 0
      have f1 := (G1.out.later hL).frozen 1
      clear d0 d1 e0 e1 t0 t1 t2
      have HL := Lib.hid hL
      clear hL
      by_cases hlt : k < l.length
      · obtain ⟨b, o, x, rfl, hx, hw, hbl, hT⟩ := ROW.out.get hlt
        have hTr := (hT.later B1.out).later HL.out
        have c0 := hTr.c0
        have c1 := hTr.c1
        have c2 := hTr.c2
        have c3 := hTr.c3
        have c4 := hTr.c4
        have c5 := hTr.c5
        have c6 := hTr.c6
        have hi0 : (0 : Int) ≤ (k : Int) := by omega
        have hi1 : (k : Int) < (l.length : Int) := by omega
        have HX := Lib.hid hx
        have HT := Lib.hid hTr
        have K0 := Lib.hid (fun W => rcheck_any x W hw)
        clear hT hTr hx hw
        by_cases he0 : checkE x = 0
        · rw [he0] at K0
          have HE0 := Lib.hid he0
          clear he0
          go_wp2_with (go_at_call 60; (with_reducible refine (K0.out _).mono ?_); rintro e2 w2 ⟨rfl, h2⟩; have HL2 : Hid (Lt W1 w2) := Lib.hid (lt_step _ _ HL.out h2); have HT2 := Lib.hid (HT.out.later h2); clear h2)
          clear c0 c1 c2 c3 c4 c5 c6 g0 g1 f0 f1
          go_loopw [5] (fun i wr2 => ∃ j : Nat, j ≤ k ∧ i = .int .i64 j ∧ Lt w2 wr2 ∧ Hid (∀ (i : Nat) (y : Ts), i < j → l[i]? = some y → y.n ≠ x.n ∧ y.p ≠ x.p)) (fun i _ => k - (intOf i).toNat)
          case atStart => exact ⟨0, Nat.zero_le _, rfl, Below.refl _ _, Lib.hid (fun i y h => absurd h (by omega))⟩
          case round =>
            obtain ⟨j, hj, rfl, hL2, hno⟩ := hrel
            have HL3 : Hid (Lt W1 wr) := Lib.hid (Below.trans HL2.out (Below.mono hL2 (Below.size HL2.out)))
            have hTX := HT2.out.later hL2
            have a0 := hTX.c0
            have a6 := hTX.c6
            have g0 := (G1.out.later HL3.out).c0
            have g1 := (G1.out.later HL3.out).c1
            have f0 := (G1.out.later HL3.out).frozen 0
            have f1 := (G1.out.later HL3.out).frozen 1
            have hL2' := Lib.hid hL2
            clear hTX hL2
            by_cases hjk : j < k
            · obtain ⟨y, hy⟩ : ∃ y, l[j]? = some y := ⟨l[j], List.getElem?_eq_getElem (by omega)⟩
              have hTy := ((ROW.out.at2 hy).later B1.out).later HL3.out
              have b0 := hTy.c0
              have b6 := hTy.c6
              have hj0 : (0 : Int) ≤ (j : Int) := by omega
              have hj1 : (j : Int) < (l.length : Int) := by omega
              have HY := Lib.hid hy
              clear hTy hy
              by_cases hn : y.n = x.n
              · have t1 : (y.n.toList == x.n.toList) = true := by rw [name_eq, decide_eq_true hn]
                obtain ⟨rfl, rfl⟩ := Prod.mk.inj (HE.out.symm.trans (chk_dup hq.out HX.out HE0.out (dup_hit hjk HY.out (.inl hn))))
                clear hn hq hno
                go_wp2
                go_quiet (fail)
                go_wp2
                obtain ⟨R, hB⟩ := HF.out _ 13 _ (below_drewN HL3.out _)
                exact bodyPost_ret (v := .agg #[.int .i64 _, .int .i64 13]) (results_got rfl _ _ _ _ _ rfl R) rfl ⟨rfl, hB⟩
              · have t1 : (y.n.toList == x.n.toList) = false := by rw [name_eq, decide_eq_false hn]
                have HN := Lib.hid hn
                clear hn
                by_cases hp : y.p = x.p
                · have t2 : (y.p == x.p) = true := by simpa using hp
                  obtain ⟨rfl, rfl⟩ := Prod.mk.inj (HE.out.symm.trans (chk_dup hq.out HX.out HE0.out (dup_hit hjk HY.out (.inr hp))))
                  clear hp hq hno
                  go_wp2
                  go_quiet (fail)
                  go_wp2
                  obtain ⟨R, hB⟩ := HF.out _ 13 _ (below_drewN HL3.out _)
                  exact bodyPost_ret (v := .agg #[.int .i64 _, .int .i64 13]) (results_got rfl _ _ _ _ _ rfl R) rfl ⟨rfl, hB⟩
                · have t2 : (y.p == x.p) = false := by simpa using hp
                  have HP := Lib.hid hp
                  clear hp
                  go_wp2
                  go_quiet (fail)
                  go_wp2
                  refine ⟨⟨j + 1, by omega, by go_num, below_drewN hL2'.out _, Lib.hid (fun i z hi hz => ?_)⟩, by simp [intOf]; omega⟩
                  by_cases hij : i = j
                  · subst hij
                    obtain rfl : y = z := Option.some.inj (HY.out.symm.trans hz)
                    exact ⟨HN.out, HP.out⟩
                  · exact hno.out i z (by omega) hz
            · obtain rfl : j = k := by omega
              have HQ := Lib.hid (chk_next hq.out HX.out HE0.out (nameIn_none fun i y hi hy => (hno.out i y hi hy).1) (prioIn_none fun i y hi hy => (hno.out i y hi hy).2))
              clear hq hno
              go_wp2
              go_roundw
              case rel => exact ⟨j + 1, by omega, by go_num, HL3.out, HQ⟩
              case measure => simp [intOf]; omega
        · have HQ := Lib.hid (HE.out.symm.trans (chk_bad hq.out HX.out he0))
          have t5 : (checkE x != 0) = true := by simpa using he0
          generalize checkE x = ce at *
          clear he0 hq
          go_wp2_with (go_at_call 60; (with_reducible refine (K0.out _).mono ?_); rintro e2 w2 ⟨rfl, h2⟩; have HL2 : Hid (Lt W1 w2) := Lib.hid (lt_step _ _ HL.out h2); have g0' := (G1.out.later HL2.out).c0; have g1' := (G1.out.later HL2.out).c1; have f0' := (G1.out.later HL2.out).frozen 0; have f1' := (G1.out.later HL2.out).frozen 1; clear h2)
          obtain ⟨R, hB⟩ := HF.out (k : Int) ce _ HL2.out
          exact bodyPost_ret (v := .agg #[.int .i64 (k : Int), .int .i64 ce]) (results_got rfl _ _ _ _ _ rfl R) rfl ⟨by obtain ⟨rfl, rfl⟩ := Prod.mk.inj HQ.out; rfl, hB⟩
      · obtain rfl : k = l.length := by omega
        obtain ⟨rfl, rfl⟩ := Prod.mk.inj (HE.out.symm.trans (chk_end hq.out))
        clear hq
        go_wp2
        obtain ⟨R, hB⟩ := HF.out (l.length : Int) 0 _ HL.out
        exact bodyPost_ret (v := .agg #[.int .i64 (l.length : Int), .int .i64 0]) (results_got rfl _ _ _ _ _ rfl R) rfl ⟨rfl, hB⟩
end Go.Proofs.YtepdaghbplfhdaaDoor
/- The law's checks, and its turned. -/
namespace Go.Proofs.YtepdaghbplfhdaaDoor
open Go.RowKit
set_option linter.unusedVariables false
set_option linter.unusedSimpArgs false

theorem checkAll_any (A : Option Addr) (cap : Nat) (l : List Ts) (w : World) (hR : Row w A cap l) :
    Calls Tryd.prog 38 #[.slice A l.length cap] w fun e w' => e = .returned (.tuple #[.int .i64 ((chkAll l).1 : Int), .int .i64 (chkAll l).2]) ∧ Below w.heap.size w w' := by
  by_cases h : l.length = 0 ∨ 1024 < l.length
  · have := checkAll_many A cap l w h (Nat.le_trans hR.le hR.mx)
    rw [chkAll, if_pos h]
    exact this
  · exact checkAll_few A cap l w hR (by omega) (by omega)

end Go.Proofs.YtepdaghbplfhdaaDoor
/- Rows of tasks of the call's own; one letter as a text. -/
namespace Go.Proofs.YtepdaghbplfhdaaDoor
open Go.RowKit
set_option linter.unusedVariables false
set_option linter.unusedSimpArgs false

/-! ### Cells of many tasks -/
def tsCells (ts : List Ts) : List Value := ts.flatMap tsL
theorem tsCells_snoc (ts : List Ts) (x : Ts) : tsCells (ts ++ [x]) = tsCells ts ++ tsL x := by simp [tsCells]
theorem tsCells_get (ts : List Ts) : ∀ (i : Nat) (x : Ts), ts[i]? = some x → ∀ j v, (tsL x)[j]? = some v → (tsCells ts)[i * 7 + j]? = some v := by
  induction ts with
  | nil => intro i x h; simp at h
  | cons a r ih =>
    intro i x h j v hv
    have hj : j < 7 := by
      rcases Nat.lt_or_ge j 7 with h | h
      · exact h
      · rw [List.getElem?_eq_none (by simp [tsL]; omega)] at hv; cases hv
    cases i with
    | zero =>
      simp at h; subst h
      rw [Nat.zero_mul, Nat.zero_add, tsCells, List.flatMap_cons, List.getElem?_append_left (by simp [tsL]; omega)]
      exact hv
    | succ i =>
      simp only [List.getElem?_cons_succ] at h
      have := ih i x h j v hv
      rw [tsCells, List.flatMap_cons, List.getElem?_append_right (by simp [tsL]; omega)]
      rw [show (i + 1) * 7 + j - (tsL a).length = i * 7 + j by simp [tsL]; omega]
      exact this
theorem infoTs : (Tryd.prog.info? 43).map (fun i => (i.zero, i.size, i.bytes)) = some (some (.agg #[.string { data := #[] }, .int .i64 0, .int .i64 0, .int .i64 0, .int .i64 0, .int .i64 0, .int .i64 0]), 7, 64) := by kernel_rfl
theorem seven_new (V : World) (x : Ts) : ∀ j u, (tsL x)[j]? = some u → (V.alloc (.cells #[.string x.n, .int .i64 x.c, .int .i64 x.t, .int .i64 x.d, .int .i64 x.j, .int .i64 x.q, .int .i64 x.p] 43)).cell? ((⟨V.heap.size, 0, none⟩ : Addr).add j) = some u := by
  intro j u hj
  rw [add_none, Nat.zero_add, cell_of_row _ _ j _ _ _ (heap_alloc_new V _)]
  simpa [tsL] using hj
theorem tsL_one (x : Ts) : ∀ u ∈ tsL x, u.oneCell' = true := by
  intro u hu
  simp only [tsL, List.mem_cons, List.not_mem_nil, or_false] at hu
  rcases hu with rfl | rfl | rfl | rfl | rfl | rfl | rfl <;> rfl
/-- A row of the call's own. -/
structure SetIn (B : Nat) (w : World) (v : Value) (k : Nat) (ts : List Ts) : Prop where
  len : ts.length = k
  wf : ∀ x ∈ ts, TsW x
  row : w.ownsRow B 43 7 v k (tsCells ts)
theorem SetIn.nil (B : Nat) (w : World) : SetIn B w (.slice none 0 0) 0 [] := ⟨rfl, by simp, World.ownsRow_nil _ _ _ _⟩
/-- A row that may be stored to. -/
structure OwnT (B : Nat) (w : World) (g cap : Nat) (ts : List Ts) : Prop where
  hB : B ≤ g
  lt : g < w.heap.size
  fz : ∀ i, w.frozen? ⟨g, i, none⟩ = false
  le : ts.length ≤ cap
  mx : cap ≤ 9223372036854775807
  wf : ∀ x ∈ ts, TsW x
  at_ : ∀ i x, ts[i]? = some x → TAt w g (i * 7) x
theorem SetIn.own {B : Nat} {w : World} {v : Value} {k : Nat} {ts : List Ts} (h : SetIn B w v k ts) (hk : 0 < k) : ∃ g cap, v = .slice (some ⟨g, 0, none⟩) k cap ∧ OwnT B w g cap ts := by
  have hc := fun g (hg : v.ownBlock = some g) => h.row.cells hg
  rcases h.row.2 with ⟨hv, h0⟩ | ⟨g, cap, cur, hv, hBg, hgb, hle, hmax, _, _⟩
  · omega
  · subst hv
    refine ⟨g, cap, rfl, hBg, (Array.getElem?_eq_some_iff.1 hgb).1, fun i => frozen_of_row w g i _ _ hgb, by rw [h.len]; exact hle, hmax, h.wf, fun i x hx => ⟨fun j u hu => ?_⟩⟩
    have := hc g rfl _ _ (tsCells_get ts i x hx j u hu)
    rwa [add_none, Nat.zero_add] at this
theorem OwnT.row {B : Nat} {w : World} {g cap : Nat} {ts : List Ts} (h : OwnT B w g cap ts) : Row w (some ⟨g, 0, none⟩) cap ts :=
  ⟨h.le, h.mx, h.wf, fun i x hx => ⟨g, 0, rfl, by rw [Nat.zero_add]; exact h.at_ i x hx⟩⟩
theorem OwnT.setP {B : Nat} {w : World} {g cap : Nat} {ts : List Ts} (h : OwnT B w g cap ts) {k : Nat} {x : Ts} (hx : ts[k]? = some x) (p : Int) (hp : in64 p) :
    OwnT B (w.setCell ⟨g, k * 7 + 6, none⟩ (.int .i64 p)) g cap (ts.set k { x with p := p }) := by
  have hxw := h.wf x (List.mem_of_getElem? hx)
  have hkl : k < ts.length := (List.getElem?_eq_some_iff.1 hx).1
  refine ⟨h.hB, by simp; exact h.lt, fun i => by simp [h.fz], by rw [List.length_set]; exact h.le, h.mx, fun y hy => ?_, fun i y hy => ⟨fun j u hu => ?_⟩⟩
  · rcases List.mem_or_eq_of_mem_set hy with hy | rfl
    · exact h.wf y hy
    · exact ⟨hxw.n, hxw.c, hxw.t, hxw.d, hxw.j, hxw.q, hp⟩
  · have hj : j < 7 := by
      rcases Nat.lt_or_ge j 7 with h | h
      · exact h
      · rw [List.getElem?_eq_none (by simp [tsL]; omega)] at hu; cases hu
    by_cases hik : k = i
    · subst hik
      rw [List.getElem?_set_self hkl] at hy
      obtain rfl : { x with p := p } = y := by simpa using hy
      have hc := (h.at_ k x hx).r
      by_cases hj6 : j = 6
      · subst hj6
        obtain rfl : Value.int .i64 p = u := by simpa [tsL] using hu
        exact World.cell?_setCell_same _ _ _ (h.at_ k x hx).c6
      · rw [World.cell?_setCell_other _ _ _ _ (by intro e; have := congrArg Addr.off e; simp only at this; omega)]
        refine hc j u ?_
        rw [← hu]
        rcases (by omega : j = 0 ∨ j = 1 ∨ j = 2 ∨ j = 3 ∨ j = 4 ∨ j = 5) with rfl | rfl | rfl | rfl | rfl | rfl <;> rfl
    · rw [List.getElem?_set_ne hik] at hy
      rw [World.cell?_setCell_other _ _ _ _ (by intro e; have := congrArg Addr.off e; simp only at this; omega)]
      exact (h.at_ i y hy).r j u hu
theorem setCell_own {B : Nat} {w w' : World} {g i : Nat} (h : Below B w w') (hB : B ≤ g) (u : Value) : Below B w (w'.setCell ⟨g, i, none⟩ u) := h.setCell (p := ⟨g, i, none⟩) hB u

/-! ### One letter as a text -/
def chr (n : Int) : ByteArray := bs [UInt8.ofNat n.toNat]
theorem conv_n (W : World) (n : Int) (h0 : 0 ≤ n) (h1 : n < 256) : (convert 51 9 (.slice (some ⟨W.heap.size, 0, none⟩) 1 1)).run Tryd.prog (W.alloc (.cells #[.int .u8 n] 5)) = .ok (.string (chr n)) (W.alloc (.cells #[.int .u8 n] 5)) := by
  rw [run_convert_bytes_string _ 51 9 5 _ _ _ Tryd.underlying51 Tryd.underlying5 Tryd.underlying9]
  rw [run_bytesToString (ns := [n])]
  · rfl
  · go_simp
theorem chr_size (n : Int) : (chr n).size = 1 := by rw [chr, bs_size]; rfl

end Go.Proofs.YtepdaghbplfhdaaDoor
