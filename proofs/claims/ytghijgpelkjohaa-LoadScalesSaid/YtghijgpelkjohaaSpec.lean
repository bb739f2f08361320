/- Plain numbers of tasks in memory; what came in, read. -/
import Derived.Test.YtghijgpelkjohaaRow
import Derived.Below
import Derived.ChangeOld
import Derived.ProofKit
import Derived.OpenShut
import Derived.LaidMore
namespace Go.Proofs.Ytghijgpelkjohaa
open Go.RowKit
set_option linter.unusedVariables false
set_option linter.unusedSimpArgs false

/-- A task by plain numbers. -/
structure Sp where
  c : Int
  d : Int
  j : Int
  q : Int
  t : Int
structure SpW (x : Sp) : Prop where
  c : in64 x.c
  d : in64 x.d
  j : in64 x.j
  q : in64 x.q
  t : in64 x.t
def spL (x : Sp) : List Value := [.int .i64 x.c, .int .i64 x.d, .int .i64 x.j, .int .i64 x.q, .int .i64 x.t]
structure SAt (w : World) (b o : Nat) (x : Sp) : Prop where
  r : w.rangeAt b o (spL x)
theorem SAt.c0 {w : World} {b o : Nat} {x : Sp} (h : SAt w b o x) : w.cell? ⟨b, o, none⟩ = some (.int .i64 x.c) := h.r 0 _ rfl
theorem SAt.c1 {w : World} {b o : Nat} {x : Sp} (h : SAt w b o x) : w.cell? ⟨b, o + 1, none⟩ = some (.int .i64 x.d) := h.r 1 _ rfl
theorem SAt.c2 {w : World} {b o : Nat} {x : Sp} (h : SAt w b o x) : w.cell? ⟨b, o + 2, none⟩ = some (.int .i64 x.j) := h.r 2 _ rfl
theorem SAt.c3 {w : World} {b o : Nat} {x : Sp} (h : SAt w b o x) : w.cell? ⟨b, o + 3, none⟩ = some (.int .i64 x.q) := h.r 3 _ rfl
theorem SAt.c4 {w : World} {b o : Nat} {x : Sp} (h : SAt w b o x) : w.cell? ⟨b, o + 4, none⟩ = some (.int .i64 x.t) := h.r 4 _ rfl
theorem SAt.lt {w : World} {b o : Nat} {x : Sp} (h : SAt w b o x) : b < w.heap.size := World.block_lt_of_cell? w _ h.c0
theorem SAt.later {w w' : World} {b o : Nat} {x : Sp} (h : SAt w b o x) (hb : Below w.heap.size w w') : SAt w' b o x := ⟨fun j v hv => (hb.cell (p := ⟨b, o + j, none⟩) h.lt).trans (h.r j v hv)⟩
/-- A slice that reads as a row of them. -/
structure SRow (w : World) (A : Option Addr) (cap : Nat) (l : List Sp) : Prop where
  le : l.length ≤ cap
  mx : cap ≤ 9223372036854775807
  wf : ∀ x ∈ l, SpW x
  at_ : ∀ i x, l[i]? = some x → ∃ b o, A = some ⟨b, o, none⟩ ∧ SAt w b (o + i * 5) x
theorem SRow.later {w w' : World} {A : Option Addr} {cap : Nat} {l : List Sp} (h : SRow w A cap l) (hb : Below w.heap.size w w') : SRow w' A cap l :=
  ⟨h.le, h.mx, h.wf, fun i x hx => by
    obtain ⟨b, o, e, ht⟩ := h.at_ i x hx
    exact ⟨b, o, e, ht.later hb⟩⟩

theorem SRow.get {w : World} {A : Option Addr} {cap : Nat} {l : List Sp} (h : SRow w A cap l) {k : Nat} (hk : k < l.length) : ∃ b o x, A = some ⟨b, o, none⟩ ∧ l[k]? = some x ∧ SpW x ∧ b < w.heap.size ∧ SAt w b (o + k * 5) x := by
  obtain ⟨b, o, e, ht⟩ := h.at_ k l[k] (List.getElem?_eq_getElem hk)
  exact ⟨b, o, l[k], e, List.getElem?_eq_getElem hk, h.wf _ (List.getElem_mem hk), ht.lt, ht⟩
theorem SRow.nil {w : World} (A : Option Addr) (cap : Nat) (h : cap ≤ 9223372036854775807) : SRow w A cap [] := ⟨by simp, h, by simp, by simp⟩
theorem list_of {α : Type} {P : Nat → α → Prop} : ∀ (n : Nat), (∀ i, i < n → ∃ x, P i x) → ∃ l : List α, l.length = n ∧ ∀ i x, l[i]? = some x → P i x
  | 0, _ => ⟨[], rfl, by simp⟩
  | n + 1, h => by
    obtain ⟨l, hl, hp⟩ := list_of n (fun i hi => h i (by omega))
    obtain ⟨x, hx⟩ := h n (by omega)
    refine ⟨l ++ [x], by simp [hl], fun i y hy => ?_⟩
    by_cases hi : i < l.length
    · rw [List.getElem?_append_left hi] at hy; exact hp i y hy
    · rw [List.getElem?_append_right (by omega)] at hy
      have : i - l.length = 0 := by
        rcases Nat.eq_zero_or_pos (i - l.length) with h0 | h0
        · exact h0
        · rw [List.getElem?_eq_none (by simp; omega)] at hy; cases hy
      rw [this] at hy
      obtain rfl : x = y := by simpa using hy
      obtain rfl : i = n := by omega
      exact hx
theorem spot_of {w : World} {a : Addr} {v : Value} (h : w.cell? a = some v) : a = ⟨a.block, a.off, none⟩ := by
  cases a with
  | mk b o s =>
    cases s with
    | none => rfl
    | some s =>
      unfold World.cell? at h
      split at h
      · simp at h
      · cases h
theorem add_none (b o n : Nat) : (⟨b, o, none⟩ : Addr).add n = ⟨b, o + n, none⟩ := by
  unfold Addr.add
  by_cases h : n = 0
  · simp [h]
  · simp [h]
theorem in64_of {n : Int} (h : (Lit.int .i64 n).wf = true) : in64 n := by
  simp [Lit.wf, IntKind.min, IntKind.max, IntKind.bits, IntKind.signed] at h
  unfold in64
  omega

theorem slice_spot {α : Type} {w : World} {base k len : Nat} {a : Addr} {f : List Value → Option α} {elems : List α} (hlen : elems.length = len) (h0 : 0 < len) (hk : 0 < k)
    (hel : ∀ i, i < len → (w.cells? base (a.add (i * k)) k).bind f = elems[i]?) : a = ⟨a.block, a.off, none⟩ := by
  have h1 := hel 0 h0
  rw [List.getElem?_eq_getElem (by omega)] at h1
  obtain ⟨cl, hcs2, ht⟩ := Option.bind_eq_some_iff.1 h1
  obtain ⟨_, hcl, hat⟩ := World.cells?_some hcs2
  have h2 := hat 0 hk
  rw [List.getElem?_eq_getElem (by omega)] at h2
  have e : (a.add (0 * k)).add 0 = a := by simp [Addr.add]
  rw [e] at h2
  exact spot_of h2

section
open Go.ChangeShapes Go.WideShapes Go.ChangeAt
variable {H : Type} {enc : TypeId × Value → H} {W : World} {base : Nat} {sp : Nat → Bool} {hd : Bool}
set_option maxRecDepth 100000 in
theorem read_tasks {fuel : Nat} {v : Value} {y : DataW H × List MemPlace} (h : DataW.trod enc Try.prog W base sp hd fuel 26 [v] = some y) :
    ∃ A cap l, v = .slice A l.length cap ∧ Row W A cap l := by
  rcases DataW.trod_slice Try.underlying26 h with ⟨hcs, _⟩ | ⟨a, len, cap, elems, rest, n, _, hcs, _, _, hl', hm, hlen, hel, _, _⟩
  · obtain rfl : v = .slice none 0 0 := by simpa using hcs
    exact ⟨none, 0, [], rfl, Row.nil _ _ (by omega)⟩
  · obtain rfl : v = .slice (some a) len cap := by simpa using hcs
    have c7 : Try.prog.cellsOf 40 = 7 := by kernel_rfl
    rw [c7] at hel
    unfold maxLen at hm
    rcases Nat.eq_zero_or_pos len with h0 | h0
    · subst h0
      exact ⟨_, cap, [], rfl, Row.nil _ _ hm⟩
    have hsp := slice_spot hlen h0 (by omega) hel
    obtain ⟨ab, ao, asp⟩ := a
    obtain rfl : asp = none := by injection hsp
    clear hsp
    have key : ∀ i, i < len → ∃ x : Ts, TsW x ∧ TAt W ab (ao + i * 7) x := by
      intro i hi
      have h1 := hel i hi
      have ci : Try.prog.cellsOf 3 = 1 := by kernel_rfl
      have ch : Try.prog.cellsOf 2 = 1 := by kernel_rfl
      have cs : Try.prog.cellsOf 9 = 1 := by kernel_rfl
      rw [List.getElem?_eq_getElem (by omega)] at h1
      obtain ⟨cl, hcs2, ht⟩ := Option.bind_eq_some_iff.1 h1
      obtain ⟨_, hcl, hat⟩ := World.cells?_some hcs2
      obtain ⟨ys, n', _, _, _, hyl, hf⟩ := DataW.trod_struct Try.underlying40 ht
      match cl, hcl, hat, hf with
      | [v0, v1, v2, v3, v4, v5, v6], _, hat, hf =>
        have g0 : DataW.trod enc Try.prog W base sp hd n' 9 [v0] = ys[0]? := by
          have e : DataW.trod enc Try.prog W base sp hd n' 9 (([v0, v1, v2, v3, v4, v5, v6].drop 0).take (Try.prog.cellsOf 9)) = ys[0]? := hf 0 _ rfl
          rw [cs] at e
          exact e
        have g1 : DataW.trod enc Try.prog W base sp hd n' 2 [v1] = ys[1]? := by
          have e : DataW.trod enc Try.prog W base sp hd n' 2 (([v0, v1, v2, v3, v4, v5, v6].drop 1).take (Try.prog.cellsOf 2)) = ys[1]? := hf 1 _ rfl
          rw [ch] at e
          exact e
        have g2 : DataW.trod enc Try.prog W base sp hd n' 2 [v2] = ys[2]? := by
          have e : DataW.trod enc Try.prog W base sp hd n' 2 (([v0, v1, v2, v3, v4, v5, v6].drop 2).take (Try.prog.cellsOf 2)) = ys[2]? := hf 2 _ rfl
          rw [ch] at e
          exact e
        have g3 : DataW.trod enc Try.prog W base sp hd n' 2 [v3] = ys[3]? := by
          have e : DataW.trod enc Try.prog W base sp hd n' 2 (([v0, v1, v2, v3, v4, v5, v6].drop 3).take (Try.prog.cellsOf 2)) = ys[3]? := hf 3 _ rfl
          rw [ch] at e
          exact e
        have g4 : DataW.trod enc Try.prog W base sp hd n' 2 [v4] = ys[4]? := by
          have e : DataW.trod enc Try.prog W base sp hd n' 2 (([v0, v1, v2, v3, v4, v5, v6].drop 4).take (Try.prog.cellsOf 2)) = ys[4]? := hf 4 _ rfl
          rw [ch] at e
          exact e
        have g5 : DataW.trod enc Try.prog W base sp hd n' 2 [v5] = ys[5]? := by
          have e : DataW.trod enc Try.prog W base sp hd n' 2 (([v0, v1, v2, v3, v4, v5, v6].drop 5).take (Try.prog.cellsOf 2)) = ys[5]? := hf 5 _ rfl
          rw [ch] at e
          exact e
        have g6 : DataW.trod enc Try.prog W base sp hd n' 3 [v6] = ys[6]? := by
          have e : DataW.trod enc Try.prog W base sp hd n' 3 (([v0, v1, v2, v3, v4, v5, v6].drop 6).take (Try.prog.cellsOf 3)) = ys[6]? := hf 6 _ rfl
          rw [ci] at e
          exact e
        have hy7 : ys.length = 7 := hyl
        rw [List.getElem?_eq_getElem (by omega)] at g0 g1 g2 g3 g4 g5 g6
        obtain ⟨z0, e0, _, w0⟩ := DataW.trod_string Try.underlying9 g0
        obtain ⟨z1, e1, _, w1⟩ := DataW.trod_int Try.underlying2 g1
        obtain ⟨z2, e2, _, w2⟩ := DataW.trod_int Try.underlying2 g2
        obtain ⟨z3, e3, _, w3⟩ := DataW.trod_int Try.underlying2 g3
        obtain ⟨z4, e4, _, w4⟩ := DataW.trod_int Try.underlying2 g4
        obtain ⟨z5, e5, _, w5⟩ := DataW.trod_int Try.underlying2 g5
        obtain ⟨z6, e6, _, w6⟩ := DataW.trod_int Try.underlying3 g6
        obtain rfl : v0 = .string z0 := by simpa using e0
        obtain rfl : v1 = .int .i64 z1 := by simpa using e1
        obtain rfl : v2 = .int .i64 z2 := by simpa using e2
        obtain rfl : v3 = .int .i64 z3 := by simpa using e3
        obtain rfl : v4 = .int .i64 z4 := by simpa using e4
        obtain rfl : v5 = .int .i64 z5 := by simpa using e5
        obtain rfl : v6 = .int .i64 z6 := by simpa using e6
        refine ⟨⟨z0, z1, z2, z3, z4, z5, z6⟩, ⟨by simpa [maxLen] using w0, in64_of w1, in64_of w2, in64_of w3, in64_of w4, in64_of w5, in64_of w6⟩, ⟨fun j u hu => ?_⟩⟩
        have hj : j < 7 := by
          rcases Nat.lt_or_ge j 7 with h | h
          · exact h
          · rw [List.getElem?_eq_none (by simp [tsL]; omega)] at hu; cases hu
        have := hat j (by simpa using hj)
        simp only [add_none] at this
        rw [this]
        rw [← hu]
        rfl
    obtain ⟨l, hl, hp⟩ := list_of len key
    subst hl
    refine ⟨some ⟨ab, ao, none⟩, cap, l, rfl, ⟨hl', hm, fun x hx => ?_, fun i x hx => ⟨ab, ao, rfl, (hp i x hx).2⟩⟩⟩
    obtain ⟨i, hi, rfl⟩ := List.getElem_of_mem hx
    exact (hp i _ (List.getElem?_eq_getElem hi)).1
set_option maxRecDepth 100000 in
theorem read_specs {fuel : Nat} {v : Value} {y : DataW H × List MemPlace} (h : DataW.trod enc Try.prog W base sp hd fuel 22 [v] = some y) :
    ∃ A cap l, v = .slice A l.length cap ∧ SRow W A cap l := by
  rcases DataW.trod_slice Try.underlying22 h with ⟨hcs, _⟩ | ⟨a, len, cap, elems, rest, n, _, hcs, _, _, hl', hm, hlen, hel, _, _⟩
  · obtain rfl : v = .slice none 0 0 := by simpa using hcs
    exact ⟨none, 0, [], rfl, SRow.nil _ _ (by omega)⟩
  · obtain rfl : v = .slice (some a) len cap := by simpa using hcs
    have c5 : Try.prog.cellsOf 59 = 5 := by kernel_rfl
    rw [c5] at hel
    unfold maxLen at hm
    rcases Nat.eq_zero_or_pos len with h0 | h0
    · subst h0
      exact ⟨_, cap, [], rfl, SRow.nil _ _ hm⟩
    have hsp := slice_spot hlen h0 (by omega) hel
    obtain ⟨ab, ao, asp⟩ := a
    obtain rfl : asp = none := by injection hsp
    clear hsp
    have key : ∀ i, i < len → ∃ x : Sp, SpW x ∧ SAt W ab (ao + i * 5) x := by
      intro i hi
      have h1 := hel i hi
      have ci : Try.prog.cellsOf 3 = 1 := by kernel_rfl
      rw [List.getElem?_eq_getElem (by omega)] at h1
      obtain ⟨cl, hcs2, ht⟩ := Option.bind_eq_some_iff.1 h1
      obtain ⟨_, hcl, hat⟩ := World.cells?_some hcs2
      obtain ⟨ys, n', _, _, _, hyl, hf⟩ := DataW.trod_struct Try.underlying59 ht
      match cl, hcl, hat, hf with
      | [v0, v1, v2, v3, v4], _, hat, hf =>
        have g0 : DataW.trod enc Try.prog W base sp hd n' 3 [v0] = ys[0]? := by
          have e : DataW.trod enc Try.prog W base sp hd n' 3 (([v0, v1, v2, v3, v4].drop 0).take (Try.prog.cellsOf 3)) = ys[0]? := hf 0 _ rfl
          rw [ci] at e
          exact e
        have g1 : DataW.trod enc Try.prog W base sp hd n' 3 [v1] = ys[1]? := by
          have e : DataW.trod enc Try.prog W base sp hd n' 3 (([v0, v1, v2, v3, v4].drop 1).take (Try.prog.cellsOf 3)) = ys[1]? := hf 1 _ rfl
          rw [ci] at e
          exact e
        have g2 : DataW.trod enc Try.prog W base sp hd n' 3 [v2] = ys[2]? := by
          have e : DataW.trod enc Try.prog W base sp hd n' 3 (([v0, v1, v2, v3, v4].drop 2).take (Try.prog.cellsOf 3)) = ys[2]? := hf 2 _ rfl
          rw [ci] at e
          exact e
        have g3 : DataW.trod enc Try.prog W base sp hd n' 3 [v3] = ys[3]? := by
          have e : DataW.trod enc Try.prog W base sp hd n' 3 (([v0, v1, v2, v3, v4].drop 3).take (Try.prog.cellsOf 3)) = ys[3]? := hf 3 _ rfl
          rw [ci] at e
          exact e
        have g4 : DataW.trod enc Try.prog W base sp hd n' 3 [v4] = ys[4]? := by
          have e : DataW.trod enc Try.prog W base sp hd n' 3 (([v0, v1, v2, v3, v4].drop 4).take (Try.prog.cellsOf 3)) = ys[4]? := hf 4 _ rfl
          rw [ci] at e
          exact e
        have hy5 : ys.length = 5 := hyl
        rw [List.getElem?_eq_getElem (by omega)] at g0 g1 g2 g3 g4
        obtain ⟨z0, e0, _, w0⟩ := DataW.trod_int Try.underlying3 g0
        obtain ⟨z1, e1, _, w1⟩ := DataW.trod_int Try.underlying3 g1
        obtain ⟨z2, e2, _, w2⟩ := DataW.trod_int Try.underlying3 g2
        obtain ⟨z3, e3, _, w3⟩ := DataW.trod_int Try.underlying3 g3
        obtain ⟨z4, e4, _, w4⟩ := DataW.trod_int Try.underlying3 g4
        obtain rfl : v0 = .int .i64 z0 := by simpa using e0
        obtain rfl : v1 = .int .i64 z1 := by simpa using e1
        obtain rfl : v2 = .int .i64 z2 := by simpa using e2
        obtain rfl : v3 = .int .i64 z3 := by simpa using e3
        obtain rfl : v4 = .int .i64 z4 := by simpa using e4
        refine ⟨⟨z0, z1, z2, z3, z4⟩, ⟨in64_of w0, in64_of w1, in64_of w2, in64_of w3, in64_of w4⟩, ⟨fun j u hu => ?_⟩⟩
        have hj : j < 5 := by
          rcases Nat.lt_or_ge j 5 with h | h
          · exact h
          · rw [List.getElem?_eq_none (by simp [spL]; omega)] at hu; cases hu
        have := hat j (by simpa using hj)
        simp only [add_none] at this
        rw [this]
        rw [← hu]
        rfl
    obtain ⟨l, hl, hp⟩ := list_of len key
    subst hl
    refine ⟨some ⟨ab, ao, none⟩, cap, l, rfl, ⟨hl', hm, fun x hx => ?_, fun i x hx => ⟨ab, ao, rfl, (hp i x hx).2⟩⟩⟩
    obtain ⟨i, hi, rfl⟩ := List.getElem_of_mem hx
    exact (hp i _ (List.getElem?_eq_getElem hi)).1
end
end Go.Proofs.Ytghijgpelkjohaa
