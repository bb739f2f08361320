/- Tasks as values, and whether one may be: plain words; the contracts of Check and of the document's own. -/
import Derived.Test.YtghijgpelkjohaaBase
import Derived.RangeFuncBox
import Derived.Deep.CutBlock
namespace Go.Proofs.Ytghijgpelkjohaa
open Go.RowKit
set_option linter.unusedVariables false
set_option linter.unusedSimpArgs false

/-- A task. -/
structure Ts where
  n : ByteArray
  c : Int
  t : Int
  d : Int
  j : Int
  q : Int
  p : Int
deriving DecidableEq
abbrev tsV (x : Ts) : Value := .agg #[.string x.n, .int .i64 x.c, .int .i64 x.t, .int .i64 x.d, .int .i64 x.j, .int .i64 x.q, .int .i64 x.p]
def in64 (n : Int) : Prop := -9223372036854775808 ≤ n ∧ n ≤ 9223372036854775807
/-- Its fields are such as a task may hold. -/
structure TsW (x : Ts) : Prop where
  n : x.n.size ≤ 9223372036854775807
  c : in64 x.c
  t : in64 x.t
  d : in64 x.d
  j : in64 x.j
  q : in64 x.q
  p : in64 x.p
def inB (n lo hi : Int) : Bool := decide (lo ≤ n ∧ n ≤ hi)
def rangedB (x : Ts) : Bool := inB x.c 1 2147483647 && (inB x.t 1 2147483647 && (inB x.d 1 2147483647 && (inB x.q 1 2147483647 && (inB x.j 0 2147483647 && inB x.p 1 1048576))))
theorem bcell {W w1 : World} (hb : Below W.heap.size W w1) : (∀ b o, b < W.heap.size → w1.cell? ⟨b, o, none⟩ = W.cell? ⟨b, o, none⟩) ∧ (∀ b o, b < W.heap.size → w1.frozen? ⟨b, o, none⟩ = W.frozen? ⟨b, o, none⟩) :=
  ⟨fun b o h => hb.cell (p := ⟨b, o, none⟩) h, fun b o h => hb.frozen (p := ⟨b, o, none⟩) h⟩
theorem inB_no {n lo hi : Int} (h : ¬ (lo ≤ n ∧ n ≤ hi)) : inB n lo hi = false := by simp [inB]; omega
theorem inB_yes {n lo hi : Int} (h : lo ≤ n ∧ n ≤ hi) : inB n lo hi = true := by simp [inB]; omega
theorem inB_iff {n lo hi : Int} : inB n lo hi = true ↔ lo ≤ n ∧ n ≤ hi := by simp [inB]

theorem rangedB_parts {x : Ts} (h : rangedB x = true) : (1 ≤ x.c ∧ x.c ≤ 2147483647) ∧ (1 ≤ x.t ∧ x.t ≤ 2147483647) ∧ (1 ≤ x.d ∧ x.d ≤ 2147483647) ∧ (1 ≤ x.q ∧ x.q ≤ 2147483647) ∧ (0 ≤ x.j ∧ x.j ≤ 2147483647) ∧ 1 ≤ x.p ∧ x.p ≤ 1048576 := by
  simp only [rangedB, Bool.and_eq_true, inB_iff] at h
  exact h

end Go.Proofs.Ytghijgpelkjohaa
