/- HeapPlays: its parameter, read. -/
import Derived.Test.YtebbpgokhelmdaaPl2
import Derived.WalkKit
import Derived.Below
import Derived.ChangeOld
import Derived.ProofKit
import Derived.OpenShut
import Derived.LaidMore
namespace Go.Proofs.Ytebbpgokhelmdaa
open Go.RowKit
set_option linter.unusedVariables false
set_option linter.unusedSimpArgs false
section
open Go.ChangeShapes Go.WideShapes Go.ChangeAt
variable {H : Type} {enc : TypeId × Value → H} {W : World} {base : Nat} {sp : Nat → Bool} {hd : Bool}
theorem acts_row {a : Addr} {len : Nat} (h : ∀ i, i < len → ∃ kd ky, in64 kd ∧ in64 ky ∧ W.cell? ((a.add (i * 2)).add 0) = some (.int .i64 kd) ∧ W.cell? ((a.add (i * 2)).add 1) = some (.int .i64 ky)) : ActRow W (some a) len := by
  intro i hi
  obtain ⟨b, o, sp⟩ := a
  obtain ⟨_, _, _, _, h0, _⟩ := h 0 (by omega)
  have hb : b < W.heap.size ∧ sp = none := by
    simp only [Nat.zero_mul, Addr.add, if_true, World.cell?] at h0
    split at h0
    · rename_i e
      refine ⟨(Array.getElem?_eq_some_iff.1 e).1, ?_⟩
      cases sp with
      | none => rfl
      | some s => simp at h0
    · cases h0
  obtain ⟨hb, rfl⟩ := hb
  obtain ⟨kd, ky, k1, k2, c0, c1⟩ := h i hi
  simp only [add_none] at c0 c1
  exact ⟨b, o, kd, ky, rfl, hb, k1, k2, c0, c1⟩
theorem read_acts {fuel : Nat} {v : Value} {y : DataW H × List MemPlace} (h : DataW.trod enc Try.prog W base sp hd fuel 23 [v] = some y) : ∃ A len cap, v = .slice A len cap ∧ ActRow W A len ∧ len ≤ maxLen := by
  rcases DataW.trod_slice Try.underlying23 h with ⟨hcs, _⟩ | ⟨a, len, cap, elems, rest, n, _, hcs, _, _, hl, hm, hlen, hel, _, _⟩
  · obtain rfl : v = .slice none 0 0 := by simpa using hcs
    exact ⟨none, 0, 0, rfl, fun i hi => by omega, Nat.zero_le _⟩
  · obtain rfl : v = .slice (some a) len cap := by simpa using hcs
    refine ⟨some a, len, cap, rfl, acts_row (fun i hi => ?_), Nat.le_trans hl hm⟩
    have h1 := hel i hi
    have c4 : Try.prog.cellsOf 38 = 2 := by kernel_rfl
    have ci : Try.prog.cellsOf 3 = 1 := by kernel_rfl
    rw [c4, List.getElem?_eq_getElem (by omega)] at h1
    obtain ⟨cs, hcs2, ht⟩ := Option.bind_eq_some_iff.1 h1
    obtain ⟨_, hcl, hat⟩ := World.cells?_some hcs2
    obtain ⟨ys, n', _, _, _, hyl, hf⟩ := DataW.trod_struct Try.underlying38 ht
    match cs, hcl, hat, hf with
    | [v0, v1], _, hat, hf =>
      have g0 : DataW.trod enc Try.prog W base sp hd n' 3 [v0] = ys[0]? := by
        have e : DataW.trod enc Try.prog W base sp hd n' 3 (([v0, v1].drop 0).take (Try.prog.cellsOf 3)) = ys[0]? := hf 0 _ rfl
        rw [ci] at e
        exact e
      have g1 : DataW.trod enc Try.prog W base sp hd n' 3 [v1] = ys[1]? := by
        have e : DataW.trod enc Try.prog W base sp hd n' 3 (([v0, v1].drop 1).take (Try.prog.cellsOf 3)) = ys[1]? := hf 1 _ rfl
        rw [ci] at e
        exact e
      have hy4 : ys.length = 2 := hyl
      rw [List.getElem?_eq_getElem (by omega)] at g0 g1
      obtain ⟨kd, e0, _, w0⟩ := DataW.trod_int Try.underlying3 g0
      obtain ⟨m, e1, _, w1⟩ := DataW.trod_int Try.underlying3 g1
      obtain rfl : v0 = .int .i64 kd := by simpa using e0
      obtain rfl : v1 = .int .i64 m := by simpa using e1
      exact ⟨kd, m, in64_w w0, in64_w w1, hat 0 (by omega), hat 1 (by omega)⟩
end
end Go.Proofs.Ytebbpgokhelmdaa
