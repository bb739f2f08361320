/- Raw jobs that come in. -/
import Derived.Test.YtngmaiiibinkaaaJArr
namespace Go.Proofs.Ytngmaiiibinkaaa
open Go.RowKit
set_option linter.unusedVariables false
set_option linter.unusedSimpArgs false

section
open Go.ChangeShapes Go.WideShapes Go.ChangeAt
variable {H : Type} {enc : TypeId × Value → H} {W : World} {base : Nat} {sp : Nat → Bool} {hd : Bool}
set_option maxRecDepth 100000 in
theorem read_cuts {fuel : Nat} {v : Value} {y : DataW H × List MemPlace} (h : DataW.trod enc Try.prog W base sp hd fuel 56 [v] = some y) :
    ∃ A cap l, v = .slice A l.length cap ∧ CRow W A cap l := by
  rcases DataW.trod_slice Try.underlying56 h with ⟨hcs, _⟩ | ⟨a, len, cap, elems, rest, n, _, hcs, _, _, hl', hm, hlen, hel, _, _⟩
  · obtain rfl : v = .slice none 0 0 := by simpa using hcs
    exact ⟨none, 0, [], rfl, CRow.nil _ _ (by omega)⟩
  · obtain rfl : v = .slice (some a) len cap := by simpa using hcs
    have c1 : Try.prog.cellsOf 3 = 1 := by kernel_rfl
    rw [c1] at hel
    unfold maxLen at hm
    rcases Nat.eq_zero_or_pos len with h0 | h0
    · subst h0
      exact ⟨_, cap, [], rfl, CRow.nil _ _ hm⟩
    have hsp := slice_spot hlen h0 (by omega) hel
    obtain ⟨ab, ao, asp⟩ := a
    obtain rfl : asp = none := by injection hsp
    clear hsp
    have key : ∀ i, i < len → ∃ x : Int, in64 x ∧ W.cell? ⟨ab, ao + i, none⟩ = some (.int .i64 x) := by
      intro i hi
      have h1 := hel i hi
      rw [List.getElem?_eq_getElem (by omega)] at h1
      obtain ⟨cl, hcs2, ht⟩ := Option.bind_eq_some_iff.1 h1
      obtain ⟨_, hcl, hat⟩ := World.cells?_some hcs2
      match cl, hcl, hat, ht with
      | [v0], _, hat, ht =>
        obtain ⟨z0, e0, _, w0⟩ := DataW.trod_int Try.underlying3 ht
        obtain rfl : v0 = .int .i64 z0 := by simpa using e0
        have := hat 0 (by simp)
        simp only [add_none, Nat.mul_one, Nat.add_zero] at this
        exact ⟨z0, in64_of w0, by simpa using this⟩
    obtain ⟨l, hl, hp⟩ := list_of len key
    subst hl
    refine ⟨some ⟨ab, ao, none⟩, cap, l, rfl, ⟨hl', hm, fun x hx => ?_, fun i x hx => ⟨ab, ao, rfl, (hp i x hx).2⟩⟩⟩
    obtain ⟨i, hi, rfl⟩ := List.getElem_of_mem hx
    exact (hp i _ (List.getElem?_eq_getElem hi)).1
set_option maxRecDepth 100000 in
theorem read_raws {fuel : Nat} {v : Value} {y : DataW H × List MemPlace} (h : DataW.trod enc Try.prog W base sp hd fuel 23 [v] = some y) :
    ∃ A cap l, v = .slice A l.length cap ∧ FRow W A cap l := by
  rcases DataW.trod_slice Try.underlying23 h with ⟨hcs, _⟩ | ⟨a, len, cap, elems, rest, n, _, hcs, _, _, hl', hm, hlen, hel, _, _⟩
  · obtain rfl : v = .slice none 0 0 := by simpa using hcs
    exact ⟨none, 0, [], rfl, FRow.nil _ _ (by omega)⟩
  · obtain rfl : v = .slice (some a) len cap := by simpa using hcs
    have c5 : Try.prog.cellsOf 58 = 5 := by kernel_rfl
    rw [c5] at hel
    unfold maxLen at hm
    rcases Nat.eq_zero_or_pos len with h0 | h0
    · subst h0
      exact ⟨_, cap, [], rfl, FRow.nil _ _ hm⟩
    have hsp := slice_spot hlen h0 (by omega) hel
    obtain ⟨ab, ao, asp⟩ := a
    obtain rfl : asp = none := by injection hsp
    clear hsp
    have key : ∀ i, i < len → ∃ x : Fv, ∃ C cc, FAt W ab (ao + i * 5) x C cc := by
      intro i hi
      have h1 := hel i hi
      have ci : Try.prog.cellsOf 3 = 1 := by kernel_rfl
      have cs : Try.prog.cellsOf 56 = 1 := by kernel_rfl
      rw [List.getElem?_eq_getElem (by omega)] at h1
      obtain ⟨cl, hcs2, ht⟩ := Option.bind_eq_some_iff.1 h1
      obtain ⟨_, hcl, hat⟩ := World.cells?_some hcs2
      obtain ⟨ys, n', _, _, _, hyl, hf⟩ := DataW.trod_struct Try.underlying58 ht
      match cl, hcl, hat, hf with
      | [v0, v1, v2, v3, v4], _, hat, hf =>
        have g0 : DataW.trod enc Try.prog W base sp hd n' 3 [v0] = ys[0]? := by
          have e : DataW.trod enc Try.prog W base sp hd n' 3 (([v0, v1, v2, v3, v4].drop 0).take (Try.prog.cellsOf 3)) = ys[0]? := hf 0 _ rfl
          rw [ci] at e
          exact e
        have g1 : DataW.trod enc Try.prog W base sp hd n' 3 [v1] = ys[1]? := by
          have e : DataW.trod enc Try.prog W base sp hd n' 3 (([v0, v1, v2, v3, v4].drop 1).take (Try.prog.cellsOf 3)) = ys[1]? := hf 1 _ rfl
          rw [ci] at e
          exact e
        have g2 : DataW.trod enc Try.prog W base sp hd n' 3 [v2] = ys[2]? := by
          have e : DataW.trod enc Try.prog W base sp hd n' 3 (([v0, v1, v2, v3, v4].drop 2).take (Try.prog.cellsOf 3)) = ys[2]? := hf 2 _ rfl
          rw [ci] at e
          exact e
        have g3 : DataW.trod enc Try.prog W base sp hd n' 3 [v3] = ys[3]? := by
          have e : DataW.trod enc Try.prog W base sp hd n' 3 (([v0, v1, v2, v3, v4].drop 3).take (Try.prog.cellsOf 3)) = ys[3]? := hf 3 _ rfl
          rw [ci] at e
          exact e
        have g4 : DataW.trod enc Try.prog W base sp hd n' 56 [v4] = ys[4]? := by
          have e : DataW.trod enc Try.prog W base sp hd n' 56 (([v0, v1, v2, v3, v4].drop 4).take (Try.prog.cellsOf 56)) = ys[4]? := hf 4 _ rfl
          rw [cs] at e
          exact e
        have hy5 : ys.length = 5 := hyl
        rw [List.getElem?_eq_getElem (by omega)] at g0 g1 g2 g3 g4
        obtain ⟨z0, e0, _, w0⟩ := DataW.trod_int Try.underlying3 g0
        obtain ⟨z1, e1, _, w1⟩ := DataW.trod_int Try.underlying3 g1
        obtain ⟨z2, e2, _, w2⟩ := DataW.trod_int Try.underlying3 g2
        obtain ⟨z3, e3, _, w3⟩ := DataW.trod_int Try.underlying3 g3
        obtain ⟨C, cc, cl, e4, w4⟩ := read_cuts g4
        obtain rfl : v0 = .int .i64 z0 := by simpa using e0
        obtain rfl : v1 = .int .i64 z1 := by simpa using e1
        obtain rfl : v2 = .int .i64 z2 := by simpa using e2
        obtain rfl : v3 = .int .i64 z3 := by simpa using e3
        obtain rfl : v4 = .slice C cl.length cc := e4
        refine ⟨⟨z0, z1, z2, z3, cl⟩, C, cc, ⟨fun j u hu => ?_, ⟨in64_of w0, in64_of w1, in64_of w2, in64_of w3⟩, w4⟩⟩
        have hj : j < 5 := by
          rcases Nat.lt_or_ge j 5 with h | h
          · exact h
          · rw [List.getElem?_eq_none (by simp [fvL]; omega)] at hu; cases hu
        have := hat j (by simpa using hj)
        simp only [add_none] at this
        rw [this]
        rw [← hu]
        rfl
    obtain ⟨l, hl, hp⟩ := list_of len key
    subst hl
    refine ⟨some ⟨ab, ao, none⟩, cap, l, rfl, ⟨hl', hm, fun i x hx => ?_⟩⟩
    obtain ⟨C, cc, hF⟩ := hp i x hx
    exact ⟨ab, ao, C, cc, rfl, hF⟩
end
end Go.Proofs.Ytngmaiiibinkaaa
