/- MarksPlays: its parameter, read. -/
import Derived.Test.YthmngibmpkgjkaaDoorPlays
import Derived.WalkKit
import Derived.Below
import Derived.ChangeOld
import Derived.ProofKit
import Derived.OpenShut
import Derived.LaidMore
namespace Go.Proofs.YthmngibmpkgjkaaDoor
open Go.RowKit
set_option linter.unusedVariables false
set_option linter.unusedSimpArgs false

set_option maxRecDepth 100000 in
set_option maxHeartbeats 4000000 in
theorem plays_nil (w : World) (hT : Tab w) : Calls Tryd.prog 4 #[.slice none 0 0] w fun e w' => e = .returned (.bool true) ∧ Below w.heap.size w w' := by
  have K0 : KeptT w w := KeptT.refl hT
  go_enter Tryd.func4, Tryd.ntmps4
  go_upto_region 4 with (first
    | (go_at_call 9; refine (awake_any _ hT).mono ?_; rintro e w1 ⟨rfl, h1⟩; have K1 := K0.step h1; clear h1)
    | ((with_reducible show wpList _ _ _ (⟨none, Op.store 26 (.tmp 4) _, _, _, _, _⟩ :: _) _ _); refine wpList_store_mid rfl 26 _ _ rfl _ _ (cellsL noneF).toArray rfl zero_agg' ((zero_box _).there _) (info26' _) (cellsL_all _) ?_; rw [alloc_stored]; obtain ⟨W4, hW4, B4, K4⟩ := held_new K1 noneF; rw [hW4]; clear hW4)
    | ((with_reducible show wpList _ _ _ (⟨some 16, _, _, _, _, _⟩ :: _) _ _); refine wpList_build_ref rfl rfl ?_))
  have K5 := K4.step ((Below.refl _ _).alloc (Nat.le_refl _) (.cells (bcells noneF).toArray 37))
  generalize W4.alloc (.cells (bcells noneF).toArray 37) = W5 at *
  go_wp2
  refine wp_loop_rounds 1 ?_
  rw [rounds_succ]
  go_wp2
  go_ret
  exact ⟨rfl, K5.1⟩

/-- What is known of the acts that came in. -/
def IsActs (W : World) (A : Option Addr) (len cap : Nat) : Prop :=
  (A = none ∧ len = 0 ∧ cap = 0) ∨ ∃ x, A = some x ∧ len ≤ cap ∧ cap ≤ maxLen ∧ ∀ i, i < len → ∃ kd n raw A ll cc zs, ActAt W (x.add (i * 4)) kd n raw A ll cc zs
theorem plays_walk (A : Option Addr) (len cap : Nat) (w : World) (hT : Tab w) (h : IsActs w A len cap) : Calls Tryd.prog 4 #[.slice A len cap] w fun e w' => e = .returned (.bool true) ∧ Below w.heap.size w w' := by
  rcases h with ⟨rfl, rfl, rfl⟩ | ⟨x, rfl, hle, hmax, hc⟩
  · exact plays_nil w hT
  · exact plays_row x len cap w hT hle hmax hc

section
open Go.ChangeShapes Go.WideShapes Go.ChangeAt
variable {H : Type} {enc : TypeId × Value → H} {W : World} {base : Nat} {sp : Nat → Bool} {hd : Bool}
/-- A slice of numbers that was read. -/
theorem read_ints {fuel : Nat} {v : Value} {y : DataW H × List MemPlace} (h : DataW.trod enc Tryd.prog W base sp hd fuel 22 [v] = some y) : ∃ A ll cc zs, v = .slice A ll cc ∧ Nums W (.slice A ll cc) zs ∧ InI zs := by
  rcases open_ints Tryd.underlying22 Tryd.underlying3 (by kernel_rfl) h with ⟨hcs, _⟩ | ⟨x, l, c, zs, hcs, _, hl, hm, hz, _, hcell, hwz⟩
  · obtain rfl : v = .slice none 0 0 := by simpa using hcs
    exact ⟨none, 0, 0, [], rfl, .inl ⟨rfl, rfl⟩, by intro n hn; simp at hn⟩
  · obtain rfl : v = .slice (some x) l c := by simpa using hcs
    have hzl : l ≤ zs.length := by rw [hz]; split <;> omega
    have hlt : (zs.take l).length = l := List.length_take_of_le hzl
    refine ⟨some x, l, c, zs.take l, rfl, .inr ⟨x, c, by rw [hlt], by rw [hlt]; exact hl, hm, fun i hi => ?_⟩, fun n hn => bounds_i64 (hwz n (List.mem_of_mem_take hn))⟩
    rw [hlt] at hi
    rw [hcell i (by omega), List.getD_eq_getElem?_getD, List.getD_eq_getElem?_getD, List.getElem?_take_of_lt hi]
theorem read_acts {fuel : Nat} {v : Value} {y : DataW H × List MemPlace} (h : DataW.trod enc Tryd.prog W base sp hd fuel 34 [v] = some y) : ∃ A len cap, v = .slice A len cap ∧ IsActs W A len cap := by
  rcases DataW.trod_slice Tryd.underlying34 h with ⟨hcs, _⟩ | ⟨a, len, cap, elems, rest, n, _, hcs, _, _, hl, hm, hlen, hel, _, _⟩
  · obtain rfl : v = .slice none 0 0 := by simpa using hcs
    exact ⟨none, 0, 0, rfl, .inl ⟨rfl, rfl, rfl⟩⟩
  · obtain rfl : v = .slice (some a) len cap := by simpa using hcs
    refine ⟨some a, len, cap, rfl, .inr ⟨a, rfl, hl, hm, fun i hi => ?_⟩⟩
    have h1 := hel i hi
    have c4 : Tryd.prog.cellsOf 39 = 4 := by kernel_rfl
    have ci : Tryd.prog.cellsOf 3 = 1 := by kernel_rfl
    have cb : Tryd.prog.cellsOf 4 = 1 := by kernel_rfl
    have cl : Tryd.prog.cellsOf 22 = 1 := by kernel_rfl
    rw [c4, List.getElem?_eq_getElem (by omega)] at h1
    obtain ⟨cs, hcs2, ht⟩ := Option.bind_eq_some_iff.1 h1
    obtain ⟨_, hcl, hat⟩ := World.cells?_some hcs2
    obtain ⟨ys, n', _, _, _, hyl, hf⟩ := DataW.trod_struct Tryd.underlying39 ht
    match cs, hcl, hat, hf with
    | [v0, v1, v2, v3], _, hat, hf =>
      have g0 : DataW.trod enc Tryd.prog W base sp hd n' 3 [v0] = ys[0]? := by
        have e : DataW.trod enc Tryd.prog W base sp hd n' 3 (([v0, v1, v2, v3].drop 0).take (Tryd.prog.cellsOf 3)) = ys[0]? := hf 0 _ rfl
        rw [ci] at e
        exact e
      have g1 : DataW.trod enc Tryd.prog W base sp hd n' 3 [v1] = ys[1]? := by
        have e : DataW.trod enc Tryd.prog W base sp hd n' 3 (([v0, v1, v2, v3].drop 1).take (Tryd.prog.cellsOf 3)) = ys[1]? := hf 1 _ rfl
        rw [ci] at e
        exact e
      have g2 : DataW.trod enc Tryd.prog W base sp hd n' 4 [v2] = ys[2]? := by
        have e : DataW.trod enc Tryd.prog W base sp hd n' 4 (([v0, v1, v2, v3].drop 2).take (Tryd.prog.cellsOf 4)) = ys[2]? := hf 2 _ rfl
        rw [cb] at e
        exact e
      have g3 : DataW.trod enc Tryd.prog W base sp hd n' 22 [v3] = ys[3]? := by
        have e : DataW.trod enc Tryd.prog W base sp hd n' 22 (([v0, v1, v2, v3].drop 3).take (Tryd.prog.cellsOf 22)) = ys[3]? := hf 3 _ rfl
        rw [cl] at e
        exact e
      have hy4 : ys.length = 4 := hyl
      rw [List.getElem?_eq_getElem (by omega)] at g0 g1 g2 g3
      obtain ⟨kd, e0, _, w0⟩ := DataW.trod_int Tryd.underlying3 g0
      obtain ⟨m, e1, _, w1⟩ := DataW.trod_int Tryd.underlying3 g1
      obtain ⟨raw, e2, _⟩ := DataW.trod_bool Tryd.underlying4 g2
      obtain ⟨A, ll, cc, zs, e3, hN, hI⟩ := read_ints g3
      obtain rfl : v0 = .int .i64 kd := by simpa using e0
      obtain rfl : v1 = .int .i64 m := by simpa using e1
      obtain rfl : v2 = .bool raw := by simpa using e2
      subst e3
      refine ⟨kd, m, raw, A, ll, cc, zs, hat 0 (by omega), hat 1 (by omega), hat 2 (by omega), hat 3 (by omega), hN, hI, bounds_i64 w0, bounds_i64 w1⟩
end
end Go.Proofs.YthmngibmpkgjkaaDoor
