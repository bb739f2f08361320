/- A map of one entry whose key is a set. -/
import Derived.Test.YthmngibmpkgjkaaDoorEq
import Derived.MapKept
import Derived.RangeFuncRecord
namespace Go.Proofs.YthmngibmpkgjkaaDoor
open Go.RowKit
set_option linter.unusedVariables false
set_option linter.unusedSimpArgs false

theorem run_checkKey_int (e : Bool) (d : Nat) (x : Int) (w : World) : (Instr.checkKey e (d + 1) 24 (.int .u64 x)).run Tryd.prog w = .ok () w := by
  simp [Instr.checkKey]
theorem run_checkKey_set (e : Bool) (f : Nat → Bool) (w : World) : (Instr.checkKey e 10000 26 (setV f)).run Tryd.prog w = .ok () w := by
  have key : ∀ (d : Nat), (Instr.checkKey e (d + 1 + 1) 26 (setV f)).run Tryd.prog w = .ok () w := by
    intro d
    rw [Instr.checkKey]
    simp only [Sem.run_bind, run_underlying Tryd.underlying26, Result.andThen_ok, Tryd.sizeOf24]
    simp only [Std.Legacy.Range.forIn_eq_forIn_range', Std.Legacy.Range.size, Nat.sub_zero, Nat.add_one_sub_one, Nat.div_one]
    have hl : ∀ i ∈ List.range' 0 16 1, i < 16 := by intro i hi; rw [List.mem_range'_1] at hi; omega
    generalize List.range' 0 16 1 = l at *
    induction l with
    | nil => simp
    | cons i l ih =>
      have hp := run_part (cellsL f).toArray (i * 1) (word f i : Int) (by simpa using cellsL_get f i (hl i (by simp))) w
      simp only [List.forIn_cons, Sem.run_bind, Result.andThen_ok, hp, run_checkKey_int, Tryd.sizeOf24, Sem.run_pure]
      exact ih (fun j hj => hl j (by simp [hj]))
  exact key 9998
theorem run_mapUpdate_new (f : Nat → Bool) (v : Value) (r c : Nat) (w : World) (h : w.heap[r]? = some (.map #[] c)) :
    (Instr.mapUpdate 44 (.map (some r)) (setV f) v).run Tryd.prog w = .ok () (w.putObj r (.map #[{ key := setV f, val := v, born := c }] (c + 1))) := by
  have hg : (getObj r).run Tryd.prog w = .ok (.map #[] c) w := by simp [getObj, Sem.run, h]
  have hs : ∀ o, (setObj r o).run Tryd.prog w = .ok () (w.putObj r o) := fun o => by simp [setObj, Sem.run, h, World.putObj]
  simp [Instr.mapUpdate, run_checkKey_set, Instr.findKey, Instr.findNow, hg, hs]
theorem run_lookup_same (f : Nat → Bool) (v : Value) (r b c : Nat) (w : World) (h : w.heap[r]? = some (.map #[{ key := setV f, val := v, born := b }] c)) :
    (Instr.lookup 44 (.map (some r)) (setV f) false).run Tryd.prog w = .ok v w := by
  have hg : (getObj r).run Tryd.prog w = .ok (.map #[{ key := setV f, val := v, born := b }] c) w := by simp [getObj, Sem.run, h]
  simp [Instr.lookup, run_checkKey_set, Instr.findKey, Instr.findNow, Instr.sameNow, Instr.findAsking, Op.equal, Op.maxDepth, run_equal_same f w, hg]
end Go.Proofs.YthmngibmpkgjkaaDoor
