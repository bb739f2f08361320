/- A set is the same value as itself; regions whose operations leave a class of worlds. -/
import Derived.Test.YthmngibmpkgjkaaDoorBase
import Derived.Deep.Quiet
import Derived.Laws.StructEq
namespace Go.Proofs.YthmngibmpkgjkaaDoor
open Go.RowKit
set_option linter.unusedVariables false

theorem run_part (c : Array Value) (i : Nat) (x : Int) (h : c[i]? = some (.int .u64 x)) (w : World) : (part 24 c i).run Tryd.prog w = .ok (.int .u64 x) w := by
  simp [part, h]
theorem run_equal_same (f : Nat → Bool) (w : World) : (Op.equalIn 10000 26 (setV f) (setV f)).run Tryd.prog w = .ok true w := by
  have key : ∀ (d : Nat), (Op.equalIn (d + 1 + 1) 26 (setV f) (setV f)).run Tryd.prog w = .ok true w := by
    intro d
    rw [Op.equalIn]
    simp only [Sem.run_bind, run_underlying Tryd.underlying26, Result.andThen_ok, Tryd.sizeOf24]
    simp only [Std.Legacy.Range.forIn_eq_forIn_range', Std.Legacy.Range.size, Nat.sub_zero, Nat.add_one_sub_one, Nat.div_one]
    have hl : ∀ i ∈ List.range' 0 16 1, i < 16 := by intro i hi; rw [List.mem_range'_1] at hi; omega
    generalize List.range' 0 16 1 = l at *
    induction l with
    | nil => simp
    | cons i l ih =>
      have hp := run_part (cellsL f).toArray (i * 1) (word f i : Int) (by simpa using cellsL_get f i (hl i (by simp))) w
      simp only [List.forIn_cons, Sem.run_bind, Result.andThen_ok, hp, run_equalIn_int w d 24 .u64 .u64 _ _ Tryd.underlying24, beq_self_eq_true, Bool.not_true, Bool.false_eq_true, if_false, Sem.run_pure]
      have := ih (fun j hj => hl j (by simp [hj]))
      simpa only [Sem.run_bind] using this
  exact key 9998

/-! ### The lexical walk of a region in a class of worlds -/
section
variable {ops : Array Oper} {C : World → Prop} {Q : Act → Prop} {a : Act} {o : Oper} {rest : List Oper}
theorem wq_skip (hw : Region.wanted o (yielded ops a.tmps) = false) (h : wpQuiet Tryd.prog ops C Q rest (a.put o.dst undef)) : wpQuiet Tryd.prog ops C Q (o :: rest) a :=
  wpQuiet_step fun K hK => by rw [hw]; exact hK _ h
theorem wq_val (v : Value) (hw : Region.wanted o (yielded ops a.tmps) = true) (hr : ∀ w, C w → (execOp a.eval o).run Tryd.prog w = .ok (.value v) w) (h : wpQuiet Tryd.prog ops C Q rest (a.put o.dst v)) : wpQuiet Tryd.prog ops C Q (o :: rest) a :=
  wpQuiet_step fun K hK => by
    rw [if_pos hw]
    refine ⟨v, fun w hC => ?_, hK _ h⟩
    unfold Oper.quietAt
    rw [hr w hC]
    exact ⟨rfl, rfl⟩
theorem wq_call {g : FuncId} {args : Array Value} {v : Value} (hc : ∀ w, C w → Calls Tryd.prog g args w fun e w' => e = .returned v ∧ Below w.heap.size w w') (hstep : ∀ w w', C w → Below w.heap.size w w' → C w')
    (hw : Region.wanted o (yielded ops a.tmps) = true) (hr : ∀ w, C w → (execOp a.eval o).run Tryd.prog w = .ok (.enter g args) w) (h : wpQuiet Tryd.prog ops C Q rest (a.put o.dst v)) : wpQuiet Tryd.prog ops C Q (o :: rest) a :=
  wpQuiet_step fun K hK => by
    rw [if_pos hw]
    refine ⟨v, fun w hC => ?_, hK _ h⟩
    unfold Oper.quietAt
    rw [hr w hC]
    exact ⟨rfl, (hc w hC).mono fun e w' hq => ⟨hq.1, hstep w w' hC hq.2⟩⟩
theorem wq_load (x : Operand) (b : Nat) (f : Nat → Bool) (hC : ∀ w, C w → w.rangeAt b 0 (cellsL f)) (hw : Region.wanted o (yielded ops a.tmps) = true) (ho : o.op = .load 26 x) (hx : a.eval x = .pointer (some ⟨b, 0, none⟩))
    (h : wpQuiet Tryd.prog ops C Q rest (a.put o.dst (setV f))) : wpQuiet Tryd.prog ops C Q (o :: rest) a :=
  wq_val (setV f) hw (fun w hw' => by
    unfold execOp
    simp only [ho, hx, Instr.loadAt, Instr.sureAddr, Sem.run_bind, Sem.run_pure, Result.andThen_ok, run_loadVar_mid w b 0 26 (cellsL f) _ (hC w hw') Tryd.underlying26 rfl (info26 f)]) h
theorem run_eql_same (x y : Operand) (f : Nat → Bool) (ho : o.op = .binOp .eql 26 x y 26) (hx : a.eval x = setV f) (hy : a.eval y = setV f) (w : World) : (execOp a.eval o).run Tryd.prog w = .ok (.value (.bool true)) w := by
  unfold execOp
  simp only [ho, hx, hy, Sem.run_bind, run_eqGuard_agg (P := Tryd.prog) w .eql 26 x y _ _ Tryd.eqGuardType26, Result.andThen_ok, run_eql_struct, run_equal_same f w, Sem.run_pure]
theorem run_neq_same (x y : Operand) (f : Nat → Bool) (ho : o.op = .binOp .neq 26 x y 26) (hx : a.eval x = setV f) (hy : a.eval y = setV f) (w : World) : (execOp a.eval o).run Tryd.prog w = .ok (.value (.bool false)) w := by
  unfold execOp
  simp only [ho, hx, hy, Sem.run_bind, run_eqGuard_agg (P := Tryd.prog) w .neq 26 x y _ _ Tryd.eqGuardType26, Result.andThen_ok, run_neq_struct, run_equal_same f w, Sem.run_pure, Bool.not_true]
theorem wq_eql (x y : Operand) (f : Nat → Bool) (hw : Region.wanted o (yielded ops a.tmps) = true) (ho : o.op = .binOp .eql 26 x y 26) (hx : a.eval x = setV f) (hy : a.eval y = setV f)
    (h : wpQuiet Tryd.prog ops C Q rest (a.put o.dst (.bool true))) : wpQuiet Tryd.prog ops C Q (o :: rest) a :=
  wq_val _ hw (fun w _ => run_eql_same x y f ho hx hy w) h
theorem wq_neq (x y : Operand) (f : Nat → Bool) (hw : Region.wanted o (yielded ops a.tmps) = true) (ho : o.op = .binOp .neq 26 x y 26) (hx : a.eval x = setV f) (hy : a.eval y = setV f)
    (h : wpQuiet Tryd.prog ops C Q rest (a.put o.dst (.bool false))) : wpQuiet Tryd.prog ops C Q (o :: rest) a :=
  wq_val _ hw (fun w _ => run_neq_same x y f ho hx hy w) h
end
end Go.Proofs.YthmngibmpkgjkaaDoor
