/- The tokens of a text, told one by one: an iterator over an iterator. -/
import Derived.Test.YtngmaiiibinkaaaPieces
namespace Go.Proofs.Ytngmaiiibinkaaa
open Go.RowKit Go.Shelf
set_option linter.unusedVariables false
attribute [local go_sem] Oper.semAt_some

theorem round_any {m m' l l2 : Nat} {f : FuncId} {tmps : Array Value} {assign body : Code} {w : World} {R : Ending → World → Prop}
    (h : RoundIn Fence.wide m Try.prog l f tmps assign body w R) : RoundIn (Fence.wide.inRound l2) m' Try.prog l f tmps assign body w R := ⟨h.1, fun c cs _ => h.2 c cs (room_wide _)⟩
theorem own_up {β : Type} {B B' : Nat} {J : β → World → Prop} (h : OwnFrom B J) (hB : B ≤ B') : OwnFrom B' J := fun s X Y row hs hg hr => h s X Y row hs hg (fun r e => ⟨by have := (hr r e).1; omega, (hr r e).2⟩)
theorem TB.kept {W W' : World} {row : Option Nat} {b : Nat} {x : Tk} (h : TB W b x) (hg : W.grownBy W' row) (hr : ∀ r, row = some r → ∃ o : Obj, W.heap[r]? = some o ∧ o.isCells = false) : TB W' b x := ⟨(grownBy_keeps_cells hg hr h.is rfl).trans h.is⟩
theorem boxed_kept {W W' : World} {row : Option Nat} {b : Nat} {t : TypeId} {v : Value} (h : Boxed W b t v) (hg : W.grownBy W' row) (hr : ∀ r, row = some r → ∃ o : Obj, W.heap[r]? = some o ∧ o.isCells = false) : Boxed W' b t v := (grownBy_keeps_cells hg hr h rfl).trans h

theorem toksOf_all {ps : List Tk} (h : ∀ y ∈ ps, y.k ≠ 0) : toksOf ps = ps := by
  unfold toksOf
  induction ps with
  | nil => rfl
  | cons a r ih => rw [List.takeWhile_cons_of_pos (by simpa using h a (by simp)), ih (fun y hy => h y (List.mem_cons_of_mem _ hy))]
theorem toksOf_stop {q r : List Tk} {x : Tk} (h : ∀ y ∈ q, y.k ≠ 0) (hx : x.k = 0) : toksOf (q ++ [x] ++ r) = q := by
  unfold toksOf
  rw [List.append_assoc, List.takeWhile_append_of_pos (fun y hy => by simpa using h y hy)]
  simp [hx]
theorem toksOf_pre {q r : List Tk} (h : ∀ y ∈ q, y.k ≠ 0) : q <+: toksOf (q ++ r) := by
  unfold toksOf
  rw [List.takeWhile_append_of_pos (fun y hy => by simpa using h y hy)]
  exact ⟨_, rfl⟩
theorem toksOf_prefix (ps : List Tk) : toksOf ps <+: ps := List.takeWhile_prefix _

abbrev tokL (s : ByteArray) : List Tk := toksOf (pieceL s)

end Go.Proofs.Ytngmaiiibinkaaa
