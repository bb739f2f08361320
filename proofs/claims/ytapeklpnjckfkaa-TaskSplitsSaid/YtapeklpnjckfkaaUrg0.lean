/- Sets, counted. -/
import Derived.Test.YtapeklpnjckfkaaRank
import Derived.Deep.WholeRow
namespace Go.Proofs.Ytapeklpnjckfkaa
open Go.RowKit
set_option linter.unusedVariables false
set_option linter.unusedSimpArgs false

theorem cnt_count (f : Nat → Bool) : ∀ i, cnt f i = cntTo f (64 * i)
  | 0 => rfl
  | i + 1 => by
    rw [cnt, cnt_count f i, pc_count, cntTo, cntTo, show 64 * (i + 1) = 64 * i + 64 by omega, List.range_add, List.countP_append, List.countP_map]
    congr 1
    refine List.countP_congr fun j hj => ?_
    have : j < 64 := by simpa using hj
    simp [testBit_word, this]
theorem cntTo_far {f : Nat → Bool} {n : Nat} (h : ∀ k, n ≤ k → f k = false) : ∀ d, cntTo f (n + d) = cntTo f n
  | 0 => rfl
  | d + 1 => by rw [← Nat.add_assoc, cntTo_no (h (n + d) (by omega)), cntTo_far h d]
theorem cnt_few {f : Nat → Bool} {n : Nat} (h : ∀ k, n ≤ k → f k = false) (hn : n ≤ 1024) : cnt f 16 = cntTo f n := by
  rw [cnt_count, show 64 * 16 = n + (1024 - n) by omega, cntTo_far h]
theorem alloc_stored (w : World) (g : Nat → Bool) : (w.alloc (.cells #[.int .u64 0, .int .u64 0, .int .u64 0, .int .u64 0, .int .u64 0, .int .u64 0, .int .u64 0, .int .u64 0, .int .u64 0, .int .u64 0, .int .u64 0, .int .u64 0, .int .u64 0, .int .u64 0, .int .u64 0, .int .u64 0] 41)).setCells w.heap.size 0 (cellsL g) = w.alloc (.cells (cellsL g).toArray 41) := by
  rw [(zero_box w).stored g, World.setRow_alloc_new]
theorem held4 (w1 : World) (g : Nat → Bool) : ∃ W2, w1.alloc (.cells (cellsL g).toArray 41) = W2 ∧ Box W2 w1.heap.size g ∧ Below w1.heap.size w1 W2 :=
  ⟨_, rfl, Box.new w1 g, (Below.refl _ _).alloc (Nat.le_refl _) _⟩
theorem wpList_load_g {ops : Array Oper} {rest : List Oper} {o : Oper} {a : Act} {w : World} {Q : Exit → Act → World → Prop} (hw : Region.wanted o (yielded ops a.tmps) = true) (x : Operand) (ho : o.op = .load 41 x)
    (b : Nat) (f : Nat → Bool) (hx : a.eval x = .pointer (some ⟨b, 0, none⟩)) (hb : Box w b f)
    (h : wpList Try.prog ops Q rest (a.put o.dst (setV f)) w) : wpList Try.prog ops Q (o :: rest) a w :=
  wpList_step fun K hK => by
    rw [if_pos hw]
    exact wp_load_mid 41 x ho b 0 hx (cellsL f) _ hb.range Try.underlying41 rfl (info26 f) (hK _ _ h)
end Go.Proofs.Ytapeklpnjckfkaa
