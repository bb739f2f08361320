/- A heap in memory; what goes first. -/
import Derived.Test.YtebbpgokhelmdaaHBase
namespace Go.Proofs.Ytebbpgokhelmdaa
open Go.RowKit
set_option linter.unusedVariables false
set_option linter.unusedSimpArgs false

def keyI (x : Int) : Int := x
/-- The cells of a thing with its turn. -/
def thI (p : Int × Nat) : List Value := [.int .i64 p.1, .int .i64 (p.2 : Int)]
def thCI (l : List (Int × Nat)) : List Value := l.flatMap thI
abbrev lxI (a b : Int × Nat) : Bool := lexB keyI a b
theorem th_lenI (p : Int × Nat) : (thI p).length = 2 := rfl
theorem thC_lenI : ∀ l : List (Int × Nat), (thCI l).length = l.length * 2
  | [] => rfl
  | p :: l => by
    have := thC_lenI l
    rw [thCI, List.flatMap_cons, List.length_append, th_lenI, List.length_cons]
    rw [thCI] at this
    omega
theorem thC_appI (a b : List (Int × Nat)) : thCI (a ++ b) = thCI a ++ thCI b := by simp [thCI]
theorem thC_getI (l : List (Int × Nat)) : ∀ (i : Nat) (p : Int × Nat), l[i]? = some p → ∀ j u, (thI p)[j]? = some u → (thCI l)[i * 2 + j]? = some u := by
  induction l with
  | nil => intro i p h; simp at h
  | cons a r ih =>
    intro i p h j v hv
    have hj : j < 2 := by
      rcases Nat.lt_or_ge j 2 with h | h
      · exact h
      · rw [List.getElem?_eq_none (by rw [th_lenI]; exact h)] at hv; cases hv
    cases i with
    | zero =>
      simp at h; subst h
      rw [Nat.zero_mul, Nat.zero_add, thCI, List.flatMap_cons, List.getElem?_append_left (by rw [th_lenI]; exact hj)]
      exact hv
    | succ i =>
      simp only [List.getElem?_cons_succ] at h
      have := ih i p h j v hv
      rw [thCI, List.flatMap_cons, List.getElem?_append_right (by rw [th_lenI]; omega), th_lenI]
      rw [show (i + 1) * 2 + j - 2 = i * 2 + j by omega]
      exact this
theorem thC_setI (l : List (Int × Nat)) : ∀ (i : Nat) (p : Int × Nat), i < l.length → thCI (l.set i p) = (((thCI l).set (i * 2) (.int .i64 p.1)).set (i * 2 + 1) (.int .i64 (p.2 : Int))) := by
  induction l with
  | nil => intro i p h; simp at h
  | cons a r ih =>
    intro i p h
    cases i with
    | zero => simp [thCI, thI]
    | succ i =>
      have := ih i p (by simpa using h)
      rw [List.set_cons_succ, thCI, List.flatMap_cons]
      rw [thCI] at this
      rw [this]
      have e : thCI (a :: r) = thI a ++ thCI r := by simp [thCI]
      rw [e]
      simp only [thI, List.cons_append, List.nil_append, show (i + 1) * 2 = i * 2 + 2 by omega, show ∀ m : Nat, i * 2 + 2 + m = i * 2 + m + 2 by intro m; omega]
      simp [thCI]
theorem thC_takeI (l : List (Int × Nat)) : ∀ m, m ≤ l.length → thCI (l.take m) = (thCI l).take (m * 2) := by
  induction l with
  | nil => intro m h; simp at h; subst h; simp [thCI]
  | cons a r ih =>
    intro m h
    cases m with
    | zero => simp [thCI]
    | succ m =>
      have := ih m (by simpa using h)
      rw [List.take_succ_cons, thCI, List.flatMap_cons]
      rw [thCI] at this
      rw [this]
      have e : thCI (a :: r) = thI a ++ thCI r := by simp [thCI]
      rw [e, List.take_append, th_lenI, show (m + 1) * 2 - 2 = m * 2 by omega, List.take_of_length_le (l := thI a) (by rw [th_lenI]; omega)]

/-- What a thing may be. -/
def okI (x : Int) : Prop := in64 x
/-- Block b is a heap: v its row, of which c came; l the things. -/
structure HBI (B : Nat) (w : World) (b : Nat) (v : Value) (c : Nat) (l : List (Int × Nat)) : Prop where
  hB : B ≤ b
  is : w.heap[b]? = some (.cells #[.func (.func 19) #[] #[], v, .int .i64 (c : Int)] 80 (0, 0))
  row : w.ownsRow B 88 2 v l.length (thCI l)
  ok : ∀ p ∈ l, okI p.1
  few : ∀ p ∈ l, p.2 < 1000000
  lim : c ≤ 1000000
section
variable {B : Nat} {w w' : World} {b c : Nat} {v : Value} {l : List (Int × Nat)}
theorem HBI.lt (h : HBI B w b v c l) : b < w.heap.size := (Array.getElem?_eq_some_iff.1 h.is).1
theorem HBI.cell (h : HBI B w b v c l) (i : Nat) : w.cell? ⟨b, i, none⟩ = (#[.func (.func 19) #[] #[], v, .int .i64 (c : Int)] : Array Value)[i]? := cell_of_row w b i _ _ _ h.is
theorem HBI.c0 (h : HBI B w b v c l) : w.cell? ⟨b, 0, none⟩ = some (.func (.func 19) #[] #[]) := h.cell 0
theorem HBI.c1 (h : HBI B w b v c l) : w.cell? ⟨b, 1, none⟩ = some v := h.cell 1
theorem HBI.c2 (h : HBI B w b v c l) : w.cell? ⟨b, 2, none⟩ = some (.int .i64 (c : Int)) := h.cell 2
theorem HBI.fz (h : HBI B w b v c l) (i : Nat) : w.frozen? ⟨b, i, none⟩ = false := by simp [World.frozen?, h.is]
theorem HBI.ne (h : HBI B w b v c l) : v.ownBlock ≠ some b := own_ne h.row h.is (by decide)
theorem HBI.kept {X : List Nat} (h : HBI B w b v c l) (hk : Kept X w w') (hx : ∀ k ∈ blk b v, k ∉ X) : HBI B w' b v c l :=
  ⟨h.hB, (hk.block b h.lt (hx b (by simp [blk]))).trans h.is, hk.row h.row (fun g hg => hx g (by simp [blk, hg])), h.ok, h.few, h.lim⟩
theorem HBI.later (h : HBI B w b v c l) (hb : Below w.heap.size w w') : HBI B w' b v c l := h.kept (Kept.of [] hb) (by simp)
theorem HBI.blk_ge (h : HBI B w b v c l) : ∀ k ∈ blk b v, B ≤ k ∧ k < w.heap.size := by
  intro k hk
  simp only [blk, List.mem_cons] at hk
  rcases hk with rfl | hk
  · exact ⟨h.hB, h.lt⟩
  · exact h.row.lt k (by simpa using hk)
end

theorem run_neq_nilI (fn : Fn) (a b : Array Value) (w : World) : (binOp .neq 50 (.func fn a b) .nilFunc).run Try.prog w = .ok (.bool true) w := by
  have h : ∀ d, (Op.equalIn (d + 1) 50 (.func fn a b) .nilFunc).run Try.prog w = .ok false w := fun d => by simp [Op.equalIn, run_underlying Try.underlying50]
  simp only [binOp]
  simp [Op.equal, Op.maxDepth, h 9999]
theorem run_eql_seqI (fn : Fn) (a b : Array Value) (w : World) : (binOp .eql 59 (.func fn a b) .nilFunc).run Try.prog w = .ok (.bool false) w := by
  have h : ∀ d, (Op.equalIn (d + 1) 59 (.func fn a b) .nilFunc).run Try.prog w = .ok false w := fun d => by simp [Op.equalIn, run_underlying Try.underlying59]
  simp only [binOp]
  simp [Op.equal, Op.maxDepth, h 9999]
set_option maxHeartbeats 1000000 in
theorem less_anyI (a b : Int) (w : World) : Calls Try.prog 19 #[.int .i64 a, .int .i64 b] w fun e w' => e = .returned (.bool (decide (keyI a < keyI b))) ∧ Below w.heap.size w w' := by
  go_enter Try.func19, Try.ntmps19
  go_wp2
  go_ret
  exact ⟨rfl, Below.refl _ _⟩
end Go.Proofs.Ytebbpgokhelmdaa
