/- A heap in memory; what goes first. -/
import Derived.Test.YtebbpgokhelmdaaHBase
namespace Go.Proofs.Ytebbpgokhelmdaa
open Go.RowKit
set_option linter.unusedVariables false
set_option linter.unusedSimpArgs false

def keyS (x : ByteArray) : Int := (x.size : Int)
/-- The cells of a thing with its turn. -/
def thS (p : ByteArray × Nat) : List Value := [.string p.1, .int .i64 (p.2 : Int)]
def thCS (l : List (ByteArray × Nat)) : List Value := l.flatMap thS
abbrev lxS (a b : ByteArray × Nat) : Bool := lexB keyS a b
theorem th_lenS (p : ByteArray × Nat) : (thS p).length = 2 := rfl
theorem thC_lenS : ∀ l : List (ByteArray × Nat), (thCS l).length = l.length * 2
  | [] => rfl
  | p :: l => by
    have := thC_lenS l
    rw [thCS, List.flatMap_cons, List.length_append, th_lenS, List.length_cons]
    rw [thCS] at this
    omega
theorem thC_appS (a b : List (ByteArray × Nat)) : thCS (a ++ b) = thCS a ++ thCS b := by simp [thCS]
theorem thC_getS (l : List (ByteArray × Nat)) : ∀ (i : Nat) (p : ByteArray × Nat), l[i]? = some p → ∀ j u, (thS p)[j]? = some u → (thCS l)[i * 2 + j]? = some u := by
  induction l with
  | nil => intro i p h; simp at h
  | cons a r ih =>
    intro i p h j v hv
    have hj : j < 2 := by
      rcases Nat.lt_or_ge j 2 with h | h
      · exact h
      · rw [List.getElem?_eq_none (by rw [th_lenS]; exact h)] at hv; cases hv
    cases i with
    | zero =>
      simp at h; subst h
      rw [Nat.zero_mul, Nat.zero_add, thCS, List.flatMap_cons, List.getElem?_append_left (by rw [th_lenS]; exact hj)]
      exact hv
    | succ i =>
      simp only [List.getElem?_cons_succ] at h
      have := ih i p h j v hv
      rw [thCS, List.flatMap_cons, List.getElem?_append_right (by rw [th_lenS]; omega), th_lenS]
      rw [show (i + 1) * 2 + j - 2 = i * 2 + j by omega]
      exact this
theorem thC_setS (l : List (ByteArray × Nat)) : ∀ (i : Nat) (p : ByteArray × Nat), i < l.length → thCS (l.set i p) = (((thCS l).set (i * 2) (.string p.1)).set (i * 2 + 1) (.int .i64 (p.2 : Int))) := by
  induction l with
  | nil => intro i p h; simp at h
  | cons a r ih =>
    intro i p h
    cases i with
    | zero => simp [thCS, thS]
    | succ i =>
      have := ih i p (by simpa using h)
      rw [List.set_cons_succ, thCS, List.flatMap_cons]
      rw [thCS] at this
      rw [this]
      have e : thCS (a :: r) = thS a ++ thCS r := by simp [thCS]
      rw [e]
      simp only [thS, List.cons_append, List.nil_append, show (i + 1) * 2 = i * 2 + 2 by omega, show ∀ m : Nat, i * 2 + 2 + m = i * 2 + m + 2 by intro m; omega]
      simp [thCS]
theorem thC_takeS (l : List (ByteArray × Nat)) : ∀ m, m ≤ l.length → thCS (l.take m) = (thCS l).take (m * 2) := by
  induction l with
  | nil => intro m h; simp at h; subst h; simp [thCS]
  | cons a r ih =>
    intro m h
    cases m with
    | zero => simp [thCS]
    | succ m =>
      have := ih m (by simpa using h)
      rw [List.take_succ_cons, thCS, List.flatMap_cons]
      rw [thCS] at this
      rw [this]
      have e : thCS (a :: r) = thS a ++ thCS r := by simp [thCS]
      rw [e, List.take_append, th_lenS, show (m + 1) * 2 - 2 = m * 2 by omega, List.take_of_length_le (l := thS a) (by rw [th_lenS]; omega)]

/-- What a thing may be. -/
def okS (x : ByteArray) : Prop := x.size ≤ maxLen
/-- Block b is a heap: v its row, of which c came; l the things. -/
structure HBS (B : Nat) (w : World) (b : Nat) (v : Value) (c : Nat) (l : List (ByteArray × Nat)) : Prop where
  hB : B ≤ b
  is : w.heap[b]? = some (.cells #[.func (.func 21) #[] #[], v, .int .i64 (c : Int)] 83 (0, 0))
  row : w.ownsRow B 85 2 v l.length (thCS l)
  ok : ∀ p ∈ l, okS p.1
  few : ∀ p ∈ l, p.2 < c
  lim : c ≤ 1000000
section
variable {B : Nat} {w w' : World} {b c : Nat} {v : Value} {l : List (ByteArray × Nat)}
theorem HBS.lt (h : HBS B w b v c l) : b < w.heap.size := (Array.getElem?_eq_some_iff.1 h.is).1
theorem HBS.cell (h : HBS B w b v c l) (i : Nat) : w.cell? ⟨b, i, none⟩ = (#[.func (.func 21) #[] #[], v, .int .i64 (c : Int)] : Array Value)[i]? := cell_of_row w b i _ _ _ h.is
theorem HBS.c0 (h : HBS B w b v c l) : w.cell? ⟨b, 0, none⟩ = some (.func (.func 21) #[] #[]) := h.cell 0
theorem HBS.c1 (h : HBS B w b v c l) : w.cell? ⟨b, 1, none⟩ = some v := h.cell 1
theorem HBS.c2 (h : HBS B w b v c l) : w.cell? ⟨b, 2, none⟩ = some (.int .i64 (c : Int)) := h.cell 2
theorem HBS.fz (h : HBS B w b v c l) (i : Nat) : w.frozen? ⟨b, i, none⟩ = false := by simp [World.frozen?, h.is]
theorem HBS.ne (h : HBS B w b v c l) : v.ownBlock ≠ some b := own_ne h.row h.is (by decide)
theorem HBS.kept {X : List Nat} (h : HBS B w b v c l) (hk : Kept X w w') (hx : ∀ k ∈ blk b v, k ∉ X) : HBS B w' b v c l :=
  ⟨h.hB, (hk.block b h.lt (hx b (by simp [blk]))).trans h.is, hk.row h.row (fun g hg => hx g (by simp [blk, hg])), h.ok, h.few, h.lim⟩
theorem HBS.later (h : HBS B w b v c l) (hb : Below w.heap.size w w') : HBS B w' b v c l := h.kept (Kept.of [] hb) (by simp)
theorem HBS.blk_ge (h : HBS B w b v c l) : ∀ k ∈ blk b v, B ≤ k ∧ k < w.heap.size := by
  intro k hk
  simp only [blk, List.mem_cons] at hk
  rcases hk with rfl | hk
  · exact ⟨h.hB, h.lt⟩
  · exact h.row.lt k (by simpa using hk)
end

theorem run_neq_nilS (fn : Fn) (a b : Array Value) (w : World) : (binOp .neq 53 (.func fn a b) .nilFunc).run Try.prog w = .ok (.bool true) w := by
  have h : ∀ d, (Op.equalIn (d + 1) 53 (.func fn a b) .nilFunc).run Try.prog w = .ok false w := fun d => by simp [Op.equalIn, run_underlying Try.underlying53]
  simp only [binOp]
  simp [Op.equal, Op.maxDepth, h 9999]
theorem run_eql_seqS (fn : Fn) (a b : Array Value) (w : World) : (binOp .eql 115 (.func fn a b) .nilFunc).run Try.prog w = .ok (.bool false) w := by
  have h : ∀ d, (Op.equalIn (d + 1) 115 (.func fn a b) .nilFunc).run Try.prog w = .ok false w := fun d => by simp [Op.equalIn, run_underlying Try.underlying115]
  simp only [binOp]
  simp [Op.equal, Op.maxDepth, h 9999]
set_option maxHeartbeats 1000000 in
theorem less_anyS (a b : ByteArray) (w : World) : Calls Try.prog 21 #[.string a, .string b] w fun e w' => e = .returned (.bool (decide (keyS a < keyS b))) ∧ Below w.heap.size w w' := by
  go_enter Try.func21, Try.ntmps21
  go_wp2
  go_ret
  refine ⟨?_, Below.refl _ _⟩
  simp [keyS]
end Go.Proofs.Ytebbpgokhelmdaa
