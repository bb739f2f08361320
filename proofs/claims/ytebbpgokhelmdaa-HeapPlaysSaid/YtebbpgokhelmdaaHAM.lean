/- A heap in memory; what goes first. -/
import Derived.Test.YtebbpgokhelmdaaHBase
namespace Go.Proofs.Ytebbpgokhelmdaa
open Go.RowKit
set_option linter.unusedVariables false
set_option linter.unusedSimpArgs false

/-- A thing of the document. -/
structure It where
  k : Int
  w : Int
structure It.Wf (x : It) : Prop where
  k : in64 x.k
  w : in64 x.w
def keyM (x : It) : Int := x.k
/-- The cells of a thing with its turn. -/
def thM (p : It × Nat) : List Value := [.int .i64 (p.1).k, .int .i64 (p.1).w, .int .i64 (p.2 : Int)]
def thCM (l : List (It × Nat)) : List Value := l.flatMap thM
abbrev lxM (a b : It × Nat) : Bool := lexB keyM a b
theorem th_lenM (p : It × Nat) : (thM p).length = 3 := rfl
theorem thC_lenM : ∀ l : List (It × Nat), (thCM l).length = l.length * 3
  | [] => rfl
  | p :: l => by
    have := thC_lenM l
    rw [thCM, List.flatMap_cons, List.length_append, th_lenM, List.length_cons]
    rw [thCM] at this
    omega
theorem thC_appM (a b : List (It × Nat)) : thCM (a ++ b) = thCM a ++ thCM b := by simp [thCM]
theorem thC_getM (l : List (It × Nat)) : ∀ (i : Nat) (p : It × Nat), l[i]? = some p → ∀ j u, (thM p)[j]? = some u → (thCM l)[i * 3 + j]? = some u := by
  induction l with
  | nil => intro i p h; simp at h
  | cons a r ih =>
    intro i p h j v hv
    have hj : j < 3 := by
      rcases Nat.lt_or_ge j 3 with h | h
      · exact h
      · rw [List.getElem?_eq_none (by rw [th_lenM]; exact h)] at hv; cases hv
    cases i with
    | zero =>
      simp at h; subst h
      rw [Nat.zero_mul, Nat.zero_add, thCM, List.flatMap_cons, List.getElem?_append_left (by rw [th_lenM]; exact hj)]
      exact hv
    | succ i =>
      simp only [List.getElem?_cons_succ] at h
      have := ih i p h j v hv
      rw [thCM, List.flatMap_cons, List.getElem?_append_right (by rw [th_lenM]; omega), th_lenM]
      rw [show (i + 1) * 3 + j - 3 = i * 3 + j by omega]
      exact this
theorem thC_setM (l : List (It × Nat)) : ∀ (i : Nat) (p : It × Nat), i < l.length → thCM (l.set i p) = ((((thCM l).set (i * 3) (.int .i64 p.1.k)).set (i * 3 + 1) (.int .i64 p.1.w)).set (i * 3 + 2) (.int .i64 (p.2 : Int))) := by
  induction l with
  | nil => intro i p h; simp at h
  | cons a r ih =>
    intro i p h
    cases i with
    | zero => simp [thCM, thM]
    | succ i =>
      have := ih i p (by simpa using h)
      rw [List.set_cons_succ, thCM, List.flatMap_cons]
      rw [thCM] at this
      rw [this]
      have e : thCM (a :: r) = thM a ++ thCM r := by simp [thCM]
      rw [e]
      simp only [thM, List.cons_append, List.nil_append, show (i + 1) * 3 = i * 3 + 3 by omega, show ∀ m : Nat, i * 3 + 3 + m = i * 3 + m + 3 by intro m; omega]
      simp [thCM]
theorem thC_takeM (l : List (It × Nat)) : ∀ m, m ≤ l.length → thCM (l.take m) = (thCM l).take (m * 3) := by
  induction l with
  | nil => intro m h; simp at h; subst h; simp [thCM]
  | cons a r ih =>
    intro m h
    cases m with
    | zero => simp [thCM]
    | succ m =>
      have := ih m (by simpa using h)
      rw [List.take_succ_cons, thCM, List.flatMap_cons]
      rw [thCM] at this
      rw [this]
      have e : thCM (a :: r) = thM a ++ thCM r := by simp [thCM]
      rw [e, List.take_append, th_lenM, show (m + 1) * 3 - 3 = m * 3 by omega, List.take_of_length_le (l := thM a) (by rw [th_lenM]; omega)]

/-- What a thing may be. -/
def okM (x : It) : Prop := x.Wf
/-- Block b is a heap: v its row, of which c came; l the things. -/
structure HBM (B : Nat) (w : World) (b : Nat) (v : Value) (c : Nat) (l : List (It × Nat)) : Prop where
  hB : B ≤ b
  is : w.heap[b]? = some (.cells #[.func (.func 12) #[] #[], v, .int .i64 (c : Int)] 70 (0, 0))
  row : w.ownsRow B 76 3 v l.length (thCM l)
  ok : ∀ p ∈ l, okM p.1
  few : ∀ p ∈ l, p.2 < 1000000
  lim : c ≤ 1000000
section
variable {B : Nat} {w w' : World} {b c : Nat} {v : Value} {l : List (It × Nat)}
theorem HBM.lt (h : HBM B w b v c l) : b < w.heap.size := (Array.getElem?_eq_some_iff.1 h.is).1
theorem HBM.cell (h : HBM B w b v c l) (i : Nat) : w.cell? ⟨b, i, none⟩ = (#[.func (.func 12) #[] #[], v, .int .i64 (c : Int)] : Array Value)[i]? := cell_of_row w b i _ _ _ h.is
theorem HBM.c0 (h : HBM B w b v c l) : w.cell? ⟨b, 0, none⟩ = some (.func (.func 12) #[] #[]) := h.cell 0
theorem HBM.c1 (h : HBM B w b v c l) : w.cell? ⟨b, 1, none⟩ = some v := h.cell 1
theorem HBM.c2 (h : HBM B w b v c l) : w.cell? ⟨b, 2, none⟩ = some (.int .i64 (c : Int)) := h.cell 2
theorem HBM.fz (h : HBM B w b v c l) (i : Nat) : w.frozen? ⟨b, i, none⟩ = false := by simp [World.frozen?, h.is]
theorem HBM.ne (h : HBM B w b v c l) : v.ownBlock ≠ some b := own_ne h.row h.is (by decide)
theorem HBM.kept {X : List Nat} (h : HBM B w b v c l) (hk : Kept X w w') (hx : ∀ k ∈ blk b v, k ∉ X) : HBM B w' b v c l :=
  ⟨h.hB, (hk.block b h.lt (hx b (by simp [blk]))).trans h.is, hk.row h.row (fun g hg => hx g (by simp [blk, hg])), h.ok, h.few, h.lim⟩
theorem HBM.later (h : HBM B w b v c l) (hb : Below w.heap.size w w') : HBM B w' b v c l := h.kept (Kept.of [] hb) (by simp)
theorem HBM.blk_ge (h : HBM B w b v c l) : ∀ k ∈ blk b v, B ≤ k ∧ k < w.heap.size := by
  intro k hk
  simp only [blk, List.mem_cons] at hk
  rcases hk with rfl | hk
  · exact ⟨h.hB, h.lt⟩
  · exact h.row.lt k (by simpa using hk)
end

theorem run_neq_nilM (fn : Fn) (a b : Array Value) (w : World) : (binOp .neq 35 (.func fn a b) .nilFunc).run Try.prog w = .ok (.bool true) w := by
  have h : ∀ d, (Op.equalIn (d + 1) 35 (.func fn a b) .nilFunc).run Try.prog w = .ok false w := fun d => by simp [Op.equalIn, run_underlying Try.underlying35]
  simp only [binOp]
  simp [Op.equal, Op.maxDepth, h 9999]
theorem run_eql_seqM (fn : Fn) (a b : Array Value) (w : World) : (binOp .eql 73 (.func fn a b) .nilFunc).run Try.prog w = .ok (.bool false) w := by
  have h : ∀ d, (Op.equalIn (d + 1) 73 (.func fn a b) .nilFunc).run Try.prog w = .ok false w := fun d => by simp [Op.equalIn, run_underlying Try.underlying73]
  simp only [binOp]
  simp [Op.equal, Op.maxDepth, h 9999]
set_option maxHeartbeats 1000000 in
theorem less_anyM (a b : It) (w : World) : Calls Try.prog 12 #[.agg #[.int .i64 (a).k, .int .i64 (a).w], .agg #[.int .i64 (b).k, .int .i64 (b).w]] w fun e w' => e = .returned (.bool (decide (keyM a < keyM b))) ∧ Below w.heap.size w w' := by
  obtain ⟨ak, aw⟩ := a
  obtain ⟨bk, bw⟩ := b
  go_enter Try.func12, Try.ntmps12
  go_wp2
  go_ret
  exact ⟨rfl, ((Below.refl _ _).alloc (Nat.le_refl _) _).alloc (by simp) _⟩
end Go.Proofs.Ytebbpgokhelmdaa
