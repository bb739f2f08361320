/- TextFree: plain facts. -/
import Derived.Test.YtlelnoalajeihaaDoorFld
import Derived.Test.YtlelnoalajeihaaDoorSet
namespace Go.Proofs.YtlelnoalajeihaaDoor
open Go.RowKit
set_option linter.unusedVariables false

/-- A task's numbers, by field. -/
def numI (t : Ts) : Nat → Int
  | 0 => t.c
  | 1 => t.t
  | 2 => t.d
  | 3 => t.j
  | 4 => t.q
  | _ => t.p
def numF (t : Ts) (k : Nat) : Nat := (numI t k).toNat
/-- Is it left out? -/
def skipB (b8 : Bool) (t : Ts) (k : Nat) : Bool := b8 && ((decide (k = 2) && decide (t.d = t.t)) || ((decide (k = 3) && decide (t.j = 0)) || (decide (k = 4) && decide (t.q = 1))))
def ks (r i : Nat) : List Nat := (List.range i).map fun j => (j + r) % 6
def Ks (b8 : Bool) (t : Ts) (r i : Nat) : List Nat := (ks r i).filter fun k => !skipB b8 t k
theorem Ks_zero (b8 : Bool) (t : Ts) (r : Nat) : Ks b8 t r 0 = [] := rfl
theorem Ks_skip {b8 : Bool} {t : Ts} {r i : Nat} (h : skipB b8 t ((i + r) % 6) = true) : Ks b8 t r (i + 1) = Ks b8 t r i := by
  simp [Ks, ks, List.range_succ, List.filter_append, h]
theorem Ks_go {b8 : Bool} {t : Ts} {r i : Nat} (h : skipB b8 t ((i + r) % 6) = false) : Ks b8 t r (i + 1) = Ks b8 t r i ++ [(i + r) % 6] := by
  simp [Ks, ks, List.range_succ, List.filter_append, h]
theorem ks_nodup : ∀ r, r < 6 → (ks r 6).Nodup := by decide +kernel
theorem ks_mem : ∀ r, r < 6 → ∀ k, k < 6 → k ∈ ks r 6 := by decide +kernel
theorem ks_lt {r k : Nat} (h : k ∈ ks r 6) : k < 6 := by
  simp only [ks, List.mem_map] at h
  obtain ⟨j, _, rfl⟩ := h
  exact Nat.mod_lt _ (by decide)
theorem Ks_mem {b8 : Bool} {t : Ts} {r k : Nat} (hr : r < 6) (hk : k < 6) : k ∈ Ks b8 t r 6 ↔ skipB b8 t k = false := by
  simp [Ks, ks_mem r hr k hk]
theorem body_snoc (num : Nat → Nat) (g : List UInt8) (K : List Nat) (k : Nat) : body num g (K ++ [k]) = body num g K ++ seg k (num k) g := by simp [body]

/-- Lines that say nothing, ahead. -/
def Lead (L : List UInt8) : Prop := ∀ X, ∃ l b, (∀ y ∈ l, y.k = 4) ∧ pcs 0 (L ++ X) = l ++ pcs b X
def Tail (L : List UInt8) : Prop := Stop L ∧ ∀ b, pcs b L = []
theorem lead_nil : Lead [] := fun X => ⟨[], 0, by simp, rfl⟩
theorem run_4 (l : List UInt8) : runLen 4 l = 0 := by
  cases l with
  | nil => rfl
  | cons c r => rw [runLen, if_neg (by rw [goes_4]; simp)]
theorem pcs_line (a : Nat) (X : List UInt8) : pcs a (10 :: X) = ⟨4, a, [10], 0⟩ :: pcs (a + 1) X := by
  have h : kind 10 = 4 := by decide +kernel
  rw [pcs_tok (by rw [h]; decide), h, run_4, tkOf, h, run_4]
  rfl
theorem lead_note : Lead [10, 32, 35, 32, 116, 97, 115, 107, 10] := by
  intro X
  have hn : noteLen (32 :: 116 :: 97 :: 115 :: 107 :: 10 :: X) = 5 := by simp [noteLen]
  refine ⟨[⟨4, 0, [10], 0⟩, ⟨4, 8, [10], 0⟩], 9, by simp, ?_⟩
  show pcs 0 (10 :: 32 :: 35 :: 32 :: 116 :: 97 :: 115 :: 107 :: 10 :: X) = _
  rw [pcs_line, pcs_blank (by rfl), pcs_hash (by rfl), hn]
  show _ :: pcs 8 (10 :: X) = _
  rw [pcs_line]
  rfl
theorem tail_nil : Tail [] := ⟨Stop.nil, fun b => pcs_nil b⟩
theorem tail_note : Tail [35, 32, 99, 61, 57] := ⟨Stop.cons _ (by decide), fun b => by
  have hn : noteLen [32, 99, 61, 57] = 4 := by simp [noteLen]
  rw [pcs_hash (by rfl), hn]
  exact pcs_nil _⟩
theorem tasks_lead : ∀ (l : List Tk), (∀ y ∈ l, y.k = 4) → ∀ Z, tasksS (l ++ Z) = tasksS Z
  | [], _, Z => rfl
  | x :: l, h, Z => by rw [List.cons_append, tasksS_line (h x (by simp)), tasks_lead l (fun y hy => h y (by simp [hy])) Z]
/-- Small numbers, none below 0. -/
def Few (t : Ts) : Prop := ∀ k, k < 6 → 0 ≤ numI t k ∧ numI t k ≤ 100
theorem few_of {i : Nat} {t : Ts} (h : SF i t) (h1 : 1 ≤ t.p) (h8 : t.p ≤ 8) : Few t := by
  obtain ⟨_, a, b, c, d, e, f, g, p, q⟩ := h
  intro k hk
  rcases (by omega : k = 0 ∨ k = 1 ∨ k = 2 ∨ k = 3 ∨ k = 4 ∨ k = 5) with rfl | rfl | rfl | rfl | rfl | rfl <;> (simp only [numI]; omega)
theorem numF_is {t : Ts} (h : Few t) {k : Nat} (hk : k < 6) : ((numF t k : Nat) : Int) = numI t k := by
  have := (h k hk).1
  unfold numF
  omega
theorem numF_le {t : Ts} (h : Few t) {k : Nat} (hk : k < 6) : numF t k ≤ 1099511627776 := by
  have := h k hk
  unfold numF
  omega
theorem task_back {t : Ts} {c : UInt8} {r : List UInt8} (hn : t.n = bs (c :: r)) (hF : Few t) {b8 : Bool} {R : Nat} (hR : R < 6) : taskOf (c :: r) (fun i => if i ∈ Ks b8 t R 6 then some (numF t i) else none) = t := by
  have f : ∀ k, k < 6 → fv (fun i => if i ∈ Ks b8 t R 6 then some (numF t i) else none) k = if skipB b8 t k = false then numI t k else 0 := fun k hk => by
    unfold fv
    simp only [Ks_mem hR hk]
    split
    · exact numF_is hF hk
    · rfl
  have g : ∀ k, k < 6 → ((if k ∈ Ks b8 t R 6 then some (numF t k) else none : Option Nat).isNone = true ↔ skipB b8 t k = true) := fun k hk => by
    simp only [Ks_mem hR hk]
    cases h : skipB b8 t k <;> simp
  unfold taskOf
  simp only [f 0 (by omega), f 1 (by omega), f 2 (by omega), f 3 (by omega), f 4 (by omega), f 5 (by omega), g 2 (by omega), g 4 (by omega)]
  obtain ⟨n, tc, tt, td, tj, tq, tp⟩ := t
  simp only at hn
  subst hn
  cases b8 with
  | false => simp [skipB, numI]
  | true =>
    by_cases e2 : td = tt <;> by_cases e3 : tj = 0 <;> by_cases e4 : tq = 1 <;> simp [skipB, numI, e2, e3, e4]
theorem free_reads {L tl g : List UInt8} {t : Ts} {c : UInt8} {r : List UInt8} (hk : kind c = 1) (hr : runLen 1 r = r.length) (hn : t.n = bs (c :: r)) (hF : Few t) (hL : Lead L) (ht : Tail tl) (hg : Gap g) {b8 : Bool} {R : Nat} (hR : R < 6) {s : ByteArray}
    (hs : s = bs (L ++ ([116, 97, 115, 107, 32] ++ ((c :: r) ++ (body (numF t) g (Ks b8 t R 6) ++ tl))))) : readS s = ([t], s.size, 0) := by
  have h0 : 0 ∈ Ks b8 t R 6 := (Ks_mem hR (by omega)).2 (by simp [skipB])
  have h1 : 1 ∈ Ks b8 t R 6 := (Ks_mem hR (by omega)).2 (by simp [skipB])
  have h5 : 5 ∈ Ks b8 t R 6 := (Ks_mem hR (by omega)).2 (by simp [skipB])
  have hnd : (Ks b8 t R 6).Nodup := (ks_nodup R hR).filter _
  have hlt : ∀ i ∈ Ks b8 t R 6, i < 6 := fun i hi => ks_lt (List.mem_filter.1 hi).1
  have hb := task_back (b8 := b8) hn hF hR
  generalize Ks b8 t R 6 = K at *
  obtain ⟨k, K', rfl⟩ : ∃ k K', K = k :: K' := by
    cases K with
    | nil => simp at h0
    | cons k K' => exact ⟨k, K', rfl⟩
  obtain ⟨l, b, hl, e1⟩ := hL ([116, 97, 115, 107, 32] ++ ((c :: r) ++ (body (numF t) g (k :: K') ++ tl)))
  obtain ⟨x, y, T, b', e2, x1, x2, y1, y2, hT, e3⟩ := line_pcs hk hr hg hnd (fun i hi => ⟨hlt i hi, numF_le hF (hlt i hi)⟩) b tl ht.1
  have hp : pieceL s = l ++ (x :: y :: T) := by
    rw [pieceL, hs, bs_toList, e1, e2, ht.2 b', List.append_nil]
  have hbad : badP s = none := badP_none (fun z hz => by
    rw [hp] at hz
    rcases List.mem_append.1 hz with hz | hz
    · rw [hl z hz]; decide
    · simp only [List.mem_cons] at hz
      rcases hz with rfl | rfl | hz
      · omega
      · omega
      · exact hT z hz)
  have hfull : full (fun i => if i ∈ k :: K' then some (numF t i) else none) = true := by simp [full, h0, h1, h5]
  have hf : fieldsS (T ++ [endTk s.size]) fnone = (true, (fun i => if i ∈ k :: K' then some (numF t i) else none), []) := by
    rw [e3, fieldsS_end rfl hfull]
  have ha : allS s = ([t], []) := by
    rw [allS, lexT_none hbad, hp, List.append_assoc, tasks_lead l hl]
    have := tasksS_ok (x := x) (y := y) (by omega) x2 y1 hf
    rw [tasksS_nil, y2, hb] at this
    exact this
  rw [readS_ok hbad ha]
end Go.Proofs.YtlelnoalajeihaaDoor
