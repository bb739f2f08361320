/- Rests, rows of numbers that came in, order. -/
import Derived.Test.YtebbpgokhelmdaaNil
namespace Go.Proofs.Ytebbpgokhelmdaa
open Go.RowKit Go.Shelf
set_option linter.unusedVariables false
set_option linter.unusedSimpArgs false
attribute [local go_sem ↓] Go.wp_at_zero Go.wp_at_succ
/-- A slice of numbers that came in. -/
def IntRow (w : World) (a : Option Addr) (len cap : Nat) (zs : List Int) : Prop :=
  (a = none ∧ len = 0 ∧ cap = 0 ∧ zs = []) ∨
  ∃ x, a = some x ∧ len ≤ cap ∧ cap ≤ maxLen ∧ zs.length = cap ∧ (∀ i, i < zs.length → w.cell? (x.add i) = some (.int .i64 (zs.getD i 0))) ∧ ∀ n ∈ zs, (Lit.int .i64 n).wf = true
theorem in64_w {n : Int} (h : (Lit.int .i64 n).wf = true) : in64 n := by
  simp [Lit.wf, IntKind.min, IntKind.max, IntKind.bits, IntKind.signed] at h
  unfold in64
  omega
theorem IntRow.row {w : World} {A : Option Addr} {n cap : Nat} {z : List Int} (h : IntRow w A n cap z) : RowOfI w A (z.take n) ∧ (z.take n).length = n ∧ n ≤ cap ∧ cap ≤ 9223372036854775807 := by
  rcases h with ⟨rfl, rfl, rfl, rfl⟩ | ⟨a, rfl, h1, h2, h3, h4, h5⟩
  · exact ⟨fun i x hx => by simp at hx, rfl, Nat.le_refl _, by omega⟩
  · unfold maxLen at h2
    refine ⟨fun i x hx => ?_, by simp; omega, h1, by omega⟩
    have hi : i < z.length := by
      have := (List.getElem?_eq_some_iff.1 hx).1
      simp at this; omega
    have hz : z[i]? = some x := by
      rw [List.getElem?_take] at hx
      split at hx
      · exact hx
      · cases hx
    obtain ⟨b, o, sp⟩ := a
    have h0 := h4 0 (by omega)
    have hb : b < w.heap.size ∧ sp = none := by
      simp only [Addr.add, if_true, World.cell?] at h0
      split at h0
      · rename_i e
        refine ⟨(Array.getElem?_eq_some_iff.1 e).1, ?_⟩
        cases sp with
        | none => rfl
        | some s => simp at h0
      · cases h0
    obtain ⟨hb, rfl⟩ := hb
    have hg := h4 i hi
    rw [add_none, List.getD_eq_getElem?_getD, hz] at hg
    exact ⟨b, o, rfl, hb, in64_w (h5 x (List.mem_of_getElem? hz)), hg⟩
def restI (x n : Int) : Int := (wrap64 (x.tmod n + n)).tmod n
theorem restI_bd (x n : Int) (hn : 0 < n) (hn2 : n ≤ 100000) : 0 ≤ restI x n ∧ restI x n < n := by
  have ha : -n < x.tmod n ∧ x.tmod n < n := by
    rcases Int.le_total 0 x with h | h
    · rw [Int.tmod_eq_emod_of_nonneg h]
      have := Int.emod_nonneg x (show n ≠ 0 by omega)
      have := Int.emod_lt_of_pos x hn
      omega
    · obtain ⟨m, rfl⟩ : ∃ m, x = -m := ⟨-x, by omega⟩
      rw [Int.neg_tmod, Int.tmod_eq_emod_of_nonneg (by omega)]
      have := Int.emod_nonneg m (show n ≠ 0 by omega)
      have := Int.emod_lt_of_pos m hn
      omega
  unfold restI
  generalize x.tmod n = a at *
  rw [IntWalk.wrap64_in _ (by omega), Int.tmod_eq_emod_of_nonneg (by omega)]
  exact ⟨Int.emod_nonneg _ (by omega), Int.emod_lt_of_pos _ hn⟩
set_option maxHeartbeats 1000000 in
theorem rest_any (x n : Int) (w : World) (hx : in64 x) (hn : 0 < n) (hn2 : n ≤ 100000) : Calls Try.prog 9 #[.int .i64 x, .int .i64 n] w fun e w' => e = .returned (.int .i64 (restI x n)) ∧ w = w' := by
  obtain ⟨h1, h2⟩ := hx
  unfold restI
  go_enter Try.func9, Try.ntmps9
  go_wp2
  go_ret
  exact ⟨rfl, rfl⟩

theorem RowOfI.at {w : World} {rb ro : Nat} {xs : List Int} (h : RowOfI w (some ⟨rb, ro, none⟩) xs) {i : Nat} {x : Int} (hx : xs[i]? = some x) : w.cell? ⟨rb, ro + i, none⟩ = some (.int .i64 x) := by
  obtain ⟨b, o, e, -, -, h0⟩ := h i x hx
  cases e
  exact h0
theorem ins_permI (x : Int) : ∀ L : List Int, (ins keyI x L).Perm (x :: L)
  | [] => List.Perm.refl _
  | a :: l => by
    unfold ins
    split
    · exact List.Perm.refl _
    · exact ((ins_permI x l).cons a).trans (List.Perm.swap _ _ _)
theorem ins_sortedI (x : Int) : ∀ L : List Int, L.Pairwise (· ≤ ·) → (ins keyI x L).Pairwise (· ≤ ·)
  | [], _ => by simp [ins]
  | a :: l, h => by
    obtain ⟨h1, h2⟩ := List.pairwise_cons.1 h
    unfold ins
    split
    · rename_i hlt
      unfold keyI at hlt
      refine List.pairwise_cons.2 ⟨fun y hy => ?_, h⟩
      rcases List.mem_cons.1 hy with rfl | hy
      · omega
      · have := h1 y hy; omega
    · rename_i hlt
      unfold keyI at hlt
      refine List.pairwise_cons.2 ⟨fun y hy => ?_, ins_sortedI x l h2⟩
      rcases List.mem_cons.1 ((ins_permI x l).mem_iff.1 hy) with rfl | hy
      · omega
      · exact h1 y hy
theorem fold_sortedI : ∀ (xs L : List Int), L.Pairwise (· ≤ ·) → (xs.foldl (fun L x => ins keyI x L) L).Pairwise (· ≤ ·) ∧ (xs.foldl (fun L x => ins keyI x L) L).Perm (xs ++ L)
  | [], L, h => ⟨h, List.Perm.refl _⟩
  | x :: xs, L, h => by
    obtain ⟨h1, h2⟩ := fold_sortedI xs (ins keyI x L) (ins_sortedI x L h)
    exact ⟨h1, h2.trans (((ins_permI x L).append_left xs).trans List.perm_middle)⟩
theorem allIn_sortedI (xs : List Int) : (allInI xs).Pairwise (· ≤ ·) ∧ (allInI xs).Perm xs := by
  have := fold_sortedI xs [] List.Pairwise.nil
  rwa [List.append_nil] at this
theorem allIn_leastI {xs : List Int} {m : Int} {R : List Int} (h : allInI xs = m :: R) : ∀ x ∈ xs, m ≤ x := by
  obtain ⟨h1, h2⟩ := allIn_sortedI xs
  rw [h] at h1 h2
  intro x hx
  rcases List.mem_cons.1 (h2.mem_iff.2 hx) with rfl | hx
  · omega
  · exact (List.pairwise_cons.1 h1).1 x hx
theorem len_isI {B : Nat} {w : World} {b c : Nat} {X : List Nat} {L : List Int} {n : Int} (h : HsI B w b X c L) (hn : (L.length : Int) = n) : Calls Try.prog 23 #[.pointer (some ⟨b, 0, none⟩)] w fun e w' => e = .returned (.int .i64 n) ∧ w = w' := by
  rw [← hn]
  exact hlenI h
end Go.Proofs.Ytebbpgokhelmdaa
