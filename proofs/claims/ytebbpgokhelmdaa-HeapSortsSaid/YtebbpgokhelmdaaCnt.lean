/- How often a number is there; rows of strings; order by length; sums. -/
import Derived.Test.YtebbpgokhelmdaaSrt
import Derived.Test.YtebbpgokhelmdaaHHS
namespace Go.Proofs.Ytebbpgokhelmdaa
open Go.RowKit Go.Shelf
set_option linter.unusedVariables false
set_option linter.unusedSimpArgs false
attribute [local go_sem ↓] Go.wp_at_zero Go.wp_at_succ
set_option maxRecDepth 100000 in
set_option maxHeartbeats 4000000 in
theorem count_any (A : Option Addr) (n cap : Nat) (xs : List Int) (x : Int) (w : World) (hR : RowOfI w A xs) (hn : xs.length = n) (h1 : n ≤ 10000) (h2 : n ≤ cap) :
    Calls Try.prog 25 #[.slice A n cap, .int .i64 x] w fun e w' => e = .returned (.int .i64 (xs.count x : Nat)) ∧ w = w' := by
  have RR := Lib.hid hR
  have HN := Lib.hid hn
  have hc := Lib.hid (fun i => Nat.le_trans (List.count_le_length (a := x) (l := xs.take i)) (by rw [List.length_take, hn]; exact Nat.min_le_right _ _) : ∀ i, (xs.take i).count x ≤ n)
  clear hR hn
  go_enter Try.func25, Try.ntmps25
  go_wp2
  go_loopw [5, 6] (fun c i wr => ∃ (k : Nat), k ≤ n ∧ i = .int .i64 k ∧ c = .int .i64 ((xs.take k).count x : Nat) ∧ wr = w) (fun _ i _ => n - (intOf i).toNat)
  case atStart => exact ⟨0, Nat.zero_le _, rfl, by simp, rfl⟩
  case round =>
    obtain ⟨k, hk, rfl, rfl, rfl⟩ := hrel
    have hk0 : (0 : Int) ≤ (k : Int) := by omega
    by_cases hlt : k < n
    · have hi1 : (k : Int) < (n : Int) := by omega
      obtain ⟨y, hy⟩ : ∃ y, xs[k]? = some y := ⟨xs[k]'(by rw [HN.out]; exact hlt), List.getElem?_eq_getElem _⟩
      have hcn := hc.out k
      have ht : (xs.take (k + 1)).count x = (xs.take k).count x + if y = x then 1 else 0 := by
        rw [take_one hy, List.count_append, List.count_singleton]
        simp [beq_iff_eq]
      have HT := Lib.hid ht
      obtain ⟨rb, ro, rfl, hrl, hox, x0⟩ := RR.out k y hy
      clear ht hy
      generalize (xs.take k).count x = c at *
      have hcl : (c : Int) ≤ 10000 := by omega
      have hcz : (0 : Int) ≤ (c : Int) := by omega
      by_cases hyx : y = x
      · subst hyx
        go_wp2
        go_roundw
        case rel => exact ⟨k + 1, by omega, by go_num, by rw [HT.out]; simp, trivial⟩
        case measure => simp [intOf]; omega
      · have hb : (y == x) = false := by simp [hyx]
        go_wp2
        go_roundw
        case rel => exact ⟨k + 1, by omega, by go_num, by rw [HT.out]; simp [hyx], trivial⟩
        case measure => simp [intOf]; omega
    · obtain rfl : k = n := by omega
      have ht := Lib.hid (show xs.take k = xs from List.take_of_length_le (by rw [HN.out]; exact Nat.le_refl _))
      generalize hcc : (xs.take k).count x = c at *
      go_wp2
      go_ret
      refine ⟨?_, rfl⟩
      rw [← hcc, ht.out]
      rfl
/-- A slice of strings that came in. -/
def StrRow (w : World) (a : Option Addr) (len cap : Nat) (zs : List ByteArray) : Prop :=
  (a = none ∧ len = 0 ∧ cap = 0 ∧ zs = []) ∨
  ∃ x, a = some x ∧ len ≤ cap ∧ cap ≤ maxLen ∧ zs.length = cap ∧ (∀ i, i < zs.length → w.cell? (x.add i) = some (.string (zs.getD i ByteArray.empty))) ∧ ∀ s ∈ zs, s.size ≤ maxLen
theorem StrRow.row {w : World} {A : Option Addr} {n cap : Nat} {z : List ByteArray} (h : StrRow w A n cap z) : RowOfS w A (z.take n) ∧ (z.take n).length = n ∧ n ≤ cap ∧ cap ≤ 9223372036854775807 := by
  rcases h with ⟨rfl, rfl, rfl, rfl⟩ | ⟨a, rfl, h1, h2, h3, h4, h5⟩
  · exact ⟨fun i x hx => by simp at hx, rfl, Nat.le_refl _, by omega⟩
  · unfold maxLen at h2
    refine ⟨fun i x hx => ?_, by simp; omega, h1, by omega⟩
    have hi : i < z.length := by
      have := (List.getElem?_eq_some_iff.1 hx).1
      simp at this; omega
    have hz : z[i]? = some x := by
      rw [List.getElem?_take] at hx
      split at hx
      · exact hx
      · cases hx
    obtain ⟨b, o, sp⟩ := a
    have h0 := h4 0 (by omega)
    have hb : b < w.heap.size ∧ sp = none := by
      simp only [Addr.add, if_true, World.cell?] at h0
      split at h0
      · rename_i e
        refine ⟨(Array.getElem?_eq_some_iff.1 e).1, ?_⟩
        cases sp with
        | none => rfl
        | some s => simp at h0
      · cases h0
    obtain ⟨hb, rfl⟩ := hb
    have hg := h4 i hi
    rw [add_none, List.getD_eq_getElem?_getD, hz] at hg
    exact ⟨b, o, rfl, hb, h5 x (List.mem_of_getElem? hz), hg⟩
theorem ins_permS (x : ByteArray) : ∀ L : List ByteArray, (ins keyS x L).Perm (x :: L)
  | [] => List.Perm.refl _
  | a :: l => by
    unfold ins
    split
    · exact List.Perm.refl _
    · exact ((ins_permS x l).cons a).trans (List.Perm.swap _ _ _)
theorem ins_sortedS (x : ByteArray) : ∀ L : List ByteArray, L.Pairwise (fun a b => keyS a ≤ keyS b) → (ins keyS x L).Pairwise (fun a b => keyS a ≤ keyS b)
  | [], _ => by simp [ins]
  | a :: l, h => by
    obtain ⟨h1, h2⟩ := List.pairwise_cons.1 h
    unfold ins
    split
    · rename_i hlt
      refine List.pairwise_cons.2 ⟨fun y hy => ?_, h⟩
      rcases List.mem_cons.1 hy with rfl | hy
      · omega
      · have := h1 y hy; omega
    · rename_i hlt
      refine List.pairwise_cons.2 ⟨fun y hy => ?_, ins_sortedS x l h2⟩
      rcases List.mem_cons.1 ((ins_permS x l).mem_iff.1 hy) with rfl | hy
      · omega
      · exact h1 y hy
theorem fold_sortedS : ∀ (xs L : List ByteArray), L.Pairwise (fun a b => keyS a ≤ keyS b) → (xs.foldl (fun L x => ins keyS x L) L).Pairwise (fun a b => keyS a ≤ keyS b) ∧ (xs.foldl (fun L x => ins keyS x L) L).Perm (xs ++ L)
  | [], L, h => ⟨h, List.Perm.refl _⟩
  | x :: xs, L, h => by
    obtain ⟨h1, h2⟩ := fold_sortedS xs (ins keyS x L) (ins_sortedS x L h)
    exact ⟨h1, h2.trans (((ins_permS x L).append_left xs).trans List.perm_middle)⟩
theorem allIn_sortedS (xs : List ByteArray) : (allInS xs).Pairwise (fun a b => keyS a ≤ keyS b) ∧ (allInS xs).Perm xs := by
  have := fold_sortedS xs [] List.Pairwise.nil
  rwa [List.append_nil] at this
theorem wrap_add (a b : Int) : wrap64 (wrap64 a + b) = wrap64 (a + b) := by unfold wrap64; omega
theorem wrap_sub (a b : Int) : wrap64 (wrap64 a - b) = wrap64 (a - b) := by unfold wrap64; omega
theorem perm_sum {a b : List Int} (h : a.Perm b) : a.sum = b.sum := by
  induction h with
  | nil => rfl
  | cons x _ ih => simp [ih]
  | swap x y l => simp; omega
  | trans _ _ h1 h2 => exact h1.trans h2
theorem len_isS {B : Nat} {w : World} {b c : Nat} {X : List Nat} {L : List ByteArray} {n : Int} (h : HsS B w b X c L) (hn : (L.length : Int) = n) : Calls Try.prog 27 #[.pointer (some ⟨b, 0, none⟩)] w fun e w' => e = .returned (.int .i64 n) ∧ w = w' := by
  rw [← hn]
  exact hlenS h
theorem RowOfI.take {w : World} {A : Option Addr} {xs : List Int} (h : RowOfI w A xs) (m : Nat) : RowOfI w A (xs.take m) := fun i x hx => h i x (by
  rw [List.getElem?_take] at hx
  split at hx
  · exact hx
  · cases hx)
theorem RowOfS.take {w : World} {A : Option Addr} {xs : List ByteArray} (h : RowOfS w A xs) (m : Nat) : RowOfS w A (xs.take m) := fun i x hx => h i x (by
  rw [List.getElem?_take] at hx
  split at hx
  · exact hx
  · cases hx)
end Go.Proofs.Ytebbpgokhelmdaa
