/- The iterator All. -/
import Derived.Test.YtgcchmenadgboaaFRst
import Derived.Test.YtgcchmenadgboaaFRng
namespace Go.Proofs.Ytgcchmenadgboaa
open Go.RowKit Go.Shelf
set_option linter.unusedVariables false
set_option linter.unusedSimpArgs false
attribute [local go_sem] Oper.semAt_some

section
attribute [local go_sem ↓] Go.wp_at_zero Go.wp_at_succ
set_option maxHeartbeats 1000000 in
theorem all_any (p : Option Addr) (w : World) : Calls Try.prog 22 #[.pointer p] w fun e w' => e = .returned (.func (.func 33) #[] #[.pointer (some ⟨w.heap.size, 0, none⟩)]) ∧ w' = w.alloc (.cells #[.pointer p] 24) := by
  go_enter Try.func22, Try.ntmps22
  go_wp2
  go_ret
  exact ⟨rfl, rfl⟩
end
/-- The things, with how many are ahead. -/
def prs (L : List Int) : List (Int × Nat) := L.zipIdx
theorem prs_len (L : List Int) : (prs L).length = L.length := by simp [prs]
theorem prs_get {L : List Int} {k : Nat} {x : Int} (h : L[k]? = some x) : prs L = (prs L).take k ++ (x, k) :: (prs L).drop (k + 1) := by
  have hk := (List.getElem?_eq_some_iff.1 h).1
  have h2 := (List.getElem?_eq_some_iff.1 h).2
  have e : (prs L)[k]'(by rw [prs_len]; exact hk) = (x, k) := by simp [prs, h2]
  rw [← e, ← List.drop_eq_getElem_cons, List.take_append_drop]
/-- The iterator's own row. -/
def RowK (X : List Nat) (A : Option Addr) (L : List Int) (W : World) : Prop := (A = none ∧ L = []) ∨ ∃ g cur, A = some ⟨g, 0, none⟩ ∧ g ∉ X ∧ W.heap[g]? = some (.cells cur 3 (0, 0)) ∧ ∀ (i : Nat) (x : Int), L[i]? = some x → cur[i]? = some (Value.int .i64 x)
theorem RowK.keep {X : List Nat} {A : Option Addr} {L : List Int} {W W' : World} (h : RowK X A L W) (hk : KeepC X W W') : RowK X A L W' := by
  rcases h with h | ⟨g, cur, h1, h2, h3, h4⟩
  · exact .inl h
  · exact .inr ⟨g, cur, h1, h2, hk.block g _ _ _ h2 h3, h4⟩
theorem RowK.of {X : List Nat} {L : List Int} {w : World} {B : Nat} {v : Value} (h : w.ownsRow B 3 1 v L.length (clI L)) (hX : ∀ k ∈ X, k < B) : ∃ A c, v = .slice A L.length c ∧ RowK X A L w := by
  rcases h.2 with ⟨rfl, h0⟩ | ⟨g, cap, cur, rfl, hb, hg, _, _, _, ht⟩
  · exact ⟨none, 0, by rw [h0], .inl ⟨rfl, List.eq_nil_of_length_eq_zero h0⟩⟩
  · refine ⟨_, cap, rfl, .inr ⟨g, cur, rfl, fun hm => (by have := hX g hm; omega), hg, fun i x hx => ?_⟩⟩
    have hil := (List.getElem?_eq_some_iff.1 hx).1
    have h1 := cl_getI hx
    rw [← ht, List.getElem?_take, if_pos (by omega), Array.getElem?_toList] at h1
    exact h1
theorem RowK.get {X : List Nat} {A : Option Addr} {L : List Int} {W : World} {k : Nat} {x : Int} (h : RowK X A L W) (hx : L[k]? = some x) : ∃ g, A = some ⟨g, 0, none⟩ ∧ W.cell? ⟨g, k, none⟩ = some (.int .i64 x) := by
  rcases h with ⟨_, rfl⟩ | ⟨g, cur, rfl, h2, h3, h4⟩
  · simp at hx
  · exact ⟨g, rfl, by rw [cell_of_row W g k _ _ _ h3]; exact h4 k x hx⟩
set_option maxRecDepth 100000 in
set_option maxHeartbeats 4000000 in
theorem all_seq (n : Nat) (hn1 : 1 ≤ n) (p : Option Addr) (Bn : Nat) (X : List Nat) (L : List Int) (w0 : World) (hl : L.length ≤ 1000000) (hbox : Boxed w0 Bn 24 (.pointer p)) (TH : ∀ W, Below w0.heap.size w0 W → Calls Try.prog 25 #[.pointer p] W (RowPI W W.heap.size L.length L)) (hX : ∀ k ∈ X, k < w0.heap.size) :
    SeqA (fun x : Int × Nat => #[.int .i64 (x.2 : Int), .int .i64 x.1]) n 33 #[.pointer (some ⟨Bn, 0, none⟩)] X (prs L) w0 := by
  intro l J Jx W hW hJB hY hJ
  have b1 : W.cell? ⟨Bn, 0, none⟩ = some (.pointer p) := by
    have : Boxed W Bn 24 (.pointer p) := (hW.block Bn hbox.lt).trans hbox
    exact this.cell
  have PN := Lib.hid (TH W hW)
  have hXW : ∀ k ∈ X, k < W.heap.size := fun k hk => Nat.lt_of_lt_of_le (hX k hk) hW.size
  have HY := Lib.hid hY
  have HJ := Lib.hid hJ
  have HB := Lib.hid hJB
  have HX := Lib.hid hXW
  obtain ⟨m, hm⟩ : ∃ m, L.length = m := ⟨_, rfl⟩
  have HM := Lib.hid hm
  rw [hm] at hl
  clear TH hW hbox hJB hY hJ hX hXW hm
  refine callsIn_of_wp Try.func33 rfl trivial ?_ rfl
  simp only [Try.ntmps33, List.size_toArray, List.length_cons, List.length_nil, Nat.reduceAdd, Nat.reduceSub, Array.replicate_succ, Array.replicate_zero, List.push_toArray, List.append_toArray, List.nil_append, List.cons_append]
  gi_wp2_with (refine ⟨trivial, ?_⟩; gi_at_call 25; refine (callsIn_wide.2 PN.out).mono ?_; rintro e w1 ⟨v, rfl, ho, hB1⟩; obtain ⟨A, c, rfl, hR⟩ := RowK.of ho HX.out; have HR := Lib.hid hR; have HJ1 := Lib.hid (HB.out _ _ _ HJ.out hB1); rw [HM.out]; clear ho hR)
  gi_loopw [8] (fun i wr => ∃ (k : Nat), k ≤ m ∧ i = .int .i64 k ∧ Hid (J ((prs L).take k) wr) ∧ Hid (RowK X A L wr)) (fun i _ => m - (intOf i).toNat)
  case atStart => exact ⟨0, by omega, rfl, HJ1, HR⟩
  case round =>
    obtain ⟨k, hk, rfl, hJ2, hR2⟩ := hrel
    clear HJ1 HR
    by_cases hlt : k < m
    · obtain ⟨x, hx⟩ : ∃ x, L[k]? = some x := ⟨L[k]'(by rw [HM.out]; exact hlt), List.getElem?_eq_getElem _⟩
      obtain ⟨g, rfl, x0⟩ := hR2.out.get hx
      have hpr := prs_get hx
      have hi1 : (k : Int) < (m : Int) := by omega
      have hi0 : (0 : Int) ≤ (k : Int) := by omega
      obtain ⟨fn, tmps, assign, body, hy, hRd⟩ := HY.out _ (x, k) _ wr hJ2.out hpr
      have e1 : (prs L).take k ++ [(x, k)] = (prs L).take (k + 1) := by
        have hkl : k < (prs L).length := by rw [prs_len, HM.out]; exact hlt
        have : (prs L)[k]? = some (x, k) := by
          have h2 := (List.getElem?_eq_some_iff.1 hx).2
          rw [List.getElem?_eq_getElem hkl]; simp [prs, h2]
        rw [List.take_add_one, this]; rfl
      have E1 := Lib.hid e1
      have HP := Lib.hid hpr
      dsimp only at hy
      clear hx hpr e1
      gi_wp2
      refine hRd.mono ?_
      rintro e W3 (⟨rfl, hJ3, hk3⟩ | ⟨rfl, hJx3⟩)
      · have HR3 := Lib.hid (hR2.out.keep hk3)
        rw [E1.out] at hJ3
        have HJ3 := Lib.hid hJ3
        clear hJ3 hk3
        gi_wp2
        go_roundw
        case rel => exact ⟨k + 1, by omega, by go_num, HJ3, HR3⟩
        case measure => simp [intOf]; omega
      · gi_wp2
        refine bodyPost_ret (results_none rfl _ _ _) rfl ?_
        exact ⟨⟨_, rfl⟩, .inr ⟨_, (x, k), _, HP.out, hJx3⟩⟩
    · obtain rfl : k = m := by omega
      gi_wp2
      go_end0
      refine ⟨⟨_, rfl⟩, .inl ?_⟩
      have := hJ2.out
      rwa [List.take_of_length_le (by rw [prs_len, HM.out]; exact Nat.le_refl _)] at this
end Go.Proofs.Ytgcchmenadgboaa
