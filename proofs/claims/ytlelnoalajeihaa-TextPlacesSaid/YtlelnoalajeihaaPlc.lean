/- places: where a text is refused. -/
import Derived.Test.YtlelnoalajeihaaCut
import Derived.Test.YtlelnoalajeihaaRRead
import Derived.Test.YtlelnoalajeihaaLaw0
namespace Go.Proofs.Ytlelnoalajeihaa
open Go.RowKit
set_option linter.unusedVariables false
set_option linter.unusedSimpArgs false

theorem pcs_places : ∀ (n a : Nat) (l : List UInt8), l.length ≤ n → ∀ y ∈ pcs a l, y.at' < a + l.length ∧ (y.k = 4 → ∃ u v, l = u ++ 10 :: v ∧ a + u.length = y.at') := by
  intro n
  induction n with
  | zero => intro a l h y hy; have : l = [] := List.eq_nil_of_length_eq_zero (by omega); subst this; rw [pcs_nil] at hy; simp at hy
  | succ n ih =>
    intro a l h y hy
    cases l with
    | nil => rw [pcs_nil] at hy; simp at hy
    | cons c r =>
      simp only [List.length_cons] at h ⊢
      have hgo : ∀ m, m ≤ r.length → y ∈ pcs (a + 1 + m) (r.drop m) → y.at' < a + (r.length + 1) ∧ (y.k = 4 → ∃ u v, c :: r = u ++ 10 :: v ∧ a + u.length = y.at') := by
        intro m hm hy
        obtain ⟨h1, h2⟩ := ih (a + 1 + m) (r.drop m) (by simp; omega) y hy
        rw [List.length_drop] at h1
        refine ⟨by omega, fun h4 => ?_⟩
        obtain ⟨u, v, e, hu⟩ := h2 h4
        refine ⟨c :: r.take m ++ u, v, ?_, ?_⟩
        · rw [List.cons_append, List.cons_append, List.append_assoc, ← e, List.take_append_drop]
        · simp [List.length_take]; omega
      by_cases hb : blank c = true
      · rw [pcs_blank hb] at hy
        exact hgo 0 (by omega) (by simpa using hy)
      · by_cases h35 : c.toNat = 35
        · rw [pcs_hash h35] at hy
          by_cases hm : noteLen r ≤ r.length
          · exact hgo _ hm hy
          · rw [List.drop_of_length_le (by omega), pcs_nil] at hy
            simp at hy
        · by_cases hk : kind c = 0
          · rw [pcs_none (by simpa using hb) h35 hk, List.mem_singleton] at hy
            subst hy
            exact ⟨by show a < _; omega, fun h => by cases h⟩
          · rw [pcs_tok hk, List.mem_cons] at hy
            rcases hy with rfl | hy
            · refine ⟨by show a < _; omega, fun h4 => ⟨[], r, ?_, rfl⟩⟩
              have h4 : kind c = 4 := h4
              unfold kind at h4
              have : c.toNat = 10 := by
                by_cases g1 : ltr c = true
                · rw [if_pos g1] at h4; omega
                · rw [if_neg g1] at h4
                  by_cases g2 : dgt c = true
                  · rw [if_pos g2] at h4; omega
                  · rw [if_neg g2] at h4
                    by_cases g3 : c.toNat = 61
                    · rw [if_pos g3] at h4; omega
                    · rw [if_neg g3] at h4
                      by_cases g4 : c.toNat = 10
                      · exact g4
                      · rw [if_neg g4] at h4; omega
              have : c = 10 := UInt8.toNat_inj.1 this
              rw [this]; rfl
            · exact hgo _ (runLen_le _ _) hy
theorem piece_ok {s : ByteArray} (h : badP s = none) : ∀ y ∈ pieceL s, y.k ≠ 0 := by
  rw [badP, List.find?_eq_none] at h
  intro y hy
  simpa using h y hy
theorem allS_none {s : ByteArray} (h : badP s = none) : allS s = tasksS (pieceL s ++ [endTk s.size]) := by rw [allS, lexT_none h]
theorem ends_snoc (P : List Tk) {z : Tk} (h : z.k = 4) : Ends (P ++ [z]) := ⟨P, z, rfl, h⟩
theorem read_cases {s : ByteArray} (hb : badP s = none) : ((readS s).2.2 = 0 ∧ (readS s).2.1 = s.size) ∨ ((readS s).1 = [] ∧ (readS s).2.2 = 10 ∧ ∃ x, x ∈ pieceL s ++ [endTk s.size] ∧ (readS s).2.1 = x.at') := by
  have ha := allS_none hb
  rcases tasks_cut _ (pieceL s ++ [endTk s.size]) (Nat.le_refl _) (.inr (ends_snoc _ rfl)) with ⟨l, hl⟩ | ⟨l, x, X3, ⟨pre, hp⟩, hl⟩
  · have := hl []
    rw [List.append_nil, ← ha, tasksS_nil] at this
    rw [readS_ok hb this]
    exact .inl ⟨rfl, rfl⟩
  · have := hl []
    rw [List.append_nil, ← ha] at this
    rw [readS_no hb this]
    exact .inr ⟨rfl, rfl, x, by rw [hp]; simp, rfl⟩
theorem cut_reads {s : ByteArray} (hb : badP s = none) {z : Tk} (hz : z ∈ pieceL s) (h4 : z.k = 4) (he : (readS s).2.2 ≠ 0) (hlt : z.at' < (readS s).2.1) : (readS (s.extract 0 (z.at' + 1))).2.2 = 0 := by
  have hok := piece_ok hb
  obtain ⟨-, h2⟩ := pcs_places _ 0 s.data.toList (Nat.le_refl _) z hz
  obtain ⟨u, v, hs, hu⟩ := h2 h4
  rw [Nat.zero_add] at hu
  have hp : pieceL s = pcs 0 (u ++ 10 :: v) := by rw [pieceL, hs]
  obtain ⟨P, g1, g2, g3⟩ := pcs_cut _ 0 u v (Nat.le_refl _) (by rw [← hp]; exact hok)
  rw [Nat.zero_add] at g1 g2 g3
  have hX : pieceL s = (P ++ [⟨4, u.length, [10], 0⟩]) ++ pcs (u.length + 1) v := by rw [hp, g2]; simp
  have hs' : (s.extract 0 (z.at' + 1)).data.toList = u ++ [10] := by
    rw [ByteArray.data_extract, Array.toList_extract, hs, ← hu]
    simp only [List.extract, Nat.sub_zero, List.drop_zero]
    rw [show u ++ 10 :: v = (u ++ [10]) ++ v by simp]
    exact List.take_left' (by simp)
  have hp' : pieceL (s.extract 0 (z.at' + 1)) = P ++ [⟨4, u.length, [10], 0⟩] := by rw [pieceL, hs', g1]
  have hb' : badP (s.extract 0 (z.at' + 1)) = none := badP_none (fun y hy => hok y (by rw [hX]; rw [hp'] at hy; exact List.mem_append_left _ hy))
  have hE : Ends (P ++ [(⟨4, u.length, [10], 0⟩ : Tk)]) := ends_snoc _ rfl
  rcases tasks_cut _ _ (Nat.le_refl _) (.inr hE) with ⟨l, hl⟩ | ⟨l, x, X3, ⟨pre, hq⟩, hl⟩
  · have h := hl [endTk (s.extract 0 (z.at' + 1)).size]
    rw [tasksS_line rfl, tasksS_nil, ← hp', ← allS_none hb'] at h
    rw [readS_ok hb' h]
  · have h := hl (pcs (u.length + 1) v ++ [endTk s.size])
    rw [← List.append_assoc, ← hX, ← allS_none hb] at h
    rw [readS_no hb h] at hlt
    have hx : x ∈ P ++ [(⟨4, u.length, [10], 0⟩ : Tk)] := by rw [hq]; simp
    rcases List.mem_append.1 hx with hx | hx
    · have := g3 x hx
      simp only at hlt
      omega
    · obtain rfl := List.mem_singleton.1 hx
      simp only at hlt
      omega
theorem empty_reads (s : ByteArray) : (readS (s.extract 0 0)).2.2 = 0 := by
  have e : (s.extract 0 0).data.toList = [] := by simp
  have hp : pieceL (s.extract 0 0) = [] := by rw [pieceL, e, pcs_nil]
  have hb : badP (s.extract 0 0) = none := badP_none (by rw [hp]; simp)
  have h : allS (s.extract 0 0) = ([], []) := by rw [allS_none hb, hp, List.nil_append, tasksS_line rfl, tasksS_nil]
  rw [readS_ok hb h]
/-- A place that the law's loop finds. -/
def LnOk (ts : List Tk) (at' ln : Nat) : Prop := ln = 0 ∨ ∃ z ∈ ts, z.k = 4 ∧ z.at' < at' ∧ ln = z.at' + 1
/-- All that places asks of the text. -/
theorem places_pure (s : ByteArray) : ((readS s).2.2 = 0 ∧ (readS s).2.1 = s.size) ∨
    ((readS s).1 = [] ∧ (readS s).2.2 = 10 ∧ (readS s).2.1 ≤ s.size ∧ endP s ≤ s.size ∧ (endP s < s.size → (readS s).2.1 = endP s) ∧
      (¬ endP s < s.size → ((readS s).2.1 = s.size ∨ ∃ z ∈ tokL s, z.at' = (readS s).2.1) ∧ ∀ ln, LnOk (tokL s) (readS s).2.1 ln → (readS (s.extract 0 ln)).2.2 = 0)) := by
  cases hb : badP s with
  | some x =>
    have hx := bad_at hb
    rw [readS_bad hb]
    have he : endP s = x.at' := by rw [endP, hb]
    rw [he]
    exact .inr ⟨rfl, rfl, by show x.at' ≤ _; omega, by omega, fun _ => rfl, fun h => by omega⟩
  | none =>
    have he : endP s = s.size := by rw [endP, hb]
    rcases read_cases hb with h | ⟨h1, h2, x, hx, h3⟩
    · exact .inl h
    · rw [he]
      have ht : tokL s = pieceL s := by rw [tok_all hb, lexT_none hb]
      have hle : (readS s).2.1 ≤ s.size := by
        rw [h3]
        rcases List.mem_append.1 hx with hx | hx
        · have := (pcs_places _ 0 s.data.toList (Nat.le_refl _) x hx).1
          rw [← Lib.size_eq] at this
          omega
        · obtain rfl := List.mem_singleton.1 hx
          exact Nat.le_refl _
      refine .inr ⟨h1, h2, hle, Nat.le_refl _, fun h => by omega, fun _ => ⟨?_, fun ln hl => ?_⟩⟩
      · rw [h3, ht]
        rcases List.mem_append.1 hx with hx | hx
        · exact .inr ⟨x, hx, rfl⟩
        · obtain rfl := List.mem_singleton.1 hx
          exact .inl rfl
      · rcases hl with rfl | ⟨z, hz, h4, hlt, rfl⟩
        · exact empty_reads s
        · exact cut_reads hb (by rw [← ht]; exact hz) h4 (by omega) hlt
theorem ln_le {s : ByteArray} {at' ln : Nat} (h : LnOk (tokL s) at' ln) (ha : at' ≤ s.size) : ln ≤ s.size := by
  rcases h with rfl | ⟨z, _, _, h, rfl⟩ <;> omega
end Go.Proofs.Ytlelnoalajeihaa
