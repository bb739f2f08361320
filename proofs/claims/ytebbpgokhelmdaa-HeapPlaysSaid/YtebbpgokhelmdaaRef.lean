/- The document's heap. -/
import Derived.Test.YtebbpgokhelmdaaHJM
import Derived.BigQuiet
import Derived.Deep.Upon
namespace Go.Proofs.Ytebbpgokhelmdaa
open Go.RowKit Go.Shelf
set_option linter.unusedVariables false
set_option linter.unusedSimpArgs false
attribute [local go_sem ↓] Go.wp_at_zero Go.wp_at_succ
set_option maxRecDepth 100000
set_option maxHeartbeats 4000000
/-- The document's heap at block bm: it tells L; its blocks are X. -/
structure MH (B : Nat) (w : World) (bm : Nat) (X : List Nat) (L : List It) : Prop where
  ex : ∃ A cap, w.heap[bm]? = some (.cells #[.slice A L.length cap] 28 (0, 0)) ∧ L.length ≤ cap ∧ cap ≤ maxLen ∧ RowOfM w A L ∧
    ((A = none ∧ cap = 0 ∧ X = [bm]) ∨ ∃ b o, A = some ⟨b, o, none⟩ ∧ B ≤ b ∧ b < w.heap.size ∧ b ≠ bm ∧ X = [bm, b])
  le : B ≤ bm
section
variable {B bm : Nat} {w w' : World} {X : List Nat} {L : List It}
theorem MH.mem (h : MH B w bm X L) : bm ∈ X := by
  obtain ⟨⟨A, cap, -, -, -, -, h | h⟩, -⟩ := h
  · rw [h.2.2]; simp
  · obtain ⟨b, o, -, -, -, -, rfl⟩ := h; simp
theorem MH.lt (h : MH B w bm X L) : bm < w.heap.size := by
  obtain ⟨⟨A, cap, h, -⟩, -⟩ := h
  exact (Array.getElem?_eq_some_iff.1 h).1
theorem MH.ge (h : MH B w bm X L) : ∀ k ∈ X, B ≤ k ∧ k < w.heap.size := by
  have hl := h.lt
  obtain ⟨⟨A, cap, -, -, -, -, h | h⟩, hB⟩ := h
  · rw [h.2.2]; simp; omega
  · obtain ⟨b, o, -, h1, h2, h3, rfl⟩ := h; simp; omega
theorem RowOfM.same {A : Option Addr} (h : RowOfM w A L) (hs : ∀ a, A = some a → w'.heap[a.block]? = w.heap[a.block]?) : RowOfM w' A L := by
  intro i x hx
  obtain ⟨b, o, rfl, hl, ho, x0, x1⟩ := h i x hx
  have e := hs _ rfl
  simp only at e
  refine ⟨b, o, rfl, ?_, ho, ?_, ?_⟩
  · have := Array.getElem?_eq_some_iff.1 (e.trans (Array.getElem?_eq_getElem hl))
    exact this.1
  · simp only [World.cell?, e] at x0 ⊢; exact x0
  · simp only [World.cell?, e] at x1 ⊢; exact x1
theorem MH.same (h : MH B w bm X L) (hs : ∀ k ∈ X, w'.heap[k]? = w.heap[k]?) : MH B w' bm X L := by
  have hm := h.mem
  obtain ⟨⟨A, cap, h0, h1, h2, h3, h4⟩, hB⟩ := h
  refine ⟨⟨A, cap, (hs bm hm).trans h0, h1, h2, h3.same (fun a ha => ?_), ?_⟩, hB⟩
  · rcases h4 with ⟨rfl, -⟩ | ⟨b, o, rfl, -, -, -, rfl⟩
    · cases ha
    · cases ha; exact hs b (by simp)
  · rcases h4 with h4 | ⟨b, o, rfl, g1, g2, g3, rfl⟩
    · exact .inl h4
    · have e := hs b (by simp)
      exact .inr ⟨b, o, rfl, g1, (Array.getElem?_eq_some_iff.1 (e.trans (Array.getElem?_eq_getElem g2))).1, g3, rfl⟩
theorem MH.kept {Y : List Nat} (h : MH B w bm X L) (hk : Kept Y w w') (hY : ∀ k ∈ X, k ∉ Y) : MH B w' bm X L := h.same (fun k hx => hk.block k (h.ge k hx).2 (hY k hx))
theorem MH.later (h : MH B w bm X L) (hb : Below w.heap.size w w') : MH B w' bm X L := h.kept (Kept.of [] hb) (by simp)
end
theorem results_it1 {fn : Func} {p : Tmp} (h : fn.results = #[.cell p 31]) (tmps : Array Value) (w : World) (b : Nat) (x : It) (hp : tmps.getD p undef = .pointer (some ⟨b, 0, none⟩)) (hb : IB w b x) :
    (results fn tmps).run Try.prog w = .ok (.agg #[.int .i64 x.k, .int .i64 x.w]) w :=
  results_cell_row h tmps w b _ _ _ _ hp hb.is Try.underlying31 rfl (infoIt x)
theorem mpop {B bm : Nat} {w : World} {X : List Nat} {x : It} {r : List It} (h : MH B w bm X (x :: r)) : Calls Try.prog 33 #[.pointer (some ⟨bm, 0, none⟩)] w fun e w' => e = .returned (.agg #[.int .i64 x.k, .int .i64 x.w]) ∧ MH B w' bm X r ∧ Kept [bm] w w' := by
  have hlt := h.lt
  obtain ⟨⟨A, cap, h0, h1, h2, h3, h4⟩, hB⟩ := h
  obtain ⟨b, o, rfl, hb, -, x0, x1⟩ := h3 0 x rfl
  obtain ⟨b', o', e, g1, g2, g3, rfl⟩ : ∃ b' o', some (⟨b, o, none⟩ : Addr) = some ⟨b', o', none⟩ ∧ B ≤ b' ∧ b' < w.heap.size ∧ b' ≠ bm ∧ X = [bm, b'] := by
    rcases h4 with ⟨h, -⟩ | h
    · cases h
    · exact h
  cases e
  have hfin : ∀ (o2 c2 : Nat), r.length ≤ c2 → c2 ≤ maxLen → (∀ (i : Nat) (y : It), r[i]? = some y → o2 = o + 2) →
      MH B (((w.setCell ⟨bm, 0, none⟩ (.slice (some ⟨b, o2, none⟩) r.length c2)).alloc (.cells #[.int .i64 x.k, .int .i64 x.w] 31)).alloc (.cells #[.int .i64 x.k, .int .i64 x.w] 31)) bm [bm, b] r ∧
      Kept [bm] w (((w.setCell ⟨bm, 0, none⟩ (.slice (some ⟨b, o2, none⟩) r.length c2)).alloc (.cells #[.int .i64 x.k, .int .i64 x.w] 31)).alloc (.cells #[.int .i64 x.k, .int .i64 x.w] 31)) ∧
      IB (((w.setCell ⟨bm, 0, none⟩ (.slice (some ⟨b, o2, none⟩) r.length c2)).alloc (.cells #[.int .i64 x.k, .int .i64 x.w] 31)).alloc (.cells #[.int .i64 x.k, .int .i64 x.w] 31)) w.heap.size x := by
    intro o2 c2 hc hm ho
    obtain ⟨W, hW⟩ : ∃ W, w.setCell ⟨bm, 0, none⟩ (.slice (some ⟨b, o2, none⟩) r.length c2) = W := ⟨_, rfl⟩
    have k0 : Kept [bm] w W := by rw [← hW]; exact (Kept.refl _ _).set bm 0 _ (by simp)
    have hbl : Below W.heap.size W ((W.alloc (.cells #[.int .i64 x.k, .int .i64 x.w] 31)).alloc (.cells #[.int .i64 x.k, .int .i64 x.w] 31)) := ((Below.refl _ _).alloc (Nat.le_refl _) _).alloc (by simp) _
    rw [hW]
    refine ⟨MH.later ⟨⟨_, c2, ?_, hc, hm, ?_, .inr ⟨b, o2, rfl, g1, Nat.lt_of_lt_of_le g2 k0.size, g3, rfl⟩⟩, hB⟩ hbl, k0.later hbl, ?_⟩
    rotate_right
    · have hs : W.heap.size = w.heap.size := by rw [← hW]; simp
      rw [← hs]
      exact (IB.new W x).later ((Below.refl _ _).alloc (Nat.le_refl _) _)
    · rw [← hW]
      exact Boxed.set (W := w) (B := bm) (t := 28) (.slice (some ⟨b, o2, none⟩) r.length c2) h0
    · intro i y hy
      obtain ⟨b2, o3, e, -, hoy, y0, y1⟩ := h3 (i + 1) y (by simpa using hy)
      cases e
      have e2 := ho i y hy
      subst e2
      refine ⟨b, o + 2, rfl, Nat.lt_of_lt_of_le g2 k0.size, hoy, ?_, ?_⟩
      · rw [k0.cell g2 (by simpa using g3), ← y0]; congr 2; omega
      · rw [k0.cell g2 (by simpa using g3), ← y1]; congr 2; omega
  rw [show o + 0 * 2 = o by omega] at x0
  rw [show o + 0 * 2 + 1 = o + 1 by omega] at x1
  have HF := Lib.hid hfin
  simp only [List.length_cons] at h0 h1
  have c0 := cell_of_row w bm 0 _ _ _ h0
  have f0 : w.frozen? ⟨bm, 0, none⟩ = false := by simp [World.frozen?, h0]
  simp at c0
  have hr0 : r.length = 0 → ∀ (i : Nat) (y : It), r[i]? = some y → False := fun h i y hy => by
    rw [List.length_eq_zero_iff] at h; subst h; simp at hy
  have HR := Lib.hid hr0
  generalize r.length = n at *
  unfold maxLen at h2
  have hn : (0 : Int) < (n : Int) + 1 := by omega
  have hz : ((n : Int) + 1 == 0) = false := by rw [beq_eq_false_iff_ne]; omega
  clear hfin hr0 h3 h0
  go_enter Try.func33, Try.ntmps33
  go_wp2
  all_goals
    first
      | exact bodyPost_ret (results_it1 (x := x) rfl _ _ _ rfl (HF.out _ _ (by omega) (by unfold maxLen; omega) (fun i y hy => rfl)).2.2) rfl ⟨rfl, (HF.out _ _ (by omega) (by unfold maxLen; omega) (fun i y hy => rfl)).1, (HF.out _ _ (by omega) (by unfold maxLen; omega) (fun i y hy => rfl)).2.1⟩
      | exact bodyPost_ret (results_it1 (x := x) rfl _ _ _ rfl (HF.out _ _ (by omega) (by unfold maxLen; omega) (fun i y hy => (HR.out (by omega) i y hy).elim)).2.2) rfl ⟨rfl, (HF.out _ _ (by omega) (by unfold maxLen; omega) (fun i y hy => (HR.out (by omega) i y hy).elim)).1, (HF.out _ _ (by omega) (by unfold maxLen; omega) (fun i y hy => (HR.out (by omega) i y hy).elim)).2.1⟩
theorem mnil {B bm : Nat} {w : World} {X : List Nat} (h : MH B w bm X []) : Calls Try.prog 33 #[.pointer (some ⟨bm, 0, none⟩)] w (Told (.agg #[.int .i64 0, .int .i64 0]) w) := by
  have hlt := h.lt
  obtain ⟨⟨A, cap, h0, h1, h2, h3, h4⟩, hB⟩ := h
  simp only [List.length_nil] at h0 h1
  have c0 := cell_of_row w bm 0 _ _ _ h0
  simp at c0
  unfold maxLen at h2
  clear h0 h3 h4
  go_enter Try.func33, Try.ntmps33
  go_wp2
  all_goals exact bodyPost_ret (results_it1 (x := ⟨0, 0⟩) rfl _ _ _ rfl (IB.new w ⟨0, 0⟩)) rfl ⟨rfl, (Below.refl _ _).alloc (Nat.le_refl _) _⟩
end Go.Proofs.Ytebbpgokhelmdaa
