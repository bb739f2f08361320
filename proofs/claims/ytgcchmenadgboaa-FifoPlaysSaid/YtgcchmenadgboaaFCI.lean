/- All things of a queue, in a row of their own. -/
import Derived.Test.YtgcchmenadgboaaFBI
namespace Go.Proofs.Ytgcchmenadgboaa
open Go.RowKit
set_option linter.unusedVariables false
set_option linter.unusedSimpArgs false
attribute [local go_sem ↓] Go.wp_at_zero Go.wp_at_succ

def CcI (w : World) (b : Nat) (v : Value) (f : Nat) (W : World) : Prop := W.cell? ⟨b, 0, none⟩ = some v ∧ W.cell? ⟨b, 1, none⟩ = some (.int .i64 (f : Int)) ∧ Below w.heap.size w W
theorem CcI.step {w W W' : World} {b f : Nat} {v : Value} (h : CcI w b v f W) (hb : Below W.heap.size W W') : CcI w b v f W' :=
  ⟨(hb.cell (p := ⟨b, 0, none⟩) (World.block_lt_of_cell? W _ h.1)).trans h.1, (hb.cell (p := ⟨b, 1, none⟩) (World.block_lt_of_cell? W ⟨b, 1, none⟩ h.2.1)).trans h.2.1, h.2.2.trans (hb.mono h.2.2.size)⟩
/-- Where the things stand: at the ring's end, and at its beginning. -/
theorem ring_rowsI {w : World} {g N f : Nat} {cur : Array Value} {l : List Int} (hg : w.heap[g]? = some (.cells cur 3 (0, 0))) (hl : l.length ≤ N) (hf : f < N) (h : ∀ i x, l[i]? = some x → cur[(f + i) % N]? = some (.int .i64 x)) :
    RowAI w ⟨g, f, none⟩ (l.take (N - f)) ∧ RowAI w ⟨g, 0, none⟩ (l.drop (N - f)) := by
  refine ⟨fun i x hx => ?_, fun i x hx => ?_⟩
  · have hi : i < N - f := by
      have := (List.getElem?_eq_some_iff.1 hx).1
      simp at this; omega
    rw [List.getElem?_take, if_pos hi] at hx
    have := h i x hx
    rw [Nat.mod_eq_of_lt (by omega)] at this
    rw [add_none, cell_of_row w g (f + i) _ _ _ hg, this]
  · rw [List.getElem?_drop] at hx
    have hi := (List.getElem?_eq_some_iff.1 hx).1
    have := h _ x hx
    rw [show f + (N - f + i) = N + i by omega, Nat.add_mod_left, Nat.mod_eq_of_lt (by omega)] at this
    rw [add_none, cell_of_row w g (0 + i) _ _ _ hg, Nat.zero_add, this]
/-- The world in which both parts stand in a row. -/
def WcI (w : World) (x y : Value) : World := (w.alloc (.cells #[x, y] 22)).drew.drew.drew
theorem Wc_belowI (w : World) (x y : Value) : Below w.heap.size w (WcI w x y) ∧ (WcI w x y).heap.size = w.heap.size + 1 ∧ (WcI w x y).cell? ⟨w.heap.size, 0, none⟩ = some x ∧ (WcI w x y).cell? ⟨w.heap.size, 1, none⟩ = some y := by
  have hb : Below w.heap.size w (w.alloc (.cells #[x, y] 22)) := (Below.refl _ w).alloc (Nat.le_refl _) _
  have hs : (w.alloc (.cells #[x, y] 22)).heap.size = w.heap.size + 1 := by simp
  refine ⟨⟨hb.os, hb.tape, hb.output, hb.size, hb.block⟩, hs, ?_, ?_⟩
  · exact cell_of_row (w.alloc (.cells #[x, y] 22)) w.heap.size 0 _ _ _ (heap_alloc_new w _)
  · exact cell_of_row (w.alloc (.cells #[x, y] 22)) w.heap.size 1 _ _ _ (heap_alloc_new w _)
set_option maxRecDepth 100000 in
set_option maxHeartbeats 8000000 in
theorem things_anyI {B b N f : Nat} {v : Value} {l : List Int} (w : World) (h : FQI B w b v N f l) : Calls Try.prog 25 #[.pointer (some ⟨b, 0, none⟩)] w (RowPI w w.heap.size l.length l) := by
  have c0 := h.c0
  have c1 := h.c1
  have c2 := h.c2
  have hb := h.lt
  have hlim := h.lim
  rcases Nat.eq_zero_or_pos N with h0 | hN
  · obtain ⟨rfl, rfl, rfl⟩ : v = .slice none 0 0 ∧ f = 0 ∧ l = [] := by
      rcases h.ring with ⟨h1, h2, h3, h4⟩ | ⟨g, cur, h1, h2, h3, h4, h5, h6⟩
      · exact ⟨h1, h3, h4⟩
      · omega
    obtain ⟨wb, ws, t0, t1⟩ := Wc_belowI w (.slice none 0 0) (.slice none 0 0)
    have CC := Lib.hid ((concat_noneI (WcI w (.slice none 0 0) (.slice none 0 0)) (t := w.heap.size) t0 t1).mono (R' := RowPI w w.heap.size 0 []) (by
      rintro e w' ⟨v, rfl, ho, hb⟩
      exact ⟨v, rfl, own_base ho (by omega), wb.trans (hb.mono (by omega))⟩))
    unfold WcI at CC
    clear wb ws t0 t1
    have C0 := Lib.hid (show CcI w b (.slice none 0 0) 0 w from ⟨c0, c1, Below.refl _ _⟩)
    clear h
    go_enter Try.func25, Try.ntmps25
    go_upto_region 3 with (fail)
    go_region
    go_upto_region 4 with (fail)
    go_region
    go_upto_region 5 with (fail)
    have C1 := Lib.hid (((C0.out.step (below_drew _)).step (below_drew _)).step (below_drew _))
    go_region_held3 (fun W => W.cell? ⟨b, 0, none⟩ = some (.slice none 0 0) ∧ W.cell? ⟨b, 1, none⟩ = some (.int .i64 0) ∧ Below w.heap.size w W)
      (first | assumption | exact C1.out | exact C9.out | exact (CcI.step (by assumption : CcI w b (.slice none 0 0) 0 _) ((Below.refl _ _).alloc (Nat.le_refl _) _)))
      ((go_at_call 35; (with_reducible refine CC.out.mono ?_); rintro e w' ⟨v', rfl, ho, hB⟩; have HO := Lib.hid ho; have HB := Lib.hid hB; have C9 := Lib.hid (C0.out.step hB)))
    go_wp2
    go_ret
    exact ⟨v', rfl, HO.out, HB.out⟩
  · obtain ⟨g, cur, rfl, hBg, hg, hc, hf, hi, hne⟩ := h.open hN
    have hle := h.len_le
    obtain ⟨R1, R2⟩ := ring_rowsI hg hle hf hi
    obtain ⟨p, hp⟩ : ∃ p, (l.take (N - f)).length = p := ⟨_, rfl⟩
    obtain ⟨q, hq⟩ : ∃ q, (l.drop (N - f)).length = q := ⟨_, rfl⟩
    obtain ⟨n, hn⟩ : ∃ n, l.length = n := ⟨_, rfl⟩
    have hp' := hp
    have hq' := hq
    rw [List.length_take] at hp'
    rw [List.length_drop] at hq'
    rw [hn] at c2 hle hp' hq' ⊢
    obtain ⟨e, he⟩ : ∃ e, f + p = e := ⟨_, rfl⟩
    have hmin : min ((f : Int) + (n : Int)) (N : Int) = (e : Int) := by omega
    have hwd : (n : Int) - ((e : Int) - (f : Int)) = (q : Int) := by omega
    have hpe : e - f = p := by omega
    have hNf : ¬ N = f := by omega
    have hfe : f ≤ e := by omega
    have heN : e ≤ N := by omega
    have hqN : q ≤ N := by omega
    have hpq : p + q = n := by omega
    obtain ⟨wb, ws, t0, t1⟩ := Wc_belowI w (.slice (some ⟨g, f, none⟩) p (N - f)) (.slice (some ⟨g, 0, none⟩) q N)
    have CC := Lib.hid (show Calls Try.prog 35 #[.slice (some ⟨w.heap.size, 0, none⟩) 2 2] (WcI w (.slice (some ⟨g, f, none⟩) p (N - f)) (.slice (some ⟨g, 0, none⟩) q N)) (RowPI w w.heap.size n l) from by
      have fin : ∀ e w', RowPI (WcI w (.slice (some ⟨g, f, none⟩) p (N - f)) (.slice (some ⟨g, 0, none⟩) q N)) (WcI w (.slice (some ⟨g, f, none⟩) p (N - f)) (.slice (some ⟨g, 0, none⟩) q N)).heap.size n l e w' → RowPI w w.heap.size n l e w' := by
        rintro e w' ⟨v, rfl, ho, hb⟩
        exact ⟨v, rfl, own_base ho (by omega), wb.trans (hb.mono (by omega))⟩
      by_cases hz : n = 0
      · subst hz
        obtain rfl : p = 0 := by omega
        obtain rfl : q = 0 := by omega
        obtain rfl : l = [] := List.eq_nil_of_length_eq_zero hn
        exact (concat_noneI _ t0 t1).mono fin
      · have := concat_someI _ t0 t1 (R1.later wb) (R2.later wb) hp hq (by omega) (by omega)
        rw [List.take_append_drop, hpq] at this
        exact this.mono fin)
    unfold WcI at CC
    clear wb ws t0 t1
    have C0 := Lib.hid (show CcI w b (.slice (some ⟨g, 0, none⟩) N N) f w from ⟨c0, c1, Below.refl _ _⟩)
    clear h R1 R2 hp hq hn hi hp' hq'
    go_enter Try.func25, Try.ntmps25
    go_upto_region 3 with (fail)
    go_region
    go_upto_region 4 with (fail)
    go_region
    go_upto_region 5 with (fail)
    have C1 := Lib.hid (((C0.out.step (below_drew _)).step (below_drew _)).step (below_drew _))
    go_region_held3 (fun W => W.cell? ⟨b, 0, none⟩ = some (.slice (some ⟨g, 0, none⟩) N N) ∧ W.cell? ⟨b, 1, none⟩ = some (.int .i64 (f : Int)) ∧ Below w.heap.size w W)
      (first | assumption | exact C1.out | exact C9.out | exact (CcI.step (by assumption : CcI w b (.slice (some ⟨g, 0, none⟩) N N) f _) ((Below.refl _ _).alloc (Nat.le_refl _) _)))
      ((go_at_call 35; (with_reducible refine CC.out.mono ?_); rintro e w' ⟨v', rfl, ho, hB⟩; have HO := Lib.hid ho; have HB := Lib.hid hB; have C9 := Lib.hid (C0.out.step hB)))
    go_wp2
    go_ret
    exact ⟨v', rfl, HO.out, HB.out⟩
end Go.Proofs.Ytgcchmenadgboaa
