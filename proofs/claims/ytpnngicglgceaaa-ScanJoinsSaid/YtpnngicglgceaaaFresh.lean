/- The tokens of a text in a row of their own. -/
import Derived.Test.YtpnngicglgceaaaToks
import Derived.Test.YtpnngicglgceaaaJoins1
namespace Go.Proofs.Ytpnngicglgceaaa
open Go.RowKit Go.Shelf
set_option linter.unusedVariables false
attribute [local go_sem] Oper.semAt_some
theorem row_fresh {w : World} {n0 : Nat} {v : Value} {n : Nat} {xs : List Value} (h : w.ownsRow n0 36 4 v n xs) : ∀ g, v.ownBlock = some g → n0 ≤ g ∧ ∀ o, w.frozen? ⟨g, o, none⟩ = false := by
  intro g hg
  rcases h.2 with ⟨hv, h0⟩ | ⟨g', cap, cur, hv, hn, hgb, hle, hmax, _, _⟩
  · subst hv; simp [Value.ownBlock] at hg
  · subst hv; simp [Value.ownBlock] at hg; subst hg; exact ⟨hn, fun o => frozen_of_row w g' o _ _ hgb⟩
set_option maxRecDepth 100000 in
set_option maxHeartbeats 4000000 in
theorem each_new (s : ByteArray) (w : World) (hs : s.size ≤ 100000) :
    Calls Try.prog 12 #[.string s] w fun e w' => ∃ v, e = .returned (.tuple #[v, .bool true]) ∧ Toks w' v (tokL s) ∧ Below w.heap.size w w' ∧ ∀ g, v.ownBlock = some g → w.heap.size ≤ g ∧ ∀ o, w'.frozen? ⟨g, o, none⟩ = false := by
  have hfn := run_eql_func_nil
  refine (callsIn_wide (n := 9)).1 ?_
  refine callsIn_of_wp_marks Try.func12 rfl trivial ?_ rfl
  simp only [Try.ntmps12, List.size_toArray, List.length_cons, List.length_nil, Nat.reduceAdd, Nat.reduceSub, Array.replicate_succ, Array.replicate_zero, List.push_toArray, List.append_toArray, List.nil_append, List.cons_append]
  obtain ⟨W1, hW1, B1, b1⟩ : ∃ W1, w.alloc (.cells #[.string s] 9) = W1 ∧ Boxed W1 w.heap.size 9 (.string s) ∧ Below w.heap.size w W1 := ⟨_, rfl, Boxed.new _ _ _, (Below.refl _ _).alloc (Nat.le_refl _) _⟩
  gi_wp2_with (refine ⟨trivial, ?_⟩; gi_at_call 19; refine (callsIn_wide.2 (each_seq_any _ _)).mono ?_; rintro e w' ⟨rfl, rfl⟩)
  clear hfn
  obtain ⟨W2, hW2, L2, P2, B2, hbl⟩ : ∃ W2, W1.alloc (.cells #[.slice none 0 0] 24) = W2 ∧ Boxed W2 W1.heap.size 24 (.slice none 0 0) ∧ Boxed W2 w.heap.size 9 (.string s) ∧ Below w.heap.size w W2 ∧ W1.heap.size < W2.heap.size :=
    ⟨_, rfl, Boxed.new _ _ _, Boxed.alloc B1 _, b1.trans ((Below.refl _ _).alloc b1.size _), by simp⟩
  rw [hW2]
  have hw1 : w.heap.size ≤ W1.heap.size := b1.size
  clear hW1 hW2 B1 b1
  generalize W1.heap.size = bl at *
  have hw2 := B2.size
  obtain ⟨i0, hi, hz0, hz1, hz2⟩ := info_parts infoTok
  refine rangeO (gf := 22) (lb := #[.pointer (some ⟨w.heap.size, 0, none⟩)]) rfl (enters_of Try.func22 (by kernel_rfl) rfl)
    (each1_seq (9 - 1) (by omega) w.heap.size s hs W2 P2) (Below.refl _ _) rfl
    (fun pre V => Coll w.heap.size bl pre V ∧ Below w.heap.size w V) (fun _ _ _ => False)
    (OwnFrom.and (Own.from (holdsRow_own w.heap.size bl 24 36 4 List.length tkCells (fun pre v => v = .slice none 0 0 ↔ pre = [])) _) (ownFrom_below (Nat.le_refl _) hw2))
    (fun _ _ _ _ _ h _ _ => h)
    ⟨⟨_, L2, World.ownsRow_nil _ _ _ _, by simp⟩, B2⟩
    (fun x a' V => ∃ Bx, TB V Bx x ∧ a' = { tmps := #[.string s, undef, .slice none 0 0, .bool false, .func (.func 22) #[] #[.pointer (some ⟨w.heap.size, 0, none⟩)], .pointer (some ⟨bl, 0, none⟩), .pointer (some ⟨Bx, 0, none⟩), .string s, .func (.func 22) #[] #[.pointer (some ⟨w.heap.size, 0, none⟩)], .func (.func 22) #[] #[.pointer (some ⟨w.heap.size, 0, none⟩)], .bool false, .func (.func 22) #[] #[.pointer (some ⟨w.heap.size, 0, none⟩)], tkV x, undef, undef, undef, undef, undef], defers := [] })
    (fun x a' _ X Y row hs hg hr => hs.imp fun Bx h => ⟨h.1.kept hg (fun r e => (hr r e).2), h.2⟩)
    ?assign ?body ?done ?stop
  case assign =>
    intro l2 pre x V K hI hK
    gi_wp2
    obtain ⟨⟨v, hv, hrow, hnil⟩, hB⟩ := hI
    exact hK _ _ ((KeepsOthers.alloc _ _).from _) (Kp.alloc _ _) ⟨⟨v, Boxed.alloc hv _, hrow.alloc _, hnil⟩, hB.trans ((Below.refl _ _).alloc hB.size _)⟩ ⟨_, TB.new V x, rfl⟩
  case body =>
    rintro l2 pre x a' V ⟨⟨v, hv, hrow, hnil⟩, hB⟩ ⟨Bx, hT, rfl⟩ hlen
    have c0 := hT.c0
    have c1 := hT.c1
    have c2 := hT.c2
    have c3 := hT.c3
    have cv := hv.cell
    gi_wp2_with (gi_at_builtin; refine wpListIn_append_own _ rfl _ _ 24 rfl w.heap.size 36 i0 _ 4 40 Try.underlying24 hi hz0 hz1 hz2 rfl (by decide) _ _ _ rfl (hrow.alloc _) ⟨V.heap.size, 0, none⟩ 1 1 [.int .i64 (x.k : Int), .int .i64 (x.at' : Int), .string (bs x.t), .int .i64 (x.n : Int)] rfl rfl (four_new V x) (by simp [Value.oneCell']) (by unfold maxLen; omega) (by omega) (by have := hB.size; simp; omega) ?_; intro v' w1 hown' hgrow hnil'; obtain ⟨g', cap', rfl⟩ := ownsRow_succ hown'; obtain ⟨hv1, hv2, hr2, hk2, hb2⟩ := hv.appended (by decide) hrow hB.size hw1 hown' hgrow; have hc1 := hv1.cell; have hf1 := hv1.frozen)
    exact ⟨hk2.from _, kp_append hrow hnil hgrow hv1, ⟨⟨_, hv2, by rw [List.length_append, tkCells_snoc]; exact hr2, by simp⟩, hB.trans hb2⟩⟩
  case done =>
    rintro D xs V hD rfl ⟨⟨v, hv, hrow, hnil⟩, hB⟩ hK
    have cv := hv.cell
    gi_wp2
    refine ⟨by simp, .inl ⟨_, _, rfl, run_takeDeferred hK, ?_⟩⟩
    exact ⟨.tuple #[v, .bool true], by simp [results, Try.f12, go_sem], v, rfl, toks_of_row (ownsRow_putObj hrow _ hK rfl), hB.trans (belowK_b (w := w) (Nat.le_refl _) V D _ _ (by omega) hK rfl rfl), row_fresh (ownsRow_putObj hrow _ hK rfl)⟩
  case stop =>
    rintro D c pre V hD hpre h hK
    exact h.elim
end Go.Proofs.Ytpnngicglgceaaa
