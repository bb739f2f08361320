/- Of no heap nothing comes. -/
import Derived.Test.YtebbpgokhelmdaaAwk
namespace Go.Proofs.Ytebbpgokhelmdaa
open Go.RowKit Go.Shelf
set_option linter.unusedVariables false
set_option linter.unusedSimpArgs false
section
attribute [local go_sem ↓] Go.wp_at_zero Go.wp_at_succ
set_option maxRecDepth 100000
set_option maxHeartbeats 4000000
theorem len_nilI (w : World) : Calls Try.prog 23 #[.pointer none] w fun e w' => e = .returned (.int .i64 0) ∧ w = w' := by
  go_enter Try.func23, Try.ntmps23
  go_wp2
  go_ret
  exact ⟨rfl, rfl⟩
theorem push_nilI (x : Int) (w : World) : Calls Try.prog 31 #[.pointer none, .int .i64 x] w (Told (.tuple #[]) w) := by
  go_enter Try.func31, Try.ntmps31
  go_wp2
  refine bodyPost_ret (results_none rfl _ _ _) rfl ?_
  exact ⟨rfl, Below.refl _ _⟩
theorem peek_nilI (w : World) : Calls Try.prog 32 #[.pointer none] w (Told (.tuple #[.int .i64 0, .bool false]) w) := by
  have LN := Lib.hid len_nilI
  go_enter Try.func32, Try.ntmps32
  go_wp2_with (go_at_call 23; (with_reducible refine (LN.out _).mono ?_); rintro e w1 ⟨rfl, rfl⟩)
  go_ret2
  exact ⟨rfl, Below.refl _ _⟩
theorem pop_nilI (w : World) : Calls Try.prog 24 #[.pointer none] w (Told (.tuple #[.int .i64 0, .bool false]) w) := by
  have PK := Lib.hid peek_nilI
  go_enter Try.func24, Try.ntmps24
  go_wp2_with (go_at_call 32; (with_reducible refine (PK.out _).mono ?_); rintro e w1 ⟨rfl, hB1⟩)
  go_ret2
  exact ⟨rfl, hB1⟩
end
attribute [local go_sem] Oper.semAt_some
def NHI (Bn : Nat) (r : List Int) (W : World) : Prop := r = [] ∧ Boxed W Bn 48 (.pointer none)
set_option maxRecDepth 100000 in
set_option maxHeartbeats 4000000 in
theorem nil_seqI {Bn : Nat} (n : Nat) (hn1 : 1 ≤ n) : SeqD valI n 38 #[.pointer (some ⟨Bn, 0, none⟩)] [Bn] (NHI Bn) [] := by
  intro l J Jx W hH hJY hY hJxY hJ
  refine callsIn_of_wp Try.func38 rfl trivial ?_ rfl
  simp only [Try.ntmps38, List.size_toArray, List.length_cons, List.length_nil, Nat.reduceAdd, Nat.reduceSub, Array.replicate_succ, Array.replicate_zero, List.push_toArray, List.append_toArray, List.nil_append, List.cons_append]
  gi_wp2
  gi_loopg [4] 1 (fun m s4 wr => Hid (wr = W))
  case atStart => exact Lib.hid rfl
  case round =>
    have e := hrel.out
    subst e
    have b1 := Boxed.cell hH.2
    have hl := hH.2.lt
    have PN := Lib.hid (pop_nilI wr)
    gi_wp2_with (refine ⟨trivial, ?_⟩; gi_at_call 24; refine (callsIn_wide.2 PN.out).mono ?_; rintro e w1 ⟨rfl, hB1⟩)
    refine ⟨(fun f hf => (by cases hf)), ?_⟩
    gi_wp2
    refine bodyPost_ret (results_none rfl _ _ _) rfl ?_
    exact ⟨⟨_, rfl⟩, .inl ⟨hJY _ _ _ hJ (Kept.of _ hB1), rfl, (hB1.block Bn hl).trans hH.2⟩⟩
set_option maxRecDepth 100000 in
set_option maxHeartbeats 4000000 in
theorem hnil_walk (n : Int) (w : World) : Calls Try.prog 7 #[.int .i64 n] w (OkB w) := by
  have PU := Lib.hid push_nilI
  have PO := Lib.hid pop_nilI
  have PE := Lib.hid peek_nilI
  have LN := Lib.hid len_nilI
  have AW := Lib.hid awake_any
  have hfn := run_eql_seqI
  refine (callsIn_wide (n := 9)).1 ?_
  refine callsIn_of_wp_marks Try.func7 rfl trivial ?_ rfl
  simp only [Try.ntmps7, List.size_toArray, List.length_cons, List.length_nil, Nat.reduceAdd, Nat.reduceSub, Array.replicate_succ, Array.replicate_zero, List.push_toArray, List.append_toArray, List.nil_append, List.cons_append]
  gi_wp2_with (first
    | (refine ⟨trivial, ?_⟩; gi_at_call 31; refine (callsIn_wide.2 (PU.out _ _)).mono ?_; rintro e w1 ⟨rfl, hB1⟩)
    | (refine ⟨trivial, ?_⟩; gi_at_call 24; refine (callsIn_wide.2 (PO.out _)).mono ?_; rintro e w2 ⟨rfl, hB2⟩)
    | (refine ⟨trivial, ?_⟩; gi_at_call 32; refine (callsIn_wide.2 (PE.out _)).mono ?_; rintro e w3 ⟨rfl, hB3⟩)
    | (refine ⟨trivial, ?_⟩; gi_at_call 26; refine (callsIn_wide.2 (drain_anyI _ _)).mono ?_; rintro e w4 ⟨rfl, hw4⟩))
  obtain ⟨W, hW, L, H, B, hle⟩ : ∃ W, w3.alloc (.cells #[.pointer none] 48) = W ∧ Boxed W w.heap.size 4 (.bool false) ∧ Boxed W w3.heap.size 48 (.pointer none) ∧ Below w.heap.size w W ∧ w.heap.size < w3.heap.size := by
    have B1 := hB1.trans (hB2.mono hB1.size)
    have B3 := B1.trans (hB3.mono B1.size)
    have s0 := B3.size
    simp only [World.size_alloc] at s0
    refine ⟨_, rfl, Boxed.alloc ((B3.block _ (by simp)).trans (Boxed.new _ _ _)) _, Boxed.new _ _ _, ((((Below.refl _ w).alloc (Nat.le_refl _) _).trans (B3.mono (by simp))).alloc (by omega) _), by omega⟩
  rw [hW]
  have hl := H.lt
  have hl2 := L.lt
  clear hW hB1 hB2 hB3 hfn
  generalize w3.heap.size = bn at *
  refine rangeD valI (gf := 38) (lb := #[.pointer (some ⟨bn, 0, none⟩)]) rfl (enters_of Try.func38 (by kernel_rfl) rfl)
    (nil_seqI (9 - 1) (by omega)) rfl ⟨rfl, H⟩ (fun r W W' h hs => ⟨h.1, (hs bn (by simp)).trans h.2⟩)
    (fun k hk => by simp at hk; omega)
    (fun pre V => Boxed V w.heap.size 4 (.bool false) ∧ Below w.heap.size w V) (fun _ _ _ => False)
    ?own (fun _ _ _ _ _ h _ _ => h) ?IY (fun _ _ _ _ h _ => h) ⟨L, B⟩
    (fun x a' V => True)
    (fun x a' _ X Y row h _ _ => h)
    ?assign ?body ?done ?stop
  case own => exact OwnFrom.and (fun pre X Y row h hg hr => boxed_kept h hg (fun r e => (hr r e).2)) (ownFrom_below (Nat.le_refl _) B.size)
  case IY =>
    rintro pre W1 W2 ⟨h1, h2⟩ hk
    have hbb : w.heap.size ≤ bn := by omega
    refine ⟨(hk.block _ h1.lt (by simp; omega)).trans h1, h2.trans (hk.below h2.size ?_)⟩
    intro k hm
    simp at hm; omega
  case assign =>
    intro l2 pre x V K hI hK
    gi_wp2
    exact hK _ _ (KeepsFrom.refl _ _) (SameB.refl _ _) hI trivial
  case body =>
    intro l2 pre x r a' V _ _ hL
    simp at hL
  case done =>
    rintro D V hD ⟨hb, hB⟩ hH0 hK
    have c0 := hb.cell
    have f0 := hb.frozen
    have hl3 := hb.lt
    gi_wp2_with (first
      | (refine ⟨trivial, ?_⟩; gi_at_call 8; refine (callsIn_wide.2 (AW.out _)).mono ?_; rintro e w5 ⟨rfl, hB5⟩; have hb5 : Boxed w5 w.heap.size 4 (.bool false) := ((hB5.block _ hl3).trans hb); have c5 := hb5.cell; have f5 := hb5.frozen)
      | (refine ⟨trivial, ?_⟩; gi_at_call 23; refine (callsIn_wide.2 (LN.out _)).mono ?_; rintro e w6 ⟨rfl, rfl⟩))
    have hb6 := Boxed.set (.bool true) hb5
    have hK5 : (w5.setCell ⟨w.heap.size, 0, none⟩ (.bool true)).heap[D]? = some (.deferred (some [])) := by
      rw [Below.heap_setCell _ _ _ _ (by simp; omega)]
      exact (hB5.block D (Array.getElem?_eq_some_iff.1 hK).1).trans hK
    have hB6 : Below w.heap.size w (w5.setCell ⟨w.heap.size, 0, none⟩ (.bool true)) := (hB.trans (hB5.mono hB.size)).setCell (Nat.le_refl _) _
    generalize w5.setCell ⟨w.heap.size, 0, none⟩ (.bool true) = w6 at *
    refine ⟨by simp, .inl ⟨_, _, rfl, run_takeDeferred hK5, ?_⟩⟩
    have hc : (w6.putObj D (.deferred none)).cell? ⟨w.heap.size, 0, none⟩ = some (.bool true) := by
      rw [← hb6.cell]; simp [World.cell?, World.putObj_heap_other (show w.heap.size ≠ D by omega)]
    exact ⟨.bool true, by simp [results, Try.f7, go_sem, hc], rfl, hB6.trans (belowK_b (w := w) (Nat.le_refl _) w6 D _ _ (by omega) hK5 rfl rfl)⟩
  case stop =>
    rintro D c pre x r V hD hL h _ hK
    exact h.elim
end Go.Proofs.Ytebbpgokhelmdaa
