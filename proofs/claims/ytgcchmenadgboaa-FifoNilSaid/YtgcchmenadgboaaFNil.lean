/- FifoNil's walk. -/
import Derived.Test.YtgcchmenadgboaaFIn
namespace Go.Proofs.Ytgcchmenadgboaa
open Go.RowKit Go.Shelf
set_option linter.unusedVariables false
set_option linter.unusedSimpArgs false
attribute [local go_sem] Oper.semAt_some

set_option maxRecDepth 100000 in
set_option maxHeartbeats 4000000 in
theorem fnil_walk (n : Int) (w : World) : Calls Try.prog 7 #[.int .i64 n] w (OkB w) := by
  have PU := Lib.hid push_nilI
  have PO := Lib.hid pop_nilI
  have AT := Lib.hid at_nilI
  have LN := Lib.hid len_nilI
  have RN := Lib.hid room_nilI
  have AW := Lib.hid awake_any
  have hfn := run_eql_seq
  refine (callsIn_wide (n := 9)).1 ?_
  refine callsIn_of_wp_marks Try.func7 rfl trivial ?_ rfl
  simp only [Try.ntmps7, List.size_toArray, List.length_cons, List.length_nil, Nat.reduceAdd, Nat.reduceSub, Array.replicate_succ, Array.replicate_zero, List.push_toArray, List.append_toArray, List.nil_append, List.cons_append]
  gi_wp2_with (first
    | (refine ⟨trivial, ?_⟩; gi_at_call 12; refine (callsIn_wide.2 (PU.out _ _)).mono ?_; rintro e w1 ⟨rfl, rfl⟩)
    | (refine ⟨trivial, ?_⟩; gi_at_call 13; refine (callsIn_wide.2 (PO.out _)).mono ?_; rintro e w2 ⟨rfl, rfl⟩)
    | (refine ⟨trivial, ?_⟩; gi_at_call 23; refine (callsIn_wide.2 (AT.out _)).mono ?_; rintro e w3 ⟨rfl, rfl⟩)
    | (refine ⟨trivial, ?_⟩; gi_at_call 22; refine (callsIn_wide.2 (all_any _ _)).mono ?_; rintro e w4 ⟨rfl, rfl⟩))
  clear PU PO AT hfn
  obtain ⟨W1, hW1, R1, BW⟩ : ∃ W1, w.alloc (.cells #[.bool false] 4) = W1 ∧ Boxed W1 w.heap.size 4 (.bool false) ∧ Below w.heap.size w W1 := ⟨_, rfl, Boxed.new _ _ _, (Below.refl _ w).alloc (Nat.le_refl _) _⟩
  have hs1 : W1.heap.size = w.heap.size + 1 := by rw [← hW1]; simp
  simp only [hW1]
  obtain ⟨W, hW, H2, H3⟩ : ∃ W, (W1.alloc (.cells #[.slice none 0 0, .int .i64 0, .int .i64 0] 50)).alloc (.cells #[.pointer none] 24) = W ∧ Boxed W (w.heap.size + 1 + 1) 24 (.pointer none) ∧ InI W1 (w.heap.size + 1) 0 [] W := by
    refine ⟨_, rfl, ?_, ?_⟩
    · have := Boxed.new (W1.alloc (.cells #[.slice none 0 0, .int .i64 0, .int .i64 0] 50)) 24 (.pointer none)
      rw [World.size_alloc, hs1] at this
      exact this
    · have hb : Below W1.heap.size W1 (W1.alloc (.cells #[.slice none 0 0, .int .i64 0, .int .i64 0] 50)) := (Below.refl _ W1).alloc (Nat.le_refl _) _
      have hh := heap_alloc_new W1 (.cells #[.slice none 0 0, .int .i64 0, .int .i64 0] 50)
      rw [hs1] at hh
      exact InI.later ⟨⟨W1.heap.size, _, ⟨.slice none 0 0, 0, ⟨by omega, hh, .inl ⟨rfl, rfl, rfl, rfl⟩, by omega⟩, rfl⟩, Nat.le_refl _⟩, hb⟩ ((Below.refl _ _).alloc (Nat.le_refl _) _)
  simp only [hW]
  have hs := H2.lt
  have hw := H3.b.size
  clear hW hW1
  refine wpIn_named fun fr hfr => ?_
  refine rangeA (vals := fun x : Int × Nat => #[.int .i64 (x.2 : Int), .int .i64 x.1]) (gf := 33) (lb := #[.pointer (some ⟨w.heap.size + 1 + 1, 0, none⟩)]) (by rw [hfr]; rfl) (enters_of Try.func33 (by kernel_rfl) rfl)
    (all_seq (9 - 1) (by omega) none _ [] [] W (by simp) H2 (fun V _ => (things_nilI V).mono (by rintro e w' ⟨rfl, rfl⟩; exact ⟨_, rfl, World.ownsRow_nil _ _ _ _, Below.refl _ _⟩)) (by simp)) (Below.refl _ _) (fun x => rfl)
    (fun pre V => InI W1 (w.heap.size + 1) 0 [] V) (fun _ _ _ => False)
    (fun pre X Y row h hg hr => h.own hg hr hw) (fun c s X Y row h _ _ => h) H3
    (fun x => { tmps := (fr.tmps.setIfInBounds 33 (.int .i64 (x.2 : Int))).setIfInBounds 34 (.int .i64 x.1), defers := [] })
    ?assign ?body ?done ?stop
  case assign =>
    intro l2 x V K hK
    subst hfr
    gi_wp2
    exact hK
  case body =>
    intro l2 pre x r V _ hL
    simp [prs] at hL
  case done =>
    rintro D V hD hI hK
    subst hfr
    have L0 := Lib.hid (hI.len (n := 0) rfl)
    have PQ := Lib.hid (show Calls Try.prog 12 #[.pointer (some ⟨w.heap.size + 1, 0, none⟩), .int .i64 n] V (InPI2 (.tuple #[]) W1 (w.heap.size + 1) 4 [n] V) from in_push2 hI n (by omega))
    have PP := Lib.hid (fun V (h : InI W1 (w.heap.size + 1) 4 [n] V) => in_pop2 h)
    have HI := Lib.hid hI
    have hDl := (Array.getElem?_eq_some_iff.1 hK).1
    clear hI
    gi_wp2_with (first
      | (refine ⟨trivial, ?_⟩; gi_at_call 20; refine (callsIn_wide.2 L0.out).mono ?_; rintro e w5 ⟨rfl, rfl⟩)
      | (refine ⟨trivial, ?_⟩; gi_at_call 12; refine (callsIn_wide.2 PQ.out).mono ?_; rintro e w6 ⟨rfl, h6, o6⟩)
      | (refine ⟨trivial, ?_⟩; gi_at_call 13; refine (callsIn_wide.2 (PP.out _ h6)).mono ?_; rintro e w7 ⟨rfl, h7, o7⟩)
      | (refine ⟨trivial, ?_⟩; gi_at_call 8; refine (callsIn_wide.2 (AW.out _)).mono ?_; rintro e w8 ⟨rfl, hB8⟩; have h8 := h7.later hB8; have b8 := h8.box R1; have c8 := b8.cell; have f8 := b8.frozen)
      | (refine ⟨trivial, ?_⟩; gi_at_call 20; refine (callsIn_wide.2 (LN.out _)).mono ?_; rintro e w9 ⟨rfl, rfl⟩)
      | (refine ⟨trivial, ?_⟩; gi_at_call 21; refine (callsIn_wide.2 (RN.out _)).mono ?_; rintro e w10 ⟨rfl, rfl⟩))
    have hK8 : w8.heap[D]? = some (.deferred (some [])) := by
      have h2 := o7.same D _ (o6.same D _ hK rfl) rfl
      exact (hB8.block D (Array.getElem?_eq_some_iff.1 h2).1).trans h2
    have hK9 : (w8.setCell ⟨w.heap.size, 0, none⟩ (.bool true)).heap[D]? = some (.deferred (some [])) := by
      rw [Below.heap_setCell _ _ _ _ (by simp; omega)]
      exact hK8
    have hb9 := Boxed.set (.bool true) b8
    have hB9 : Below w.heap.size w (w8.setCell ⟨w.heap.size, 0, none⟩ (.bool true)) := (BW.trans (h8.b.mono (by omega))).setCell (Nat.le_refl _) _
    generalize w8.setCell ⟨w.heap.size, 0, none⟩ (.bool true) = w9 at *
    refine ⟨by simp, .inl ⟨_, _, rfl, run_takeDeferred hK9, ?_⟩⟩
    have hc : (w9.putObj D (.deferred none)).cell? ⟨w.heap.size, 0, none⟩ = some (.bool true) := by
      rw [← hb9.cell]; simp [World.cell?, World.putObj_heap_other (show w.heap.size ≠ D by omega)]
    exact ⟨.bool true, by simp [results, Try.f7, go_sem, hc], rfl, hB9.trans (belowK_b (w := w) (Nat.le_refl _) w9 D _ _ (by omega) hK9 rfl rfl)⟩
  case stop =>
    rintro D c pre x r V hD hL h hK
    exact h.elim
end Go.Proofs.Ytgcchmenadgboaa
