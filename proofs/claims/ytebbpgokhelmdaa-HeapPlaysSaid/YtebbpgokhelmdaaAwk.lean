/- The chapter's example. -/
import Derived.Test.YtebbpgokhelmdaaHJI
namespace Go.Proofs.Ytebbpgokhelmdaa
open Go.RowKit Go.Shelf
set_option linter.unusedVariables false
set_option linter.unusedSimpArgs false
attribute [local go_sem] Oper.semAt_some

def dv (l : List Int) : Int := l.foldl (fun n x => 10 * n + x) 0
theorem dv_snoc (l : List Int) (x : Int) : dv (l ++ [x]) = 10 * dv l + x := by simp [dv]
theorem ex_all : allInI [5, 1, 4, 1] = [1, 1, 4, 5] := by decide
theorem ex_bd {pre r : List Int} {x : Int} (h : [1, 1, 4, 5] = pre ++ x :: r) : 0 ≤ dv pre ∧ dv pre ≤ 114 ∧ 1 ≤ x ∧ x ≤ 5 := by
  match pre, h with
  | [], h => simp at h; obtain ⟨rfl, _⟩ := h; simp [dv]
  | [a], h => simp at h; obtain ⟨rfl, rfl, _⟩ := h; simp [dv]
  | [a, b], h => simp at h; obtain ⟨rfl, rfl, rfl, _⟩ := h; simp [dv]
  | [a, b, c], h => simp at h; obtain ⟨rfl, rfl, rfl, rfl, _⟩ := h; simp [dv]
  | a :: b :: c :: d :: e, h => simp at h
def OkB (w : World) (e : Ending) (w' : World) : Prop := e = .returned (.bool true) ∧ Below w.heap.size w w'
theorem row_four (w : World) : RowOfI (w.alloc (.cells #[.int .i64 5, .int .i64 1, .int .i64 4, .int .i64 1] 3)) (some ⟨w.heap.size, 0, none⟩) [5, 1, 4, 1] := by
  intro i x hx
  refine ⟨_, _, rfl, by simp, ?_, ?_⟩
  · unfold okI in64
    match i, hx with
    | 0, hx => simp at hx; omega
    | 1, hx => simp at hx; omega
    | 2, hx => simp at hx; omega
    | 3, hx => simp at hx; omega
    | n + 4, hx => simp at hx
  · rw [Nat.zero_add, cell_of_row _ _ _ _ _ _ (heap_alloc_new w _)]
    match i, hx with
    | 0, hx => simp at hx; subst hx; rfl
    | 1, hx => simp at hx; subst hx; rfl
    | 2, hx => simp at hx; subst hx; rfl
    | 3, hx => simp at hx; subst hx; rfl
    | n + 4, hx => simp at hx
set_option maxRecDepth 100000 in
set_option maxHeartbeats 4000000 in
theorem awake_any (w : World) : Calls Try.prog 8 #[] w (OkB w) := by
  have hfn := run_eql_seqI
  have hb0 : Below w.heap.size w (w.alloc (.cells #[.int .i64 5, .int .i64 1, .int .i64 4, .int .i64 1] 3)) := (Below.refl _ _).alloc (Nat.le_refl _) _
  have NW := new_anyI (n := 4) (cap := 4) _ (row_four w) rfl (by omega) (by omega) (by omega)
  rw [ex_all] at NW
  have NW := Lib.hid NW
  have HB0 := Lib.hid hb0
  clear hb0
  refine (callsIn_wide (n := 9)).1 ?_
  refine callsIn_of_wp_marks Try.func8 rfl trivial ?_ rfl
  simp only [Try.ntmps8, List.size_toArray, List.length_cons, List.length_nil, Nat.reduceAdd, Nat.reduceSub, Array.replicate_succ, Array.replicate_zero, List.push_toArray, List.append_toArray, List.nil_append, List.cons_append]
  gi_wp2_with (first
    | (refine ⟨trivial, ?_⟩; gi_at_call 18; refine (callsIn_wide.2 NW.out).mono ?_; rintro e w1 ⟨X, rfl, hH1, hB1⟩; have HH1 := Lib.hid hH1; have HB1 := Lib.hid (HB0.out.trans (hB1.mono HB0.out.size)); clear hH1 hB1)
    | (refine ⟨trivial, ?_⟩; gi_at_call 26; refine (callsIn_wide.2 (drain_anyI _ _)).mono ?_; rintro e w2 ⟨rfl, rfl⟩))
  clear hfn
  have hH := HH1.out
  have hB := HB1.out
  clear HH1 HB1 HB0 NW
  simp only [World.size_alloc] at hH
  have hs1 : w.heap.size < w1.heap.size := by have := (hH.ge (w.heap.size + 1) hH.mem).2; omega
  obtain ⟨W2, hW2, L2, H2, B2, hbl, hb1⟩ : ∃ W2, (w1.alloc (.cells #[.pointer (some ⟨w.heap.size + 1, 0, none⟩)] 48)).alloc (.cells #[.int .i64 0] 3) = W2 ∧ Boxed W2 (w1.heap.size + 1) 3 (.int .i64 0) ∧ DHI (w.heap.size + 1) (w.heap.size + 1) 4 w1.heap.size X [1, 1, 4, 5] W2 ∧ Below w.heap.size w W2 ∧ w1.heap.size + 1 < W2.heap.size ∧ (∀ k ∈ X, k < w1.heap.size) := by
    have hbb : Below w1.heap.size w1 ((w1.alloc (.cells #[.pointer (some ⟨w.heap.size + 1, 0, none⟩)] 48)).alloc (.cells #[.int .i64 0] 3)) := ((Below.refl _ _).alloc (Nat.le_refl _) _).alloc (by simp) _
    refine ⟨_, rfl, ?_, ⟨hH.later hbb, ?_⟩, hB.trans (hbb.mono hB.size), by simp, fun k hk => (hH.ge k hk).2⟩
    · have := Boxed.new (w1.alloc (.cells #[.pointer (some ⟨w.heap.size + 1, 0, none⟩)] 48)) 3 (.int .i64 0)
      rwa [World.size_alloc] at this
    · exact Boxed.alloc (Boxed.new _ _ _) _
  rw [hW2]
  generalize w1.heap.size = bn at *
  have hw2 := B2.size
  refine rangeD valI (gf := 38) (lb := #[.pointer (some ⟨bn, 0, none⟩)]) rfl (enters_of Try.func38 (by kernel_rfl) rfl)
    (drain_seqI [1, 1, 4, 5] (9 - 1) (by omega) (fun hm => by have := hb1 _ hm; omega)) rfl H2 (fun r W W' h hs => h.same hs)
    (fun k hk => by rcases List.mem_cons.1 hk with rfl | hk; omega; have := hb1 k hk; omega)
    (fun pre V => Boxed V (bn + 1) 3 (.int .i64 (dv pre)) ∧ Below w.heap.size w V) (fun _ _ _ => False)
    ?own (fun _ _ _ _ _ h _ _ => h) ?IY (fun _ _ _ _ h _ => h) ⟨L2, B2⟩
    (fun x a' V => a' = { tmps := #[.bool false, .pointer (some ⟨w.heap.size + 1, 0, none⟩), .func (.func 38) #[] #[.pointer (some ⟨bn, 0, none⟩)], .pointer (some ⟨bn + 1, 0, none⟩), .int .i64 x, .slice (some ⟨w.heap.size, 0, none⟩) 4 4, .pointer (some ⟨w.heap.size + 1, 0, none⟩), .pointer (some ⟨w.heap.size + 1, 0, none⟩), .func (.func 38) #[] #[.pointer (some ⟨bn, 0, none⟩)], .func (.func 38) #[] #[.pointer (some ⟨bn, 0, none⟩)], .bool false, .func (.func 38) #[] #[.pointer (some ⟨bn, 0, none⟩)], .int .i64 x, undef, undef, undef, undef, undef, undef, undef, undef, undef, undef, undef], defers := [] })
    (fun x a' _ X Y row h _ _ => h)
    ?assign ?body ?done ?stop
  case own => exact OwnFrom.and (fun pre X Y row h hg hr => boxed_kept h hg (fun r e => (hr r e).2)) (ownFrom_below (Nat.le_refl _) hw2)
  case IY =>
    rintro pre W1 W2 ⟨h1, h2⟩ hk
    refine ⟨(hk.block _ h1.lt ?_).trans h1, h2.trans (hk.below h2.size ?_)⟩
    · intro hm
      rcases List.mem_cons.1 hm with hm | hm
      · omega
      · have := hb1 _ hm; omega
    · intro k hm
      rcases List.mem_cons.1 hm with rfl | hm
      · omega
      · have := (hH.ge k hm).1; omega
  case assign =>
    intro l2 pre x V K hI hK
    gi_wp2
    exact hK _ _ (KeepsFrom.refl _ _) (SameB.refl _ _) hI rfl
  case body =>
    rintro l2 pre x r a' V ⟨hb, hB⟩ rfl hL
    have hbd := ex_bd hL
    have c0 := hb.cell
    have f0 := hb.frozen
    have hn := hb.lt
    gi_wp2
    refine ⟨(KeepsOthers.setCell _ _ _).from _, fun k hk => Below.heap_setCell _ _ _ _ (fun e => ?_), ?_, hB.setCell (by simp; omega) _⟩
    · rcases List.mem_cons.1 hk with rfl | hk
      · simp at e
      · have := hb1 _ hk; simp at e; omega
    · rw [dv_snoc]; exact Boxed.set _ hb
  case done =>
    rintro D V hD ⟨hb, hB⟩ hH0 hK
    have cv := hb.cell
    have HL := Lib.hid (hlenI hH0.1)
    gi_wp2_with (refine ⟨trivial, ?_⟩; gi_at_call 23; refine (callsIn_wide.2 HL.out).mono ?_; rintro e w4 ⟨rfl, rfl⟩)
    refine ⟨by simp, .inl ⟨_, _, rfl, run_takeDeferred hK, ?_⟩⟩
    exact ⟨.bool true, by simp [results, Try.f8, go_sem], rfl, hB.trans (belowK_b (w := w) (Nat.le_refl _) V D _ _ (by omega) hK rfl rfl)⟩
  case stop =>
    rintro D c pre x r V hD hL h _ hK
    exact h.elim
end Go.Proofs.Ytebbpgokhelmdaa
