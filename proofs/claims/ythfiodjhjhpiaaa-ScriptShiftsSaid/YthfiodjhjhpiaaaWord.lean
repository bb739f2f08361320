/- Word's contract. -/
import Derived.Test.YthfiodjhjhpiaaaToks
namespace Go.Proofs.Ythfiodjhjhpiaaa
open Go.RowKit Go.Shelf
set_option linter.unusedVariables false
attribute [local go_sem] Oper.semAt_some

/-- Is the text one word? -/
def wordB (s : ByteArray) : Bool := match tokL s with
  | [] => false
  | x :: _ => decide (x.k = 1) && decide (x.t.length = s.size)

set_option maxRecDepth 100000 in
set_option maxHeartbeats 4000000 in
theorem word_any (s : ByteArray) (w : World) (hs : s.size ≤ 100000) :
    Calls Try.prog 56 #[.string s] w fun e w' => e = .returned (.bool (wordB s)) ∧ Below w.heap.size w w' := by
  refine (callsIn_wide (n := 9)).1 ?_
  refine callsIn_of_wp_marks Try.func56 rfl trivial ?_ rfl
  simp only [Try.ntmps56, List.size_toArray, List.length_cons, List.length_nil, Nat.reduceAdd, Nat.reduceSub, Array.replicate_succ, Array.replicate_zero, List.push_toArray, List.append_toArray, List.nil_append, List.cons_append]
  obtain ⟨W1, hW1, S1, R1, b1, s1⟩ : ∃ W1, (w.alloc (.cells #[.string s] 9)).alloc (.cells #[.bool false] 4) = W1 ∧ Boxed W1 w.heap.size 9 (.string s) ∧ Boxed W1 (w.heap.size + 1) 4 (.bool false) ∧ Below w.heap.size w W1 ∧ W1.heap.size = w.heap.size + 2 :=
    ⟨_, rfl, Boxed.alloc (Boxed.new _ _ _) _, (by have := Boxed.new (w.alloc (.cells #[.string s] 9)) 4 (.bool false); rwa [World.size_alloc] at this), ((Below.refl _ _).alloc (Nat.le_refl _) _).alloc (by simp) _, by simp⟩
  have c1 := S1.cell
  gi_wp2_with (refine ⟨trivial, ?_⟩; gi_at_call 59; refine (callsIn_wide.2 (each_seq_any _ _)).mono ?_; rintro e w' ⟨rfl, rfl⟩)
  obtain ⟨W2, hW2, S2, R2, P2, B2, s2⟩ : ∃ W2, W1.alloc (.cells #[.string s] 9) = W2 ∧ Boxed W2 w.heap.size 9 (.string s) ∧ Boxed W2 (w.heap.size + 1) 4 (.bool false) ∧ Boxed W2 W1.heap.size 9 (.string s) ∧ Below w.heap.size w W2 ∧ w.heap.size + 2 < W2.heap.size :=
    ⟨_, rfl, Boxed.alloc S1 _, Boxed.alloc R1 _, Boxed.new _ _ _, b1.trans ((Below.refl _ _).alloc b1.size _), by simp; omega⟩
  rw [s1] at P2
  (try rw [hW2])
  clear hW1 hW2 S1 R1 b1 c1 s1
  have hw2 := B2.size
  refine rangeO (gf := 60) (lb := #[.pointer (some ⟨w.heap.size + 2, 0, none⟩)]) rfl (enters_of Try.func60 (by kernel_rfl) rfl)
    (each1_seq (9 - 1) (by omega) (w.heap.size + 2) s hs W2 P2) (Below.refl _ _) rfl
    (fun pre V => (pre = [] ∧ Boxed V w.heap.size 9 (.string s) ∧ Boxed V (w.heap.size + 1) 4 (.bool false)) ∧ Below w.heap.size w V)
    (fun c pre V => (c = .ret ∧ ∃ x, pre = [x] ∧ Boxed V (w.heap.size + 1) 4 (.bool (decide (x.k = 1) && decide (x.t.length = s.size)))) ∧ Below w.heap.size w V)
    (OwnFrom.and (fun pre X Y row h hg hr => ⟨h.1, boxed_kept h.2.1 hg (fun r e => (hr r e).2), boxed_kept h.2.2 hg (fun r e => (hr r e).2)⟩) (ownFrom_below (Nat.le_refl _) hw2))
    (fun c => OwnFrom.and (fun pre X Y row h hg hr => ⟨h.1, h.2.imp fun x h => ⟨h.1, boxed_kept h.2 hg (fun r e => (hr r e).2)⟩⟩) (ownFrom_below (Nat.le_refl _) hw2))
    ⟨⟨rfl, S2, R2⟩, B2⟩
    (fun x a' V => ∃ Bx, TB V Bx x ∧ a' = { tmps := #[.string s, .pointer (some ⟨w.heap.size, 0, none⟩), .pointer (some ⟨w.heap.size + 1, 0, none⟩), .pointer (some ⟨Bx, 0, none⟩), .string s, .func (.func 60) #[] #[.pointer (some ⟨w.heap.size + 2, 0, none⟩)], tkV x, undef, undef, undef, undef, undef, undef, undef, undef, undef, undef, undef], defers := [] })
    (fun x a' _ X Y row hs hg hr => hs.imp fun Bx h => ⟨h.1.kept hg (fun r e => (hr r e).2), h.2⟩)
    ?assign ?body ?done ?stop
  case assign =>
    rintro l2 pre x V K ⟨⟨hp, hS, hR⟩, hB⟩ hK
    gi_wp2
    exact hK _ _ ((KeepsOthers.alloc _ _).from _) (Kp.alloc _ _) ⟨⟨hp, Boxed.alloc hS _, Boxed.alloc hR _⟩, hB.trans ((Below.refl _ _).alloc hB.size _)⟩ ⟨_, TB.new V x, rfl⟩
  case body =>
    rintro l2 pre x a' V ⟨⟨rfl, hS, hR⟩, hB⟩ ⟨Bx, hT, rfl⟩ hlen
    have c0 := hT.c0
    have c2 := hT.c2
    have cs := hS.cell
    have cr := hR.cell
    have fr := hR.frozen
    have hbn := bs_size x.t
    by_cases hk : x.k = 1
    · have t0 : ((x.k : Int) == 1) = true := by simp; omega
      by_cases hl : x.t.length = s.size
      · have t1 : ((x.t.length : Int) == (s.size : Int)) = true := by simp; omega
        have HX := Lib.hid (And.intro hk hl)
        clear hk hl
        gi_wp2
        exact ⟨(KeepsOthers.setCell _ _ _).from _, ⟨rfl, x, rfl, by rw [HX.out.1, HX.out.2]; simpa using hR.set (.bool true)⟩, hB.setCell (p := ⟨w.heap.size + 1, 0, none⟩) (Nat.le_succ _) _⟩
      · have t1 : ((x.t.length : Int) == (s.size : Int)) = false := by simp; omega
        have HX := Lib.hid (And.intro hk hl)
        clear hk hl
        gi_wp2
        exact ⟨(KeepsOthers.setCell _ _ _).from _, ⟨rfl, x, rfl, by rw [HX.out.1]; simpa [HX.out.2] using hR.set (.bool false)⟩, hB.setCell (p := ⟨w.heap.size + 1, 0, none⟩) (Nat.le_succ _) _⟩
    · have t0 : ((x.k : Int) == 1) = false := by simp; omega
      have HX := Lib.hid hk
      clear hk
      gi_wp2
      exact ⟨(KeepsOthers.setCell _ _ _).from _, ⟨rfl, x, rfl, by simpa [HX.out] using hR.set (.bool false)⟩, hB.setCell (p := ⟨w.heap.size + 1, 0, none⟩) (Nat.le_succ _) _⟩
  case done =>
    rintro D xs V hD hS ⟨⟨rfl, _, hR⟩, hB⟩ hK
    have cr := hR.cell
    have fr := hR.frozen
    have hwb : wordB s = false := by unfold wordB; rw [← hS]
    have HW := Lib.hid hwb
    clear hwb hS
    gi_wp2
    have hK' := (KeepsOthers.setCell V ⟨w.heap.size + 1, 0, none⟩ (.bool false)).same D _ hK rfl
    refine ⟨by simp, .inl ⟨_, _, rfl, run_takeDeferred hK', ?_⟩⟩
    have hc := cell_kept (hR.set (.bool false)).cell (grownBy_putObj' _ D (.deferred none)) (fun r e => by cases e; exact ⟨_, hK', rfl⟩)
    refine ⟨.bool false, ?_, by rw [HW.out], (hB.setCell (p := ⟨w.heap.size + 1, 0, none⟩) (Nat.le_succ _) _).trans (belowK_b (w := w) (Nat.le_refl _) _ D _ _ (by omega) hK' rfl rfl)⟩
    simp [results, Try.f56, go_sem, hc]
  case stop =>
    rintro D c pre V hD hpre ⟨⟨rfl, x, rfl, hR⟩, hB⟩ hK
    gi_wp2
    refine ⟨by simp, .inl ⟨_, _, rfl, run_takeDeferred hK, ?_⟩⟩
    have hc := cell_kept hR.cell (grownBy_putObj' _ D (.deferred none)) (fun r e => by cases e; exact ⟨_, hK, rfl⟩)
    obtain ⟨r, hr⟩ := hpre
    refine ⟨.bool (decide (x.k = 1) && decide (x.t.length = s.size)), ?_, by rw [wordB, ← hr]; rfl, hB.trans (belowK_b (w := w) (Nat.le_refl _) _ D _ _ (by omega) hK rfl rfl)⟩
    simp [results, Try.f56, go_sem, hc]
end Go.Proofs.Ythfiodjhjhpiaaa
