/- The contract of Next. -/
import Derived.Test.YthmngibmpkgjkaaDoorFirst
namespace Go.Proofs.YthmngibmpkgjkaaDoor
open Go.RowKit
set_option linter.unusedVariables false

def aboveF (f : Nat → Bool) (n : Int) : Nat → Bool := fun k => f k && decide (n < (k : Int))
theorem nums_above (f : Nat → Bool) (n m : Int) (h : ∀ k : Nat, k < 1024 → (n < (k : Int) ↔ ¬ (k : Int) < m)) : nums (minusF f (belowF m)) = nums (aboveF f n) :=
  nums_congr (cellsL_ext fun i hi => word_ext fun j hj => by
    have := h (64 * i + j) (by omega)
    simp only [minusF, belowF, aboveF, this, decide_not])

/-- What stays: below the call's first block all is as it was; the table reads as it does. -/
def KeptT (w w' : World) : Prop := Below w.heap.size w w' ∧ Tab w'
theorem KeptT.step {w W w1 : World} (h : KeptT w W) (hb : Below W.heap.size W w1) : KeptT w w1 := ⟨h.1.trans (hb.mono h.1.size), h.2.below hb⟩
theorem range_step {W w1 : World} {b o : Nat} {cs : List Value} (h : W.rangeAt b o cs) (hb : Below W.heap.size W w1) : w1.rangeAt b o cs := fun j v hv => by
  have := h j v hv
  rw [hb.cell (World.block_lt_of_cell? W _ this)]; exact this
theorem next_keep {w W w1 : World} {b : Nat} {cs : List Value} (h : W.rangeAt b 0 cs ∧ KeptT w W) (hb : Below W.heap.size W w1) : w1.rangeAt b 0 cs ∧ KeptT w w1 := ⟨range_step h.1 hb, h.2.step hb⟩
theorem tab_of {w W : World} {b : Nat} {cs : List Value} (h : W.rangeAt b 0 cs ∧ KeptT w W) : Tab W := h.2.2
theorem below_of {w W : World} {b : Nat} {cs : List Value} (h : W.rangeAt b 0 cs ∧ KeptT w W) : Below w.heap.size w W := h.2.1
theorem below_drew (W : World) : Below W.heap.size W W.drew := (Below.refl _ _).drew

set_option maxRecDepth 100000 in
set_option maxHeartbeats 2000000 in
theorem next_lo (f : Nat → Bool) (n : Int) (w : World) (hT : Tab w) (h0 : -9223372036854775808 ≤ n) (h1 : n ≤ 9223372036854775807) (hm : n ≤ 1024) :
    Calls Tryd.prog 25 #[setV f, .int .i64 n] w fun e w' => e = .returned (.tuple #[.int .i64 (hdN (nums (minusF f (belowF (n + 1))))), .bool (hdB (nums (minusF f (belowF (n + 1)))))]) ∧ Below w.heap.size w w' := by
  have hu : Tryd.prog.underlying 26 = some _ := Tryd.underlying26
  have hi := info26 f
  have b0 := Box.new w f
  have hb := (Below.refl w.heap.size w).alloc (Nat.le_refl _) (.cells (cellsL f).toArray 26)
  have hK : KeptT w (w.alloc (.cells (cellsL f).toArray 26)) := ⟨hb, hT.below hb⟩
  have hr := b0.range
  have B := Lib.hid (fun w => below_any (n + 1) w (by omega) (by omega))
  have M := Lib.hid (fun w => minus_any f (belowF (n + 1)) w)
  have F := Lib.hid (fun w hT => first_any (minusF f (belowF (n + 1))) w hT)
  clear hT b0 hb
  generalize hd1 : hdN (nums (minusF f (belowF (n + 1)))) = r1 at *
  generalize hd2 : hdB (nums (minusF f (belowF (n + 1)))) = r2 at *
  clear hd1 hd2
  generalize hs : minusF f (belowF (n + 1)) = fm at *
  generalize hs2 : belowF (n + 1) = fb at *
  clear hs hs2
  go_enter Tryd.func25, Tryd.ntmps25
  go_wp2
  generalize w.alloc (.cells (cellsL f).toArray 26) = W at *
  have e1 : IntKind.i64.wrap (n + 1) = n + 1 := IntWalk.i64_in _ (by omega)
  have S0 := And.intro hr hK
  clear hr hK
  go_region_held3 (fun w' => w'.rangeAt w.heap.size 0 (cellsL f) ∧ KeptT w w')
    (first | (exact next_keep S0 (below_drew _)) | assumption | (refine next_keep ?_ (by assumption); assumption))
    (first
    | (go_at_call 20; refine (B.out _).mono ?_; rintro e wb ⟨rfl, hbb⟩)
    | (go_at_call 19; refine (M.out _).mono ?_; rintro e wm ⟨rfl, hbm⟩)
    | (go_at_call 24; refine (F.out _ (tab_of (w := w) (b := w.heap.size) (cs := cellsL f) (by assumption))).mono ?_; rintro e wf ⟨rfl, hbf⟩))
  have hfin := below_of (w := w) (b := w.heap.size) (cs := cellsL f) (by assumption)
  go_wp2
  go_ret2
  exact ⟨rfl, hfin⟩
set_option maxRecDepth 100000 in
set_option maxHeartbeats 2000000 in
theorem next_hi (f : Nat → Bool) (n : Int) (w : World) (hT : Tab w) (h0 : -9223372036854775808 ≤ n) (h1 : n ≤ 9223372036854775807) (hm : 1024 < n) :
    Calls Tryd.prog 25 #[setV f, .int .i64 n] w fun e w' => e = .returned (.tuple #[.int .i64 (hdN (nums (minusF f (belowF (1025))))), .bool (hdB (nums (minusF f (belowF (1025)))))]) ∧ Below w.heap.size w w' := by
  have hu : Tryd.prog.underlying 26 = some _ := Tryd.underlying26
  have hi := info26 f
  have b0 := Box.new w f
  have hb := (Below.refl w.heap.size w).alloc (Nat.le_refl _) (.cells (cellsL f).toArray 26)
  have hK : KeptT w (w.alloc (.cells (cellsL f).toArray 26)) := ⟨hb, hT.below hb⟩
  have hr := b0.range
  have B := Lib.hid (fun w => below_any (1025) w (by omega) (by omega))
  have M := Lib.hid (fun w => minus_any f (belowF (1025)) w)
  have F := Lib.hid (fun w hT => first_any (minusF f (belowF (1025))) w hT)
  clear hT b0 hb
  generalize hd1 : hdN (nums (minusF f (belowF (1025)))) = r1 at *
  generalize hd2 : hdB (nums (minusF f (belowF (1025)))) = r2 at *
  clear hd1 hd2
  generalize hs : minusF f (belowF (1025)) = fm at *
  generalize hs2 : belowF (1025) = fb at *
  clear hs hs2
  go_enter Tryd.func25, Tryd.ntmps25
  go_wp2
  generalize w.alloc (.cells (cellsL f).toArray 26) = W at *
  have e1 : IntKind.i64.wrap (1025) = 1025 := IntWalk.i64_in _ (by omega)
  have S0 := And.intro hr hK
  clear hr hK
  go_region_held3 (fun w' => w'.rangeAt w.heap.size 0 (cellsL f) ∧ KeptT w w')
    (first | (exact next_keep S0 (below_drew _)) | assumption | (refine next_keep ?_ (by assumption); assumption))
    (first
    | (go_at_call 20; refine (B.out _).mono ?_; rintro e wb ⟨rfl, hbb⟩)
    | (go_at_call 19; refine (M.out _).mono ?_; rintro e wm ⟨rfl, hbm⟩)
    | (go_at_call 24; refine (F.out _ (tab_of (w := w) (b := w.heap.size) (cs := cellsL f) (by assumption))).mono ?_; rintro e wf ⟨rfl, hbf⟩))
  have hfin := below_of (w := w) (b := w.heap.size) (cs := cellsL f) (by assumption)
  go_wp2
  go_ret2
  exact ⟨rfl, hfin⟩

/-- **Next's contract.** -/
theorem next_any (f : Nat → Bool) (n : Int) (w : World) (hT : Tab w) (h0 : -9223372036854775808 ≤ n) (h1 : n ≤ 9223372036854775807) :
    Calls Tryd.prog 25 #[setV f, .int .i64 n] w fun e w' => e = .returned (.tuple #[.int .i64 (hdN (nums (aboveF f n))), .bool (hdB (nums (aboveF f n)))]) ∧ Below w.heap.size w w' := by
  by_cases h : n ≤ 1024
  · have := next_lo f n w hT h0 h1 h
    rwa [nums_above f n (n + 1) (fun k hk => by omega)] at this
  · have := next_hi f n w hT h0 h1 (by omega)
    rwa [nums_above f n 1025 (fun k hk => by omega)] at this
end Go.Proofs.YthmngibmpkgjkaaDoor
