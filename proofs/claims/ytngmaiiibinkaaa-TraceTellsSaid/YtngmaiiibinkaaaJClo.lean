/- The closures that ask whether a job is right. -/
import Derived.Test.YtngmaiiibinkaaaJCut
namespace Go.Proofs.Ytngmaiiibinkaaa
open Go.RowKit
set_option linter.unusedVariables false
set_option linter.unusedSimpArgs false

theorem box_job (w : World) (x : Fv) (C : Option Addr) (cc : Nat) : Below w.heap.size w (w.alloc (.cells #[.int .i64 x.t, .int .i64 x.a, .int .i64 x.r, .int .i64 x.k, .slice C x.c.length cc] 60)) := (Below.refl _ _).alloc (Nat.le_refl _) _
def Lt2 (W1 : World) (b8 M : Nat) (W : World) : Prop := Below W1.heap.size W1 W
abbrev D2 (W1 : World) (b8 M : Nat) (x : Fv) (A : Option Addr) (n cap : Nat) (W : World) : Prop :=
  W.cell? ⟨b8, 0, none⟩ = some (.int .i64 x.t) ∧ W.cell? ⟨b8, 1, none⟩ = some (.int .i64 x.a) ∧ W.cell? ⟨M + 1, 0, none⟩ = some (.slice A n cap) ∧ W.cell? ⟨M + 1, 1, none⟩ = some (.map (some M)) ∧ Lt2 W1 b8 M W
theorem D2.step {W1 : World} {b8 M : Nat} {x : Fv} {A : Option Addr} {n cap : Nat} {W W' : World} (h : D2 W1 b8 M x A n cap W) (hb : Below W.heap.size W W') : D2 W1 b8 M x A n cap W' := by
  obtain ⟨h0, h1, h2, h3, hl⟩ := h
  have hc := cells_below hb
  exact ⟨hc _ _ _ h0, hc _ _ _ h1, hc _ _ _ h2, hc _ _ _ h3, Below.trans hl (hb.mono (Below.size hl))⟩
end Go.Proofs.Ytngmaiiibinkaaa
