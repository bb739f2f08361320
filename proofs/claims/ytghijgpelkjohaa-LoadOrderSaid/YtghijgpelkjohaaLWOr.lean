/- LoadOrder: the walk. -/
import Derived.Test.YtghijgpelkjohaaLOrd
import Derived.Test.YtghijgpelkjohaaLAwk
namespace Go.Proofs.Ytghijgpelkjohaa
open Go.RowKit
set_option linter.unusedVariables false
set_option linter.unusedSimpArgs false
set_option maxRecDepth 100000 in
set_option maxHeartbeats 8000000 in
theorem lor_walk (A0 : Option Addr) (cap0 : Nat) (l0 : List Sp) (A1 : Option Addr) (cap1 : Nat) (l1 : List Int) (w : World) (h0 : SRow w A0 cap0 l0) (h1 : CRow w A1 cap1 l1) :
    Calls Try.prog 5 #[.slice A0 l0.length cap0, .slice A1 l1.length cap1] w fun e w' => e = .returned (.bool true) ∧ Below w.heap.size w w' := by
  have KA := Lib.hid awake_any
  have KS := Lib.hid (fun W (h : Lt w W) => set_any 8 (by omega) (by omega) A0 cap0 l0 1 W (h0.later h) ⟨by decide, by decide⟩)
  have KU := Lib.hid (fun W (h : Lt w W) => tasks_any A1 cap1 l1 44 W (h1.later h) ⟨by decide, by decide⟩)
  have KM := Lib.hid (fun W A cap l hR h8 => order_any A cap l W hR h8)
  have HL : Hid (Lt w w) := Lib.hid (Below.refl _ _)
  generalize l0.length = n0 at *
  generalize l1.length = n1 at *
  clear h0 h1
  go_enter Try.func5, Try.ntmps5
  go_wp2_with (first
    | (go_at_call 9; (with_reducible refine (KA.out _).mono ?_); rintro e v ⟨rfl, h⟩; have HL := Lib.hid (lt_step _ _ HL.out h); clear h)
    | (go_at_call 11; (with_reducible refine (KS.out _ HL.out).mono ?_); rintro e v ⟨A, cap, ts, rfl, hR, -, hM, -, -, -, h⟩; have HR := Lib.hid hR; have H8 : Hid (ts.length ≤ 8) := Lib.hid (by omega); have HL := Lib.hid (lt_step _ _ HL.out h); clear h hR hM)
    | (go_at_call 12; (with_reducible refine (KU.out _ HL.out).mono ?_); rintro e v ⟨A, cap, ts, rfl, hR, hM, h⟩; have HR := Lib.hid hR; have H8 : Hid (ts.length ≤ 8) := Lib.hid hM; have HL := Lib.hid (lt_step _ _ HL.out h); clear h hR hM)
    | (go_at_call 16; (with_reducible refine (KM.out _ _ _ _ HR.out H8.out).mono ?_); rintro e v ⟨rfl, h⟩; have HL := Lib.hid (lt_step _ _ HL.out h); clear h)
    | fail)
  go_ret
  exact ⟨rfl, HL.out⟩
end Go.Proofs.Ytghijgpelkjohaa
