/- The law's small functions; the document's Same and Parse. -/
import Derived.Test.YtlelnoalajeihaaDoorParse
import Derived.Test.YtlelnoalajeihaaDoorSet0
namespace Go.Proofs.YtlelnoalajeihaaDoor
open Go.RowKit
set_option linter.unusedVariables false
set_option linter.unusedSimpArgs false

def OkB (w : World) (e : Ending) (w' : World) : Prop := e = .returned (.bool true) ∧ Below w.heap.size w w'
set_option maxRecDepth 100000 in
set_option maxHeartbeats 2000000 in
theorem rsame_any {A1 A2 : Option Addr} {c1 c2 : Nat} {ts : List Ts} {w : World} (h1 : Row w A1 c1 ts) (h2 : Row w A2 c2 ts) : Calls Tryd.prog 18 #[.slice A1 ts.length c1, .slice A2 ts.length c2] w (OkB w) := by
  have hle := h1.le
  have hmx := h1.mx
  have H1 := Lib.hid h1
  have H2 := Lib.hid h2
  clear h1 h2
  go_enter Tryd.func18, Tryd.ntmps18
  go_wp2
  go_loopw [5] (fun i wr => ∃ k n : Nat, k ≤ ts.length ∧ i = .int .i64 k ∧ wr = w.drewN n) (fun i _ => ts.length - (intOf i).toNat)
  case atStart => exact ⟨0, 0, Nat.zero_le _, rfl, rfl⟩
  case round =>
    obtain ⟨k, n, hk, rfl, rfl⟩ := hrel
    by_cases hlt : k < ts.length
    · obtain ⟨b, o, x, rfl, hx, _, _, hT⟩ := H1.out.get hlt
      obtain ⟨b', o', x', rfl, hx', _, _, hT'⟩ := H2.out.get hlt
      obtain rfl : x' = x := by rw [hx] at hx'; exact (Option.some.inj hx').symm
      have a0 := hT.c0
      have a1 := hT.c1
      have a2 := hT.c2
      have a3 := hT.c3
      have a4 := hT.c4
      have a5 := hT.c5
      have a6 := hT.c6
      have b0 := hT'.c0
      have b1 := hT'.c1
      have b2 := hT'.c2
      have b3 := hT'.c3
      have b4 := hT'.c4
      have b5 := hT'.c5
      have b6 := hT'.c6
      have hi0 : (0 : Int) ≤ (k : Int) := by omega
      have hi1 : (k : Int) < (ts.length : Int) := by omega
      clear hT hT' hx hx'
      go_wp2
      go_quiet (fail)
      go_wp2
      exact ⟨⟨k + 1, n + nq, by omega, by go_num, rfl⟩, by simp [intOf]; omega⟩
    · obtain rfl : k = ts.length := by omega
      go_wp2
      go_ret
      exact ⟨rfl, below_drewN (Below.refl _ _) n⟩

theorem below_three {B b : Nat} {w W : World} (h : Below B w W) (hb : B ≤ b) (u0 u1 u2 : Value) : Below B w (((W.setCell ⟨b, 0, none⟩ u0).setCell ⟨b, 1, none⟩ u1).setCell ⟨b, 2, none⟩ u2) :=
  ((h.setCell (p := ⟨b, 0, none⟩) hb _).setCell (p := ⟨b, 1, none⟩) hb _).setCell (p := ⟨b, 2, none⟩) hb _
end Go.Proofs.YtlelnoalajeihaaDoor
