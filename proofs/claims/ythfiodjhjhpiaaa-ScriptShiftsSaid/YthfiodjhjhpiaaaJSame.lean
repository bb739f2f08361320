/- Whether two rows of jobs are the same: of two that are. -/
import Derived.Test.YthfiodjhjhpiaaaJArr
import Derived.StillTailTactics
namespace Go.Proofs.Ythfiodjhjhpiaaa
open Go.RowKit
set_option linter.unusedVariables false
set_option linter.unusedSimpArgs false

theorem same_drewN (w : World) (n : Nat) : Below w.heap.size w (w.drewN n) := ⟨rfl, rfl, rfl, Nat.le_refl _, fun _ _ => rfl⟩
set_option maxRecDepth 100000 in
set_option maxHeartbeats 8000000 in
theorem same_any (A A' : Option Addr) (cap cap' : Nat) (js : List Fv) (w : World) (hR : FRow w A cap js) (hR' : FRow w A' cap' js) :
    Calls Try.prog 13 #[.slice A js.length cap, .slice A' js.length cap'] w fun e w' => e = .returned (.bool true) ∧ Below w.heap.size w w' := by
  have hle := hR.le
  have hmx := hR.mx
  have hle' := hR'.le
  have ROW := Lib.hid hR
  have ROW' := Lib.hid hR'
  clear hR hR'
  go_enter Try.func13, Try.ntmps13
  go_wp2
  go_loopw [5] (fun i wr => ∃ k : Nat, k ≤ js.length ∧ i = .int .i64 k ∧ Hid (Below w.heap.size w wr)) (fun i _ => js.length - (intOf i).toNat)
  case atStart => exact ⟨0, Nat.zero_le _, rfl, Lib.hid (Below.refl _ _)⟩
  case round =>
    obtain ⟨k, hk, rfl, hB⟩ := hrel
    by_cases hlt : k < js.length
    · obtain ⟨b, o, x, C, cc, rfl, hx, hbl, hF0⟩ := ROW.out.get hlt
      obtain ⟨b', o', x', C', cc', rfl, hx', hbl', hF0'⟩ := ROW'.out.get hlt
      obtain rfl : x = x' := by rw [hx] at hx'; exact Option.some.inj hx'
      have hF := hF0.later hB.out
      have hF' := hF0'.later hB.out
      have c0 := hF.c0
      have c1 := hF.c1
      have c2 := hF.c2
      have c3 := hF.c3
      have c4 := hF.c4
      have d0 := hF'.c0
      have d1 := hF'.c1
      have d2 := hF'.c2
      have d3 := hF'.c3
      have d4 := hF'.c4
      have hi0 : (0 : Int) ≤ (k : Int) := by omega
      have hi1 : (k : Int) < (js.length : Int) := by omega
      have hcl := hF0.s.le
      have hcm := hF0.s.mx
      have HF := Lib.hid hF0
      have HF' := Lib.hid hF0'
      clear hx hx' hF hF' hF0 hF0'
      go_upto_region 6 with (fail)
      go_quiet (fail)
      have hB1 : Hid (Below w.heap.size w (wr.drewN nq)) := Lib.hid (hB.out.trans ((same_drewN wr nq).mono hB.out.size))
      clear c0 c1 c2 c3 c4 d0 d1 d2 d3 d4
      generalize wr.drewN nq = W1 at *
      go_wp2
      go_loopw [6] (fun c wr2 => ∃ m : Nat, m ≤ x.c.length ∧ c = .int .i64 m ∧ Hid (Below w.heap.size w wr2)) (fun c _ => x.c.length - (intOf c).toNat)
      case atStart => exact ⟨0, Nat.zero_le _, rfl, hB1⟩
      case round =>
        obtain ⟨m, hm, rfl, hB2⟩ := hrel
        have c4 := (HF.out.later hB2.out).c4
        by_cases hml : m < x.c.length
        · obtain ⟨p, q, n, rfl, hn, hnw, hpl, hc⟩ := HF.out.s.get hml
          obtain ⟨p', q', n', rfl, hn', hnw', hpl', hc'⟩ := HF'.out.s.get hml
          obtain rfl : n = n' := by rw [hn] at hn'; exact Option.some.inj hn'
          have d4 := (HF'.out.later hB2.out).c4
          have e1 := (hB2.out.cell (p := ⟨p, q + m, none⟩) hpl).trans hc
          have e2 := (hB2.out.cell (p := ⟨p', q' + m, none⟩) hpl').trans hc'
          have m0 : (0 : Int) ≤ (m : Int) := by omega
          have m1 : (m : Int) < (x.c.length : Int) := by omega
          clear hn hn' hnw hnw' hc hc'
          go_upto_region 11 with (fail)
          go_quiet (fail)
          have hB3 : Hid (Below w.heap.size w (wr.drewN nq)) := Lib.hid (hB2.out.trans ((same_drewN wr nq).mono hB2.out.size))
          clear c4 d4 e1 e2
          generalize wr.drewN nq = W3 at *
          go_wp2
          go_roundw
          case rel => exact ⟨m + 1, by omega, by go_num, hB3⟩
          case measure => simp [intOf]; omega
        · obtain rfl : m = x.c.length := by omega
          go_wp2
          go_roundw
          case rel => exact ⟨k + 1, by omega, by go_num, hB2⟩
          case measure => simp [intOf]; omega
    · obtain rfl : k = js.length := by omega
      go_wp2
      go_ret
      exact ⟨rfl, hB.out⟩
end Go.Proofs.Ythfiodjhjhpiaaa
