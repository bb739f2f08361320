/- Whether cuts fit; the closures that ask whether a job is right. -/
import Derived.Test.YthfiodjhjhpiaaaJArr
import Derived.StillTailTactics
import Derived.Deep.RegionHeldLaw
namespace Go.Proofs.Ythfiodjhjhpiaaa
open Go.RowKit
set_option linter.unusedVariables false
set_option linter.unusedSimpArgs false

theorem fitB_cons (q left c : Int) (r : List Int) : fitB q left (c :: r) = (inB c 1 (min q left) && fitB q (left - c) r) := rfl
set_option maxRecDepth 100000 in
set_option maxHeartbeats 4000000 in
theorem cutsFit_any (A : Option Addr) (cap : Nat) (l : List Int) (q k : Int) (w : World) (hR : CRow w A cap l) (q1 : q ≤ 2147483647) (k0 : 0 ≤ k) (k1 : k ≤ 2147483647) :
    Calls Try.prog 39 #[.slice A l.length cap, .int .i64 q, .int .i64 k] w fun e w' => e = .returned (.bool (fitB q k l)) ∧ w' = w := by
  have hle := hR.le
  have hmx := hR.mx
  have ROW := Lib.hid hR
  clear hR
  go_enter Try.func39, Try.ntmps39
  go_wp2
  go_loopw [7, 13] (fun lf i wr => ∃ (m : Nat) (left : Int), m ≤ l.length ∧ i = .int .i64 m ∧ lf = .int .i64 left ∧ 0 ≤ left ∧ left ≤ k ∧ wr = w ∧ Hid (fitB q k l = fitB q left (l.drop m))) (fun _ i _ => l.length - (intOf i).toNat)
  case atStart => exact ⟨0, k, Nat.zero_le _, rfl, rfl, k0, by omega, rfl, Lib.hid rfl⟩
  case round =>
    obtain ⟨m, left, hm, rfl, rfl, l0, l1, rfl, hq⟩ := hrel
    by_cases hlt : m < l.length
    · obtain ⟨b, o, c, rfl, hc, hcw, hbl, hcell⟩ := ROW.out.get hlt
      have hd : l.drop m = c :: l.drop (m + 1) := by
        obtain ⟨hlt', he⟩ := List.getElem?_eq_some_iff.1 hc
        rw [← he]
        exact (List.drop_eq_getElem_cons hlt')
      have HQ : Hid (fitB q k l = (inB c 1 (min q left) && fitB q (left - c) (l.drop (m + 1)))) := Lib.hid (by rw [hq.out, hd, fitB_cons])
      have m0 : (0 : Int) ≤ (m : Int) := by omega
      have m1 : (m : Int) < (l.length : Int) := by omega
      have K : Hid (∀ (W : World) (n' : Int), n' = min q left → Calls Try.prog 34 #[.int .i64 c, .int .i64 1, .int .i64 n'] W fun e w' => e = .returned (.bool (inB c 1 (min q left))) ∧ W = w') := Lib.hid (fun W n' hn => by subst hn; exact within_any c 1 (min q left) W)
      have hin := @inB_iff c 1 (min q left)
      cases hb : inB c 1 (min q left)
      · rw [hb] at K HQ
        clear hd hc hq hin hb
        go_wp2_with (go_at_call 34; (with_reducible refine (K.out _ _ (by omega)).mono ?_); rintro e w1 ⟨rfl, rfl⟩)
        all_goals
          go_ret
          exact ⟨by rw [HQ.out]; rfl, rfl⟩
      · have hcb := hin.1 hb
        rw [hb, Bool.true_and] at HQ
        rw [hb] at K
        clear hd hc hq hin hb
        go_wp2_with (go_at_call 34; (with_reducible refine (K.out _ _ (by omega)).mono ?_); rintro e w1 ⟨rfl, rfl⟩)
        all_goals
          go_roundw
          case rel => exact ⟨m + 1, left - c, by omega, by go_num, rfl, by omega, by omega, trivial, HQ⟩
          case measure => simp [intOf]; omega
    · obtain rfl : m = l.length := by omega
      go_wp2
      go_ret
      exact ⟨by rw [hq.out, List.drop_length]; rfl, rfl⟩
end Go.Proofs.Ythfiodjhjhpiaaa
