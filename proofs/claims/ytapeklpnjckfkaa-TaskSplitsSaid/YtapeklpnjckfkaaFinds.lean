/- The law's finds. -/
import Derived.Test.YtapeklpnjckfkaaFind
import Derived.Test.YtapeklpnjckfkaaMLen
namespace Go.Proofs.Ytapeklpnjckfkaa
open Go.RowKit
set_option linter.unusedVariables false
set_option linter.unusedSimpArgs false

set_option maxRecDepth 100000 in
set_option maxHeartbeats 4000000 in
theorem finds_any (A : Option Addr) (cap : Nat) (l : List Ts) (s : ByteArray) (w : World) (hR : Row w A cap l) :
    Calls Try.prog 23 #[.slice A l.length cap, .string s] w fun e w' => e = .returned (.bool true) ∧ Below w.heap.size w w' := by
  have hmx := hR.mx
  have hle := hR.le
  have F0 := Lib.hid (find_any A cap l s w hR)
  obtain ⟨r, hr⟩ : ∃ r, fnd l s = r := ⟨_, rfl⟩
  rw [hr] at F0
  have HR := Lib.hid hr
  clear hr
  have ROW := Lib.hid hR
  clear hR
  have h0 : Hid (fnd l s = (fnd (l.drop 0) s).map (· + 0)) := Lib.hid (by simp)
  go_enter Try.func23, Try.ntmps23
  go_wp2_with (go_at_call 41; (with_reducible refine F0.out.mono ?_); rintro e w1 ⟨rfl, h1⟩)
  go_loopw [7] (fun i wr => ∃ k : Nat, k ≤ l.length ∧ i = .int .i64 k ∧ Hid (fnd l s = (fnd (l.drop k) s).map (· + k)) ∧ Lt w wr) (fun i _ => l.length - (intOf i).toNat)
  case atStart => exact ⟨0, Nat.zero_le _, rfl, h0, h1⟩
  case round =>
    obtain ⟨k, hk, rfl, hq, hL⟩ := hrel
    clear h0 h1 F0
    by_cases hlt : k < l.length
    · obtain ⟨b, o, x, rfl, hx, hw, hbl, hT⟩ := ROW.out.get hlt
      have hTr := hT.later hL
      have c0 := hTr.c0
      have hi0 : (0 : Int) ≤ (k : Int) := by omega
      have hi1 : (k : Int) < (l.length : Int) := by omega
      have HX := Lib.hid hx
      have HTr := Lib.hid hTr
      have HT := Lib.hid hT
      clear hT hTr hx hw
      by_cases he : x.n = s
      · have t1 : (x.n.toList == s.toList) = true := by rw [name_eq, decide_eq_true he]
        obtain rfl : r = some k := HR.out.symm.trans (fnd_hit hq.out HX.out he)
        clear he hq
        go_wp2
        go_ret
        exact ⟨by simp, hL⟩
      · have t1 : (x.n.toList == s.toList) = false := by rw [name_eq, decide_eq_false he]
        have HF := Lib.hid (fnd_miss hq.out HX.out he)
        obtain ⟨m, y, f1, f2, f3, f4⟩ := fnd_self HX.out
        have FN := find_any _ cap l x.n wr (ROW.out.later hL)
        rw [f1] at FN
        have FN : Hid (Calls Try.prog 41 #[.slice (some ⟨b, o, none⟩) l.length cap, .string x.n] wr fun e w' => e = .returned (.tuple #[.int .i64 (m : Int), .bool true]) ∧ Below wr.heap.size wr w') := Lib.hid FN
        have hm1 : (m : Int) < (l.length : Int) := by omega
        have hm0 : (0 : Int) ≤ (m : Int) := by omega
        have d1 : decide ((m : Int) > (k : Int)) = false := decide_eq_false (by omega)
        have d2 : decide (k < m) = false := decide_eq_false (by omega)
        have d3 : decide ((k : Int) < (m : Int)) = false := decide_eq_false (by omega)
        have TM := ROW.out.at2 f3
        have HTM := Lib.hid (TM.later hL)
        have H4 := Lib.hid f4
        clear he hq f1 f3 f4 TM
        go_upto_region 8 with (go_at_call 41; (with_reducible refine FN.out.mono ?_); rintro e w2 ⟨rfl, h2⟩)
        have c0' := (HTr.out.later h2).c0
        have cm' := (HTM.out.later h2).c0
        rw [H4.out] at cm'
        have hB := Below.trans hL (h2.mono (Below.size hL))
        clear c0 h2
        go_quiet (fail)
        go_wp2
        exact ⟨⟨k + 1, by omega, by go_num, HF, drewN_below hB _⟩, by simp [intOf]; omega⟩
    · obtain rfl : k = l.length := by omega
      obtain rfl : r = none := HR.out.symm.trans (fnd_end hq.out)
      clear hq
      go_wp2
      go_ret
      exact ⟨by simp, hL⟩
end Go.Proofs.Ytapeklpnjckfkaa
