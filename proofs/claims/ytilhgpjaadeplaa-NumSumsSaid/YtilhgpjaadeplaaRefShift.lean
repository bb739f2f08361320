/- The contract of the document's own Shift: step by step. -/
import Derived.Test.YtilhgpjaadeplaaShift
namespace Go.Proofs.Ytilhgpjaadeplaa
open Go.RowKit
set_option linter.unusedVariables false

def dN (a : Int) (k : Nat) : Int := if a * 2 ^ k ≤ 18446744073709551615 then a * 2 ^ k else 0
def dB (a : Int) (k : Nat) : Bool := decide (a * 2 ^ k ≤ 18446744073709551615)
theorem dB_zero (a : Int) (ha1 : a ≤ 18446744073709551615) : dB a 0 = true := by simp [dB]; omega
theorem dN_zero (a : Int) (ha1 : a ≤ 18446744073709551615) : dN a 0 = a := by simp [dN]; omega
theorem pow_two_succ (a : Int) (k : Nat) : a * 2 ^ (k + 1) = a * 2 ^ k + a * 2 ^ k := by rw [Int.pow_succ, ← Int.mul_assoc]; omega
theorem d_bd (a : Int) (k : Nat) (ha : 0 ≤ a) : 0 ≤ dN a k ∧ dN a k ≤ 18446744073709551615 := by
  have h0 : 0 ≤ a * 2 ^ k := Int.mul_nonneg ha (Int.pow_nonneg (by omega))
  unfold dN; split <;> omega
theorem d_yes (a : Int) (k : Nat) (h : dB a k = true) : addN (dN a k) (dN a k) = dN a (k + 1) ∧ addB (dN a k) (dN a k) = dB a (k + 1) := by
  have h' : a * 2 ^ k ≤ 18446744073709551615 := by simpa [dB] using h
  have e : dN a k = a * 2 ^ k := by simp [dN, h']
  rw [e]
  unfold addN addB dN dB
  rw [pow_two_succ]
  exact ⟨rfl, rfl⟩
theorem d_no (a : Int) (k : Nat) (ha : 0 ≤ a) (h : dB a k = false) : dN a k = dN a (k + 1) ∧ dB a k = dB a (k + 1) := by
  have h' : ¬ a * 2 ^ k ≤ 18446744073709551615 := by simpa [dB] using h
  have h2 : ¬ a * 2 ^ (k + 1) ≤ 18446744073709551615 := by rw [pow_two_succ]; omega
  unfold dN dB
  rw [if_neg h', if_neg h2, decide_eq_false h', decide_eq_false h2]
  exact ⟨rfl, rfl⟩
theorem dN_shN (a n : Int) (k : Nat) (hn : 0 ≤ n) (hk : n = (k : Int)) : dN a k = shN a n ∧ dB a k = shB a n := by
  subst hk
  have hg : ¬ (k : Int) < 0 := by omega
  unfold dN dB shN shB
  rw [if_neg hg, if_neg hg, Int.toNat_natCast]
  exact ⟨rfl, rfl⟩
theorem pow_int (k : Nat) : (2 : Int) ^ k = ((2 ^ k : Nat) : Int) := by simp
theorem sh_great (a n : Int) (ha : 0 < a) (hn : 64 ≤ n) : shN a n = 0 ∧ shB a n = false := by
  have h4 : 2 ^ 64 ≤ 2 ^ n.toNat := pow_le_pow _ _ (by omega)
  have h5 : (2 : Nat) ^ 64 = 18446744073709551616 := by decide
  have h6 : (18446744073709551616 : Int) ≤ 2 ^ n.toNat := by rw [pow_int]; omega
  have h7 : 1 * (2 : Int) ^ n.toNat ≤ a * 2 ^ n.toNat := Int.mul_le_mul_of_nonneg_right (by omega) (by omega)
  unfold shN shB
  have hg : ¬ n < 0 := by omega
  have hg2 : ¬ a * 2 ^ n.toNat ≤ 18446744073709551615 := by omega
  rw [if_neg hg, if_neg hg, if_neg hg2, decide_eq_false hg2]
  exact ⟨rfl, rfl⟩

/-- The two blocks that Shift keeps: its result's (still zero), and x. -/
structure XRel (w wr : World) (n : Int) (k : Bool) : Prop where
  x0 : wr.cell? ⟨w.heap.size + 1, 0, none⟩ = some (.int .u64 n)
  x1 : wr.cell? ⟨w.heap.size + 1, 1, none⟩ = some (.bool k)
  r0 : wr.cell? ⟨w.heap.size, 0, none⟩ = some (.int .u64 0)
  r1 : wr.cell? ⟨w.heap.size, 1, none⟩ = some (.bool false)
  f0 : ∀ j, wr.frozen? ⟨w.heap.size, j, none⟩ = false
  f1 : ∀ j, wr.frozen? ⟨w.heap.size + 1, j, none⟩ = false
  size : w.heap.size + 1 < wr.heap.size
  below : Below w.heap.size w wr

theorem XRel.later {w wr w1 : World} {n : Int} {k : Bool} (h : XRel w wr n k) (hb : Below wr.heap.size wr w1) : XRel w w1 n k := by
  obtain ⟨hcl, hfr⟩ := bcell hb
  have hs := h.size
  exact ⟨by rw [hcl _ _ hs]; exact h.x0, by rw [hcl _ _ hs]; exact h.x1, by rw [hcl _ _ (by omega)]; exact h.r0, by rw [hcl _ _ (by omega)]; exact h.r1,
    fun j => by rw [hfr _ _ (by omega)]; exact h.f0 j, fun j => by rw [hfr _ _ hs]; exact h.f1 j, Nat.lt_of_lt_of_le hs hb.size, h.below.trans (hb.mono (by omega))⟩
theorem addr_ne_off (b : Nat) : (⟨b, 1, none⟩ : Addr) ≠ ⟨b, 0, none⟩ := by simp
theorem addr_ne_block (b o o' : Nat) : (⟨b + 1, o, none⟩ : Addr) ≠ ⟨b, o', none⟩ := by simp
theorem XRel.set0 {w wr : World} {n : Int} {k : Bool} (h : XRel w wr n k) (n' : Int) : XRel w (wr.setCell ⟨w.heap.size + 1, 0, none⟩ (.int .u64 n')) n' k :=
  ⟨World.cell?_setCell_same _ _ _ h.x0, by rw [World.cell?_setCell_other _ _ _ _ (addr_ne_off _).symm]; exact h.x1, by rw [World.cell?_setCell_other _ _ _ _ (addr_ne_block _ _ _)]; exact h.r0, by rw [World.cell?_setCell_other _ _ _ _ (addr_ne_block _ _ _)]; exact h.r1,
    fun j => by simpa using h.f0 j, fun j => by simpa using h.f1 j, by simpa using h.size, h.below.setCell (by simp) _⟩
theorem XRel.set1 {w wr : World} {n : Int} {k : Bool} (h : XRel w wr n k) (k' : Bool) : XRel w (wr.setCell ⟨w.heap.size + 1, 1, none⟩ (.bool k')) n k' :=
  ⟨by rw [World.cell?_setCell_other _ _ _ _ (addr_ne_off _)]; exact h.x0, World.cell?_setCell_same _ _ _ h.x1, by rw [World.cell?_setCell_other _ _ _ _ (addr_ne_block _ _ _)]; exact h.r0, by rw [World.cell?_setCell_other _ _ _ _ (addr_ne_block _ _ _)]; exact h.r1,
    fun j => by simpa using h.f0 j, fun j => by simpa using h.f1 j, by simpa using h.size, h.below.setCell (by simp) _⟩
theorem XRel.start (w : World) (a : Int) : XRel w ((w.alloc (.cells #[.int .u64 0, .bool false] 30)).alloc (.cells #[.int .u64 a, .bool true] 30)) a true :=
  ⟨by simp, by simp, by simp, by simp, fun j => by simp, fun j => by simp, by simp, by go_grown⟩

set_option maxHeartbeats 1000000 in
theorem refShift_up (a n : Int) (ha : 0 ≤ a) (ha1 : a ≤ 18446744073709551615) (hn : 0 ≤ n) (hn1 : n ≤ 9223372036854775807) (w : World) :
    Calls Try.prog 14 #[.int .u64 a, .int .i64 n] w fun e w' => e = .returned (.agg #[.int .u64 (shN a n), .bool (shB a n)]) ∧ Below w.heap.size w w' := by
  go_enter Try.func14, Try.ntmps14
  go_wp2
  go_loopw [6] (fun i wr => ∃ k : Nat, k ≤ 64 ∧ (k : Int) ≤ n ∧ i = .int .i64 k ∧ XRel w wr (dN a k) (dB a k))
    (fun i _ => 64 - (intOf i).toNat)
  case atStart =>
    refine ⟨0, by omega, by omega, rfl, ?_⟩
    rw [dN_zero a ha1, dB_zero a ha1]
    exact XRel.start w a
  case round =>
    obtain ⟨k, hk, hkn, rfl, hX⟩ := hrel
    have hc0 := hX.x0
    have hc1 := hX.x1
    have hf0 := hX.f1 0
    have hf1 := hX.f1 1
    by_cases hgo : (k : Int) < 64 ∧ (k : Int) < n
    · obtain ⟨hg1, hg2⟩ := hgo
      have hd := d_bd a k ha
      cases hdb : dB a k
      · have hdn := d_no a k ha hdb
        rw [hdb] at hc1 hdn
        have HD := Lib.hid hdn
        have HX : Hid (XRel w wr (dN a k) (dB a k)) := Lib.hid hX
        have HB := Lib.hid hdb
        clear hdb hdn hX
        go_wp2
        go_roundw
        case rel => exact ⟨k + 1, by omega, by omega, by go_num, by rw [← HD.out.1, ← HD.out.2, ← HB.out]; exact HX.out⟩
        case measure => simp [intOf]; omega
      · have hdy := d_yes a k hdb
        rw [hdb] at hc1
        have hadd := refAdd_any (dN a k) (dN a k) hd.1 hd.2 hd.1 hd.2
        rw [hdy.1, hdy.2] at hadd
        have HA := Lib.hid hadd
        have HX : Hid (XRel w wr (dN a k) (dB a k)) := Lib.hid hX
        clear hdb hdy hadd hX
        have hsz : w.heap.size + 1 < wr.heap.size := HX.out.size
        go_wp2_with (go_at_call 26; refine (HA.out _).mono ?_; rintro e w1 ⟨rfl, hb1⟩; have hy0 := (HX.out.later hb1).x0; have hy1 := (HX.out.later hb1).x1; have hy2 := (HX.out.later hb1).f1 0; have hy3 := (HX.out.later hb1).f1 1)
        go_roundw
        case rel => exact ⟨k + 1, by omega, by omega, by go_num, ((HX.out.later hb1).set0 _).set1 _⟩
        case measure => simp [intOf]; omega
    · have hsz := hX.size
      have hr0 := hX.r0
      have hr1 := hX.r1
      have hg0 := hX.f0 0
      have hg1 := hX.f0 1
      by_cases hbig : 64 ≤ n
      · obtain rfl : k = 64 := by omega
        by_cases hz : 0 < a
        · have HG := Lib.hid (sh_great a n hz hbig)
          have HX : Hid (XRel w wr (dN a 64) (dB a 64)) := Lib.hid hX
          clear hX hgo
          go_wp2
          refine bodyPost_ret (v := .agg #[.int .u64 0, .bool false]) (by simp [results, Try.results14, go_sem, hr0, hr1]) rfl ⟨by rw [HG.out.1, HG.out.2], ?_⟩
          exact (HX.out.below.setCell (by simp) _).setCell (by simp) _
        · obtain rfl : a = 0 := by omega
          have HG : Hid (dN 0 64 = shN 0 n ∧ dB 0 64 = shB 0 n) := Lib.hid (by simp [dN, shN, dB, shB])
          have HX : Hid (XRel w wr (dN 0 64) (dB 0 64)) := Lib.hid hX
          clear hX hgo
          go_wp2
          go_rounds 1
          refine bodyPost_ret (v := .agg #[.int .u64 (dN 0 64), .bool (dB 0 64)]) (by simp [results, Try.results14, go_sem, hr0, hr1]) rfl ⟨by rw [HG.out.1, HG.out.2], ?_⟩
          exact (HX.out.below.setCell (by simp) _).setCell (by simp) _
      · have hkn' : n = (k : Int) := by omega
        have HG : Hid (dN a k = shN a n ∧ dB a k = shB a n) := Lib.hid (dN_shN a n k hn hkn')
        have HX : Hid (XRel w wr (dN a k) (dB a k)) := Lib.hid hX
        have hle : n ≤ k := by omega
        clear hX hgo hkn'
        go_wp2
        go_rounds 1
        refine bodyPost_ret (v := .agg #[.int .u64 (dN a k), .bool (dB a k)]) (by simp [results, Try.results14, go_sem, hr0, hr1]) rfl ⟨by rw [HG.out.1, HG.out.2], ?_⟩
        exact (HX.out.below.setCell (by simp) _).setCell (by simp) _

theorem half_step (a : Int) (k : Nat) : a / 2 ^ k / 2 = a / 2 ^ (k + 1) := by
  rw [Int.pow_succ, Int.ediv_ediv_of_nonneg (Int.pow_nonneg (by omega))]
theorem half_bd (a : Int) (k : Nat) (ha : 0 ≤ a) (ha1 : a ≤ 18446744073709551615) : 0 ≤ a / 2 ^ k ∧ a / 2 ^ k ≤ 18446744073709551615 := by
  have h1 : 0 ≤ a / 2 ^ k := Int.ediv_nonneg ha (Int.pow_nonneg (by omega))
  have h2 : a / 2 ^ k ≤ a := Int.ediv_le_self _ ha
  omega
theorem sh_down (a n : Int) (k : Nat) (ha : 0 ≤ a) (ha1 : a ≤ 18446744073709551615) (hn : n < 0) (hk : k ≤ 64) (hkn : (k : Int) ≤ -n) (hend : ¬ (n < -(k : Int) ∧ -64 < -(k : Int))) : a / 2 ^ k = shN a n ∧ true = shB a n := by
  unfold shN shB
  rw [if_pos hn, if_pos hn]
  refine ⟨?_, rfl⟩
  by_cases h : k = 64
  · subst h
    rw [shr_nothing a 64 ha ha1 (by omega), shr_nothing a (-n).toNat ha ha1 (by omega)]
  · have : (-n).toNat = k := by omega
    rw [this]

set_option maxHeartbeats 1000000 in
theorem refShift_dn (a n : Int) (ha : 0 ≤ a) (ha1 : a ≤ 18446744073709551615) (hn : n < 0) (hn1 : -9223372036854775808 ≤ n) (w : World) :
    Calls Try.prog 14 #[.int .u64 a, .int .i64 n] w fun e w' => e = .returned (.agg #[.int .u64 (shN a n), .bool (shB a n)]) ∧ Below w.heap.size w w' := by
  have hn0 : ¬ 0 < n := by omega
  have hn64 : ¬ 64 ≤ n := by omega
  go_enter Try.func14, Try.ntmps14
  go_wp2
  go_rounds 1
  go_loopw [7] (fun i wr => ∃ k : Nat, k ≤ 64 ∧ (k : Int) ≤ -n ∧ i = .int .i64 (-(k : Int)) ∧ XRel w wr (a / 2 ^ k) true)
    (fun i _ => 64 - (-(intOf i)).toNat)
  case atStart => exact ⟨0, by omega, by omega, rfl, by simpa using XRel.start w a⟩
  case round =>
    obtain ⟨k, hk, hkn, rfl, hX⟩ := hrel
    have hc0 := hX.x0
    have hc1 := hX.x1
    have hf0 := hX.f1 0
    have hf1 := hX.f1 1
    have hbd := half_bd a k ha ha1
    have hsz := hX.size
    by_cases hgo : n < -(k : Int) ∧ -64 < -(k : Int)
    · obtain ⟨hg1, hg2⟩ := hgo
      have HH := Lib.hid (half_step a k)
      have HX : Hid (XRel w wr (a / 2 ^ k) true) := Lib.hid hX
      clear hX
      go_wp2
      go_roundw
      case rel => exact ⟨k + 1, by omega, by omega, by go_num, by rw [← HH.out]; exact HX.out.set0 _⟩
      case measure => simp [intOf]; omega
    · have HG := Lib.hid (sh_down a n k ha ha1 hn hk hkn hgo)
      have hr0 := hX.r0
      have hr1 := hX.r1
      have hg0 := hX.f0 0
      have hg1 := hX.f0 1
      have HX : Hid (XRel w wr (a / 2 ^ k) true) := Lib.hid hX
      clear hX
      by_cases h1 : n < -(k : Int)
      · have h2 : ¬ (-64 < -(k : Int)) := fun h => hgo ⟨h1, h⟩
        clear hgo
        go_wp2
        refine bodyPost_ret (v := .agg #[.int .u64 (a / 2 ^ k), .bool true]) (by simp [results, Try.results14, go_sem, hr0, hr1]) rfl ⟨by rw [HG.out.1, ← HG.out.2], ?_⟩
        exact (HX.out.below.setCell (by simp) _).setCell (by simp) _
      · clear hgo
        go_wp2
        refine bodyPost_ret (v := .agg #[.int .u64 (a / 2 ^ k), .bool true]) (by simp [results, Try.results14, go_sem, hr0, hr1]) rfl ⟨by rw [HG.out.1, ← HG.out.2], ?_⟩
        exact (HX.out.below.setCell (by simp) _).setCell (by simp) _

theorem refShift_any (a n : Int) (ha : 0 ≤ a) (ha1 : a ≤ 18446744073709551615) (hn0 : -9223372036854775808 ≤ n) (hn1 : n ≤ 9223372036854775807) (w : World) :
    Calls Try.prog 14 #[.int .u64 a, .int .i64 n] w fun e w' => e = .returned (.agg #[.int .u64 (shN a n), .bool (shB a n)]) ∧ Below w.heap.size w w' := by
  by_cases h : n < 0
  · exact refShift_dn a n ha ha1 h hn0 w
  · exact refShift_up a n ha ha1 (by omega) hn1 w
end Go.Proofs.Ytilhgpjaadeplaa
