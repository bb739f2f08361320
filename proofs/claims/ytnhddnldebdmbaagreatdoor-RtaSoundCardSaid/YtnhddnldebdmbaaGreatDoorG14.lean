/- Texts about the program, one after the other: RDv2, RDv3, RAll, RRef, RPrt, RSeq, RStp, QIn, RStt. -/
import Derived.Test.YtnhddnldebdmbaaGreatDoorG13
import Derived.Deep.CutBlock
import Derived.Deep.CutRange
import Derived.Test.YtnhddnldebdmbaaGreatDoorG1
import Derived.Test.YtnhddnldebdmbaaGreatDoorG11
import Derived.Test.YtnhddnldebdmbaaGreatDoorG12
import Derived.Test.YtnhddnldebdmbaaGreatDoorG2
import Derived.BigQuiet
/- math/bits.Div64: the walk. -/
namespace Go.Proofs.YtnhddnldebdmbaaGreatDoor
open Go.RowKit
set_option linter.unusedVariables false
set_option linter.unusedSimpArgs false
theorem u64_of {z : Int} {n : Nat} (h : z % 18446744073709551616 = (n : Int)) : IntKind.u64.wrap z = (n : Int) := by rw [IntKind.wrap_u64]; exact h
theorem u64_in {z : Int} {n : Nat} (h : z = (n : Int)) (hn : n < 18446744073709551616) : IntKind.u64.wrap z = (n : Int) := by rw [IntKind.wrap_u64]; omega
/-- What holds behind the search for a digit. -/
def DigE (y c d q : Nat) : Prop := q * y ≤ c * 4294967296 + d ∧ c * 4294967296 + d < (q + 1) * y ∧ q ≤ 4294967297
/-- The rest behind a digit. -/
theorem dig_next {y c d q : Nat} (h : DigE y c d q) (hc : c < 18446744073709551616) (hd : d < 4294967296) (hy : y < 18446744073709551616) : ∃ z1 z2 z3 c2 : Nat,
    IntKind.u64.wrap ((c : Int) * 4294967296) = (z1 : Int) ∧ IntKind.u64.wrap ((z1 : Int) + (d : Int)) = (z2 : Int) ∧ IntKind.u64.wrap ((q : Int) * (y : Int)) = (z3 : Int) ∧ IntKind.u64.wrap ((z2 : Int) - (z3 : Int)) = (c2 : Int) ∧ c2 + q * y = c * 4294967296 + d ∧ c2 < y := by
  obtain ⟨h1, h2, h3⟩ := h
  rw [Nat.add_mul, Nat.one_mul] at h2
  have e : (q : Int) * (y : Int) = ((q * y : Nat) : Int) := (Int.natCast_mul q y).symm
  generalize q * y = m at *
  refine ⟨c * 4294967296 % 18446744073709551616, (c * 4294967296 + d) % 18446744073709551616, m % 18446744073709551616, c * 4294967296 + d - m, u64_of (by omega), u64_of (by omega), ?_, u64_of (by omega), by omega, by omega⟩
  rw [e]
  exact u64_of (by omega)
theorem u64_mod (z : Int) : ∃ n : Nat, IntKind.u64.wrap z = (n : Int) ∧ (n : Int) = z % 18446744073709551616 ∧ n < 18446744073709551616 := by
  refine ⟨(z % 18446744073709551616).toNat, ?_, ?_, ?_⟩
  · rw [IntKind.wrap_u64]; omega
  · omega
  · omega
set_option maxRecDepth 100000 in
set_option maxHeartbeats 4000000 in
theorem div_walk (hi lo y s y2 a b h2 s64 l2 c x1 d1 d0 : Nat) (w : World) (hH : DigN y2 a b c d1) (hd0 : d0 < 4294967296) (hlo : lo < 18446744073709551616) (hy2 : y2 < 18446744073709551616)
    (t0 : ((y : Int) == 0) = false) (t1 : decide (y ≤ hi) = false) (t2 : ((hi : Int) == 0) = false) (ta : ¬ a = 0)
    (w1 : IntKind.u64.wrap (s : Int) = (s : Int))
    (o1 : Op.shift .shl .u64 (y : Int) .u64 (s : Int) = pure (.int .u64 (y2 : Int)))
    (o2 : Op.shift .shr .u64 (y2 : Int) .u64 32 = pure (.int .u64 (a : Int)))
    (o3 : bits .and .u64 (y2 : Int) 4294967295 = (b : Int))
    (o4 : Op.shift .shl .u64 (hi : Int) .u64 (s : Int) = pure (.int .u64 (h2 : Int)))
    (o5 : IntKind.u64.wrap (64 - (s : Int)) = (s64 : Int))
    (o6 : Op.shift .shr .u64 (lo : Int) .u64 (s64 : Int) = pure (.int .u64 (l2 : Int)))
    (o7 : bits .or .u64 (h2 : Int) (l2 : Int) = (c : Int))
    (o8 : Op.shift .shl .u64 (lo : Int) .u64 (s : Int) = pure (.int .u64 (x1 : Int)))
    (o9 : Op.shift .shr .u64 (x1 : Int) .u64 32 = pure (.int .u64 (d1 : Int)))
    (o10 : bits .and .u64 (x1 : Int) 4294967295 = (d0 : Int))
    (o11 : ∀ x : Int, ∃ z : Int, Op.shift .shr .u64 x .u64 (s : Int) = pure (.int .u64 z))
    (K : Calls Tryz.prog 103 #[.int .u64 (y : Int)] w fun e w' => e = .returned (.int .i64 (s : Int)) ∧ w' = w) :
    Calls Tryz.prog 82 #[.int .u64 (hi : Int), .int .u64 (lo : Int), .int .u64 (y : Int)] w fun e w' => (∃ q r : Int, e = .returned (.tuple #[.int .u64 q, .int .u64 r]) ∧ Hid (∃ q1 q0 c2 : Nat, DigE y2 c d1 q1 ∧ c2 + q1 * y2 = c * 4294967296 + d1 ∧ DigE y2 c2 d0 q0 ∧ q = ((q1 * 4294967296 + q0 : Nat) : Int) % 18446744073709551616)) ∧ w' = w := by
  have O11 := Lib.hid o11
  clear o11
  have HH := Lib.hid hH
  have hc1 := Nat.lt_trans hH.c1 hy2
  have ha1 := hH.a1
  have hb1 := hH.b1
  have hdd := hH.d1
  clear hH
  go_enter Tryz.func82, Tryz.ntmps82
  have cH := HH.out
  obtain ⟨HDqa, hrqa⟩ := dig_start cH
  have hmqa := Nat.div_add_mod c a
  obtain ⟨qa, hqa⟩ : ∃ q, c / a = q := ⟨_, rfl⟩
  obtain ⟨ra, hra⟩ : ∃ r, c % a = r := ⟨_, rfl⟩
  rw [hqa, hra] at HDqa hmqa
  rw [hra] at hrqa
  obtain ⟨mqa, hmmqa⟩ : ∃ m, qa * a = m := ⟨_, rfl⟩
  have f1qa : IntKind.u64.wrap ((c : Int) / (a : Int)) = (qa : Int) := u64_in (by rw [← hqa]; exact (Int.natCast_ediv _ _).symm) (by have := HDqa.top; omega)
  have f2qa : IntKind.u64.wrap ((qa : Int) * (a : Int)) = (mqa : Int) := u64_in (by rw [← hmmqa]; exact (Int.natCast_mul _ _).symm) (by rw [Nat.mul_comm] at hmqa; omega)
  have f3qa : IntKind.u64.wrap ((c : Int) - (mqa : Int)) = (ra : Int) := u64_in (by rw [Nat.mul_comm] at hmqa; omega) (by omega)
  have HDqa := Lib.hid (And.intro HDqa hrqa)
  clear hqa hra hmqa hmmqa hrqa
  clear cH
  go_upto_block 0 with (first
    | (go_at_call 103; (with_reducible refine K.mono ?_); rintro e w1 ⟨rfl, rfl⟩)
    | fail)
  clear f1qa f2qa f3qa
  go_cut [15, 16] from 67 to 85 (fun s15 s16 wx => ∃ q : Nat, s15 = .int .u64 (q : Int) ∧ Hid (DigE y2 c d1 q) ∧ wx = w1)
  case first =>
    go_wp2_with fail
    go_loopw [15, 16] (fun s15 s16 wr => ∃ q r : Nat, s15 = .int .u64 (q : Int) ∧ s16 = .int .u64 (r : Int) ∧ Hid (Dig y2 a b c d1 q r ∧ r < 4294967296) ∧ wr = w1) (fun s15 _ _ => (intOf s15).toNat)
    case atStart => exact ⟨qa, ra, rfl, rfl, HDqa, rfl⟩
    case round =>
      obtain ⟨q, r, rfl, rfl, HD, rfl⟩ := hrel
      have hq9 := HD.out.1.top
      have hr9 := HD.out.2
      obtain ⟨r2, hr2⟩ : ∃ r2, r + a = r2 := ⟨_, rfl⟩
      have g1 : IntKind.u64.wrap ((r : Int) + (a : Int)) = (r2 : Int) := u64_in (by omega) (by omega)
      have HR2 := Lib.hid hr2
      clear hr2
      by_cases h1 : 4294967296 ≤ q
      · have HDN := Lib.hid (dig_down HH.out HD.out.1 (.inl h1))
        rw [HR2.out] at HDN
        obtain ⟨p, hp⟩ : ∃ p, q - 1 = p := ⟨_, rfl⟩
        rw [hp] at HDN
        have g2 : IntKind.u64.wrap ((q : Int) - 1) = (p : Int) := u64_in (by omega) (by omega)
        have k1 : decide ((q : Int) ≥ 4294967296) = true := decide_eq_true (by omega)
        have k1' : decide (4294967296 ≤ (q : Int)) = true := decide_eq_true (by omega)
        have hpq : p < q := by omega
        have hp4 : p ≤ 4294967296 := by omega
        clear hp h1
        by_cases h3 : 4294967296 ≤ r2
        · have k3 : decide ((r2 : Int) ≥ 4294967296) = true := decide_eq_true (by omega)
          have k3' : decide (4294967296 ≤ (r2 : Int)) = true := decide_eq_true (by omega)
          have HE := Lib.hid (show DigE y2 c d1 p from ⟨dig_far HH.out HDN.out hp4 h3, HDN.out.low, by omega⟩)
          clear h3
          go_wp2_with fail
          go_meet
          exact ⟨p, rfl, HE, rfl⟩
        · have k3 : decide ((r2 : Int) ≥ 4294967296) = false := decide_eq_false (by omega)
          have k3' : decide (4294967296 ≤ (r2 : Int)) = false := decide_eq_false (by omega)
          have H3 := Lib.hid h3
          clear h3
          go_wp2_with fail
          go_roundw
          case rel => exact ⟨p, r2, rfl, rfl, Lib.hid ⟨HDN.out, by have := H3.out; omega⟩, by first | rfl | trivial⟩
          case measure => simp [intOf]; omega
      · have k1 : decide ((q : Int) ≥ 4294967296) = false := decide_eq_false (by omega)
        have k1' : decide (4294967296 ≤ (q : Int)) = false := decide_eq_false (by omega)
        have hqb := dig_qb HH.out (q := q) (by omega)
        obtain ⟨m, hm⟩ : ∃ m, q * b = m := ⟨_, rfl⟩
        obtain ⟨n, hn⟩ : ∃ n, 4294967296 * r = n := ⟨_, rfl⟩
        obtain ⟨n2, hn2⟩ : ∃ n2, n + d1 = n2 := ⟨_, rfl⟩
        have g3 : IntKind.u64.wrap ((q : Int) * (b : Int)) = (m : Int) := u64_in (by rw [← hm]; exact (Int.natCast_mul _ _).symm) (by omega)
        have g4 : IntKind.u64.wrap (4294967296 * (r : Int)) = (n : Int) := u64_in (by omega) (by omega)
        have g5 : IntKind.u64.wrap ((n : Int) + (d1 : Int)) = (n2 : Int) := u64_in (by omega) (by omega)
        by_cases h2 : n2 < m
        · have HDN := Lib.hid (dig_down HH.out HD.out.1 (.inr (by omega)))
          rw [HR2.out] at HDN
          have q1 := (dig_big HH.out HD.out.1 (.inr (by omega))).1
          obtain ⟨p, hp⟩ : ∃ p, q - 1 = p := ⟨_, rfl⟩
          rw [hp] at HDN
          have g2 : IntKind.u64.wrap ((q : Int) - 1) = (p : Int) := u64_in (by omega) (by omega)
          have k2 : decide ((m : Int) > (n2 : Int)) = true := decide_eq_true (by omega)
          have k2' : decide (n2 < m) = true := decide_eq_true h2
          have hpq : p < q := by omega
          have hp4 : p ≤ 4294967296 := by omega
          clear hp h1 h2 hm hn hn2 hqb
          by_cases h3 : 4294967296 ≤ r2
          · have k3 : decide ((r2 : Int) ≥ 4294967296) = true := decide_eq_true (by omega)
            have k3' : decide (4294967296 ≤ (r2 : Int)) = true := decide_eq_true (by omega)
            have HE := Lib.hid (show DigE y2 c d1 p from ⟨dig_far HH.out HDN.out hp4 h3, HDN.out.low, by omega⟩)
            clear h3
            go_wp2_with fail
            go_meet
            exact ⟨p, rfl, HE, rfl⟩
          · have k3 : decide ((r2 : Int) ≥ 4294967296) = false := decide_eq_false (by omega)
            have k3' : decide (4294967296 ≤ (r2 : Int)) = false := decide_eq_false (by omega)
            have H3 := Lib.hid h3
            clear h3
            go_wp2_with fail
            go_roundw
            case rel => exact ⟨p, r2, rfl, rfl, Lib.hid ⟨HDN.out, by have := H3.out; omega⟩, by first | rfl | trivial⟩
            case measure => simp [intOf]; omega
        · have k2 : decide ((m : Int) > (n2 : Int)) = false := decide_eq_false (by omega)
          have k2' : decide (n2 < m) = false := decide_eq_false h2
          have HE := Lib.hid (show DigE y2 c d1 q from ⟨dig_end HH.out HD.out.1 (by omega), HD.out.1.low, hq9⟩)
          clear h1 h2 hm hn hn2 hqb
          go_wp2_with fail
          go_meet
          exact ⟨q, rfl, HE, rfl⟩
  clear HDqa
  obtain ⟨q1, rfl, HE1, rfl⟩ := hcut
  obtain ⟨z1, z2, z3, c2, n1, n2, n3, n4, n5, n6⟩ := dig_next HE1.out hc1 hdd hy2
  have HH1 := HH
  have HH : Hid (DigN y2 a b c2 d0) := Lib.hid ⟨HH1.out.ye, HH1.out.a0, HH1.out.a1, HH1.out.b1, n6, hd0⟩
  have hc2 : c2 < 18446744073709551616 := by omega
  have N5 := Lib.hid n5
  clear n5 n6
  have c2H := HH.out
  obtain ⟨HDqb, hrqb⟩ := dig_start c2H
  have hmqb := Nat.div_add_mod c2 a
  obtain ⟨qb, hqb⟩ : ∃ q, c2 / a = q := ⟨_, rfl⟩
  obtain ⟨rb, hrb⟩ : ∃ r, c2 % a = r := ⟨_, rfl⟩
  rw [hqb, hrb] at HDqb hmqb
  rw [hrb] at hrqb
  obtain ⟨mqb, hmmqb⟩ : ∃ m, qb * a = m := ⟨_, rfl⟩
  have f1qb : IntKind.u64.wrap ((c2 : Int) / (a : Int)) = (qb : Int) := u64_in (by rw [← hqb]; exact (Int.natCast_ediv _ _).symm) (by have := HDqb.top; omega)
  have f2qb : IntKind.u64.wrap ((qb : Int) * (a : Int)) = (mqb : Int) := u64_in (by rw [← hmmqb]; exact (Int.natCast_mul _ _).symm) (by rw [Nat.mul_comm] at hmqb; omega)
  have f3qb : IntKind.u64.wrap ((c2 : Int) - (mqb : Int)) = (rb : Int) := u64_in (by rw [Nat.mul_comm] at hmqb; omega) (by omega)
  have HDqb := Lib.hid (And.intro HDqb hrqb)
  clear hqb hrb hmqb hmmqb hrqb
  clear c2H
  go_upto_block 2 with (first
    | (go_at_call 103; (with_reducible refine K.mono ?_); rintro e w1 ⟨rfl, rfl⟩)
    | fail)
  clear f1qb f2qb f3qb
  go_cut [16, 18] from 102 to 120 (fun s16 s18 wx => ∃ q : Nat, s18 = .int .u64 (q : Int) ∧ Hid (DigE y2 c2 d0 q) ∧ wx = wc)
  case first =>
    go_wp2_with fail
    go_loopw [16, 18] (fun s16 s18 wr => ∃ q r : Nat, s18 = .int .u64 (q : Int) ∧ s16 = .int .u64 (r : Int) ∧ Hid (Dig y2 a b c2 d0 q r ∧ r < 4294967296) ∧ wr = wc) (fun _ s18 _ => (intOf s18).toNat)
    case atStart => exact ⟨qb, rb, rfl, rfl, HDqb, rfl⟩
    case round =>
      obtain ⟨q, r, rfl, rfl, HD, rfl⟩ := hrel
      have hq9 := HD.out.1.top
      have hr9 := HD.out.2
      obtain ⟨r2, hr2⟩ : ∃ r2, r + a = r2 := ⟨_, rfl⟩
      have g1 : IntKind.u64.wrap ((r : Int) + (a : Int)) = (r2 : Int) := u64_in (by omega) (by omega)
      have HR2 := Lib.hid hr2
      clear hr2
      by_cases h1 : 4294967296 ≤ q
      · have HDN := Lib.hid (dig_down HH.out HD.out.1 (.inl h1))
        rw [HR2.out] at HDN
        obtain ⟨p, hp⟩ : ∃ p, q - 1 = p := ⟨_, rfl⟩
        rw [hp] at HDN
        have g2 : IntKind.u64.wrap ((q : Int) - 1) = (p : Int) := u64_in (by omega) (by omega)
        have k1 : decide ((q : Int) ≥ 4294967296) = true := decide_eq_true (by omega)
        have k1' : decide (4294967296 ≤ (q : Int)) = true := decide_eq_true (by omega)
        have hpq : p < q := by omega
        have hp4 : p ≤ 4294967296 := by omega
        clear hp h1
        by_cases h3 : 4294967296 ≤ r2
        · have k3 : decide ((r2 : Int) ≥ 4294967296) = true := decide_eq_true (by omega)
          have k3' : decide (4294967296 ≤ (r2 : Int)) = true := decide_eq_true (by omega)
          have HE := Lib.hid (show DigE y2 c2 d0 p from ⟨dig_far HH.out HDN.out hp4 h3, HDN.out.low, by omega⟩)
          clear h3
          go_wp2_with fail
          go_meet
          exact ⟨p, rfl, HE, rfl⟩
        · have k3 : decide ((r2 : Int) ≥ 4294967296) = false := decide_eq_false (by omega)
          have k3' : decide (4294967296 ≤ (r2 : Int)) = false := decide_eq_false (by omega)
          have H3 := Lib.hid h3
          clear h3
          go_wp2_with fail
          go_roundw
          case rel => exact ⟨p, r2, rfl, rfl, Lib.hid ⟨HDN.out, by have := H3.out; omega⟩, by first | rfl | trivial⟩
          case measure => simp [intOf]; omega
      · have k1 : decide ((q : Int) ≥ 4294967296) = false := decide_eq_false (by omega)
        have k1' : decide (4294967296 ≤ (q : Int)) = false := decide_eq_false (by omega)
        have hqb := dig_qb HH.out (q := q) (by omega)
        obtain ⟨m, hm⟩ : ∃ m, q * b = m := ⟨_, rfl⟩
        obtain ⟨n, hn⟩ : ∃ n, 4294967296 * r = n := ⟨_, rfl⟩
        obtain ⟨n2, hn2⟩ : ∃ n2, n + d0 = n2 := ⟨_, rfl⟩
        have g3 : IntKind.u64.wrap ((q : Int) * (b : Int)) = (m : Int) := u64_in (by rw [← hm]; exact (Int.natCast_mul _ _).symm) (by omega)
        have g4 : IntKind.u64.wrap (4294967296 * (r : Int)) = (n : Int) := u64_in (by omega) (by omega)
        have g5 : IntKind.u64.wrap ((n : Int) + (d0 : Int)) = (n2 : Int) := u64_in (by omega) (by omega)
        by_cases h2 : n2 < m
        · have HDN := Lib.hid (dig_down HH.out HD.out.1 (.inr (by omega)))
          rw [HR2.out] at HDN
          have q1 := (dig_big HH.out HD.out.1 (.inr (by omega))).1
          obtain ⟨p, hp⟩ : ∃ p, q - 1 = p := ⟨_, rfl⟩
          rw [hp] at HDN
          have g2 : IntKind.u64.wrap ((q : Int) - 1) = (p : Int) := u64_in (by omega) (by omega)
          have k2 : decide ((m : Int) > (n2 : Int)) = true := decide_eq_true (by omega)
          have k2' : decide (n2 < m) = true := decide_eq_true h2
          have hpq : p < q := by omega
          have hp4 : p ≤ 4294967296 := by omega
          clear hp h1 h2 hm hn hn2 hqb
          by_cases h3 : 4294967296 ≤ r2
          · have k3 : decide ((r2 : Int) ≥ 4294967296) = true := decide_eq_true (by omega)
            have k3' : decide (4294967296 ≤ (r2 : Int)) = true := decide_eq_true (by omega)
            have HE := Lib.hid (show DigE y2 c2 d0 p from ⟨dig_far HH.out HDN.out hp4 h3, HDN.out.low, by omega⟩)
            clear h3
            go_wp2_with fail
            go_meet
            exact ⟨p, rfl, HE, rfl⟩
          · have k3 : decide ((r2 : Int) ≥ 4294967296) = false := decide_eq_false (by omega)
            have k3' : decide (4294967296 ≤ (r2 : Int)) = false := decide_eq_false (by omega)
            have H3 := Lib.hid h3
            clear h3
            go_wp2_with fail
            go_roundw
            case rel => exact ⟨p, r2, rfl, rfl, Lib.hid ⟨HDN.out, by have := H3.out; omega⟩, by first | rfl | trivial⟩
            case measure => simp [intOf]; omega
        · have k2 : decide ((m : Int) > (n2 : Int)) = false := decide_eq_false (by omega)
          have k2' : decide (n2 < m) = false := decide_eq_false h2
          have HE := Lib.hid (show DigE y2 c2 d0 q from ⟨dig_end HH.out HD.out.1 (by omega), HD.out.1.low, hq9⟩)
          clear h1 h2 hm hn hn2 hqb
          go_wp2_with fail
          go_meet
          exact ⟨q, rfl, HE, rfl⟩
  clear HDqb
  obtain ⟨q0, rfl, HE0, rfl⟩ := hcut
  obtain ⟨v1, v1e, v1z, v1n⟩ := u64_mod ((q1 : Int) * 4294967296)
  obtain ⟨v2, v2e, v2z, v2n⟩ := u64_mod ((v1 : Int) + (q0 : Int))
  obtain ⟨v3, v3e, v3z, v3n⟩ := u64_mod ((c2 : Int) * 4294967296)
  obtain ⟨v4, v4e, v4z, v4n⟩ := u64_mod ((v3 : Int) + (d0 : Int))
  obtain ⟨v5, v5e, v5z, v5n⟩ := u64_mod ((q0 : Int) * (y2 : Int))
  obtain ⟨v6, v6e, v6z, v6n⟩ := u64_mod ((v4 : Int) - (v5 : Int))
  obtain ⟨v7, v7e⟩ := O11.out (v6 : Int)
  have FIN := Lib.hid (show (v2 : Int) = ((q1 * 4294967296 + q0 : Nat) : Int) % 18446744073709551616 by omega)
  clear v1z v2z v3z v4z v5z v6z
  go_wp2_with fail
  go_ret2
  exact ⟨⟨_, _, rfl, Lib.hid ⟨q1, q0, c2, HE1.out, N5.out, HE0.out, FIN.out⟩⟩, rfl⟩
end Go.Proofs.YtnhddnldebdmbaaGreatDoor
/- math/bits.Div64: its quotient is not above. -/
namespace Go.Proofs.YtnhddnldebdmbaaGreatDoor
open Go.RowKit
set_option linter.unusedVariables false
set_option linter.unusedSimpArgs false
theorem or_add (h P l s : Nat) (hP : P = 2 ^ s) (hl : l < P) (hs : h * P + l < 18446744073709551616) : bits .or .u64 ((h * P : Nat) : Int) (l : Int) = ((h * P + l : Nat) : Int) := by
  have e := bits_or_u64_nat (h * P) l (by omega) (by omega)
  rw [e]
  subst hP
  have := Nat.two_pow_add_eq_or_of_lt hl h
  rw [Nat.mul_comm h, this]
theorem div_fin {hi lo y P y2 c x1 d1 d0 q1 q0 c2 : Nat} (hP : 0 < P) (h1 : y2 = y * P) (h2 : c * 18446744073709551616 + x1 = (hi * 18446744073709551616 + lo) * P) (h3 : x1 = d1 * 4294967296 + d0) (h4 : c2 + q1 * y2 = c * 4294967296 + d1) (h5 : q0 * y2 ≤ c2 * 4294967296 + d0) :
    (q1 * 4294967296 + q0) * y ≤ hi * 18446744073709551616 + lo := by
  have e1 : (q1 * 4294967296 + q0) * y2 = q1 * y2 * 4294967296 + q0 * y2 := by rw [Nat.add_mul, Nat.mul_right_comm]
  have e2 : (q1 * 4294967296 + q0) * y2 ≤ (hi * 18446744073709551616 + lo) * P := by
    rw [← h2, e1]
    generalize q1 * y2 = m at *
    generalize q0 * y2 = n at *
    omega
  rw [h1, ← Nat.mul_assoc] at e2
  exact Nat.le_of_mul_le_mul_right e2 hP
theorem add_step {c2 m d0 n B : Nat} (h5 : c2 * B + d0 < n) : (c2 + m) * B + d0 < m * B + n := by
  rw [Nat.add_mul]; omega
theorem div_fin2 {hi lo y P y2 c x1 d1 d0 q1 q0 c2 : Nat} (hP : 0 < P) (h1 : y2 = y * P) (h2 : c * 18446744073709551616 + x1 = (hi * 18446744073709551616 + lo) * P) (h3 : x1 = d1 * 4294967296 + d0) (h4 : c2 + q1 * y2 = c * 4294967296 + d1) (h5 : c2 * 4294967296 + d0 < (q0 + 1) * y2) :
    hi * 18446744073709551616 + lo < (q1 * 4294967296 + q0 + 1) * y := by
  have e1 : (q1 * 4294967296 + q0 + 1) * y2 = q1 * y2 * 4294967296 + (q0 + 1) * y2 := by rw [Nat.add_assoc, Nat.add_mul, Nat.mul_right_comm]
  have e2 : (hi * 18446744073709551616 + lo) * P < (q1 * 4294967296 + q0 + 1) * y2 := by
    rw [← h2, e1]
    clear e1 h1 hP
    obtain ⟨m, hm⟩ : ∃ m, q1 * y2 = m := ⟨_, rfl⟩
    obtain ⟨n, hn⟩ : ∃ n, (q0 + 1) * y2 = n := ⟨_, rfl⟩
    rw [hm] at h4 ⊢
    rw [hn] at h5 ⊢
    clear hm hn h2
    have e9 : c * 18446744073709551616 + x1 = (c * 4294967296 + d1) * 4294967296 + d0 := by omega
    rw [e9, ← h4]
    exact add_step h5
  rw [h1, ← Nat.mul_assoc] at e2
  exact Nat.lt_of_mul_lt_mul_right e2
theorem div_is {z y h : Nat} {q : Int} (hq : q = ((z : Nat) : Int) % 18446744073709551616) (h0 : z * y ≤ h) (h1 : h < (z + 1) * y) (hh : h < 18446744073709551616 * y) : q = ((h / y : Nat) : Int) := by
  have hy : 0 < y := by rcases Nat.eq_zero_or_pos y with e | e; · subst e; omega
                        · exact e
  have e : h / y = z := Nat.le_antisymm (Nat.le_of_lt_succ ((Nat.div_lt_iff_lt_mul hy).2 h1)) ((Nat.le_div_iff_mul_le hy).2 h0)
  have e2 : h / y < 18446744073709551616 := (Nat.div_lt_iff_lt_mul hy).2 hh
  omega
set_option maxRecDepth 100000 in
set_option maxHeartbeats 4000000 in
theorem div64_any (hi lo y : Nat) (w : World) (h1 : hi < y) (h2 : y < 18446744073709551616) (hlo : lo < 18446744073709551616) :
    Calls Tryz.prog 82 #[.int .u64 (hi : Int), .int .u64 (lo : Int), .int .u64 (y : Int)] w fun e w' => (∃ r : Int, e = .returned (.tuple #[.int .u64 (((hi * 18446744073709551616 + lo) / y : Nat) : Int), .int .u64 r])) ∧ Below w.heap.size w w' := by
  have t0 : ((y : Int) == 0) = false := by simp; omega
  have t1 : decide (y ≤ hi) = false := decide_eq_false (by omega)
  by_cases hz : hi = 0
  · subst hz
    have t3 : ¬ y = 0 := by omega
    have e1 : lo / y ≤ lo := Nat.div_le_self _ _
    rw [Nat.zero_mul, Nat.zero_add]
    have q1 : IntKind.u64.wrap ((lo : Int) / (y : Int)) = ((lo / y : Nat) : Int) := u64_in (Int.natCast_ediv _ _).symm (by omega)
    generalize lo / y = qv at *
    clear e1 h1
    go_enter Tryz.func82, Tryz.ntmps82
    go_upto_region 6 with fail
    go_quiet (fail)
    go_wp2
    go_ret2
    exact ⟨⟨_, rfl⟩, below_drewN (Below.refl _ _) nq⟩
  · obtain ⟨b1, b2, b3⟩ := lead y (by omega) h2
    have K := Tryz.bits_LeadingZeros64 (y : Int) w (by omega) (by omega)
    obtain ⟨s, hs⟩ : ∃ s, 64 - Lib.bitLen y = s := ⟨_, rfl⟩
    have hbl := (bitLen_bds 64 y (by omega) h2 (Nat.le_refl _)).1
    have es : (64 : Int) - (Lib.bitLen (y : Int).toNat : Int) = (s : Int) := by rw [Int.toNat_natCast]; omega
    rw [es] at K
    rw [hs] at b2 b3
    have hP : 0 < 2 ^ s := Nat.two_pow_pos s
    have hPe : 2 ^ (64 - s) * 2 ^ s = 18446744073709551616 := by rw [← Nat.pow_add, show 64 - s + s = 64 by omega]
    obtain ⟨P, hPP⟩ : ∃ P, 2 ^ s = P := ⟨_, rfl⟩
    obtain ⟨R, hR⟩ : ∃ R, 2 ^ (64 - s) = R := ⟨_, rfl⟩
    have hsI : (2 : Int) ^ (s : Int).toNat = (P : Int) := by rw [Int.toNat_natCast, ← hPP]; simp
    have hrI : (2 : Int) ^ ((64 - s : Nat) : Int).toNat = (R : Int) := by rw [Int.toNat_natCast, ← hR]; simp
    rw [hPP, hR] at hPe
    rw [hPP] at b2 b3 hP
    have hR0 : 0 < R := by rcases Nat.eq_zero_or_pos R with h | h; · subst h; omega
                           · exact h
    -- lo shifted
    have l1 : lo / R < P := (Nat.div_lt_iff_lt_mul hR0).2 (by rw [Nat.mul_comm]; omega)
    have l2 : lo * P / 18446744073709551616 = lo / R := by rw [← hPe, Nat.mul_div_mul_right _ _ hP]
    have l3 := Nat.div_add_mod (lo * P) 18446744073709551616
    rw [l2] at l3
    have hhi : (hi + 1) * P ≤ y * P := Nat.mul_le_mul_right P h1
    rw [Nat.add_mul, Nat.one_mul] at hhi
    obtain ⟨x1, hx1⟩ : ∃ x1, lo * P % 18446744073709551616 = x1 := ⟨_, rfl⟩
    have hx2 : x1 < 18446744073709551616 := by omega
    have oo := or_add hi P (lo / R) s hPP.symm l1 (by omega)
    have hcx : (hi * P + lo / R) * 18446744073709551616 + x1 = (hi * 18446744073709551616 + lo) * P := by
      rw [Nat.add_mul, Nat.add_mul, Nat.mul_right_comm]
      omega
    have hN : DigN (y * P) (y * P / 4294967296) (y * P % 4294967296) (hi * P + lo / R) (x1 / 4294967296) := ⟨by omega, by omega, by omega, by omega, by omega, by omega⟩
    refine (div_walk hi lo y s (y * P) (y * P / 4294967296) (y * P % 4294967296) (hi * P) (64 - s) (lo / R) (hi * P + lo / R) x1 (x1 / 4294967296) (x1 % 4294967296) w hN (by omega) hlo b3 t0 t1 (by simpa using hz) (by omega) (u64_in rfl (by omega)) ?_ ?_ ?_ ?_ ?_ ?_ oo ?_ ?_ ?_ ?_ K).mono ?_
    · rw [shift_shl .u64 .u64 (y : Int) (s : Int) (by omega) (by simp [IntKind.bits]; omega), hsI, u64_in (Int.natCast_mul y P).symm b3]
    · exact (shift_shr .u64 .u64 ((y * P : Nat) : Int) 32 (by omega) (by decide)).trans (by congr 2)
    · exact Mul64.maskN _ b3
    · rw [shift_shl .u64 .u64 (hi : Int) (s : Int) (by omega) (by simp [IntKind.bits]; omega), hsI, u64_in (Int.natCast_mul hi P).symm (by omega)]
    · exact u64_in (by omega) (by omega)
    · rw [shift_shr .u64 .u64 (lo : Int) ((64 - s : Nat) : Int) (by omega) (by simp [IntKind.bits]; omega), hrI]
      rfl
    · rw [shift_shl .u64 .u64 (lo : Int) (s : Int) (by omega) (by simp [IntKind.bits]; omega), hsI, u64_of (n := x1) (by rw [← Int.natCast_mul]; omega)]
    · exact (shift_shr .u64 .u64 (x1 : Int) 32 (by omega) (by decide)).trans (by congr 2)
    · exact Mul64.maskN _ hx2
    · exact fun x => ⟨_, shift_shr .u64 .u64 x (s : Int) (by omega) (by simp [IntKind.bits]; omega)⟩
    · rintro e w' ⟨⟨q, r, rfl, hq⟩, rfl⟩
      obtain ⟨q1, q0, c2, e1, e2, e3, e4⟩ := hq.out
      have hm : hi * 18446744073709551616 + lo < 18446744073709551616 * y := by
        have := Nat.mul_le_mul_left 18446744073709551616 (show hi + 1 ≤ y from h1)
        omega
      rw [div_is e4 (div_fin hP rfl hcx (by omega) e2 e3.1) (div_fin2 hP rfl hcx (by omega) e2 e3.2.1) hm]
      exact ⟨⟨r, rfl⟩, Below.refl _ _⟩
end Go.Proofs.YtnhddnldebdmbaaGreatDoor
/- What All tells: plain words, and in memory. -/
namespace Go.Proofs.YtnhddnldebdmbaaGreatDoor
open Go.RowKit
set_option linter.unusedVariables false
set_option linter.unusedSimpArgs false
/-- A row of numbers of 64 bits that can be read. -/
structure IRowA (w : World) (A : Option Addr) (cap : Nat) (ns : List Int) : Prop where
  le : ns.length ≤ cap
  mx : cap ≤ 9223372036854775807
  at_ : ∀ k z, ns[k]? = some z → ∃ g o, A = some ⟨g, o, none⟩ ∧ g < w.heap.size ∧ w.cell? ⟨g, o + k, none⟩ = some (.int .i64 z)
theorem IRowA.later {w w' : World} {A : Option Addr} {cap : Nat} {ns : List Int} (h : IRowA w A cap ns) (hb : Below w.heap.size w w') : IRowA w' A cap ns :=
  ⟨h.le, h.mx, fun k z hz => by
    obtain ⟨g, o, e, hg, hc⟩ := h.at_ k z hz
    exact ⟨g, o, e, Nat.lt_of_lt_of_le hg hb.size, (hb.cell (p := ⟨g, o + k, none⟩) hg).trans hc⟩⟩
/-- All bounds by places, the places that have none, and the error. -/
def bndsL (l : List Ts) : List Int := if (chkAll l).2 = 0 then (List.range l.length).map (fun k : Nat => (boundI l (k : Int)).1) else []
def lateL (l : List Ts) : List Int := if (chkAll l).2 = 0 then ((List.range l.length).filter (fun k : Nat => decide ((boundI l (k : Int)).2 ≠ 0))).map (fun k : Nat => (k : Int)) else []
def allE (l : List Ts) : Int := if (chkAll l).2 = 0 then (if lateL l = [] then 0 else 16) else 1
def AllP (l : List Ts) (w : World) (e : Ending) (w' : World) : Prop := ∃ A1 c1 A2 c2, e = .returned (.tuple #[.slice A1 (bndsL l).length c1, .slice A2 (lateL l).length c2, .int .i64 (allE l)]) ∧ IRowA w' A1 c1 (bndsL l) ∧ IRowA w' A2 c2 (lateL l) ∧ Below w.heap.size w w'
theorem bndsL_len {l : List Ts} (h : (chkAll l).2 = 0) : (bndsL l).length = l.length := by unfold bndsL; rw [if_pos h]; simp
theorem bndsL_at {l : List Ts} (h : (chkAll l).2 = 0) {k : Nat} (hk : k < l.length) : (bndsL l)[k]? = some (boundI l (k : Int)).1 := by unfold bndsL; rw [if_pos h]; simp [hk]
end Go.Proofs.YtnhddnldebdmbaaGreatDoor
/- Bounds, and the reckoning: the document's own. -/
namespace Go.Proofs.YtnhddnldebdmbaaGreatDoor
open Go.RowKit
set_option linter.unusedVariables false
set_option linter.unusedSimpArgs false
theorem need_u (l : List Ts) (i v : Int) (hb : isB l i = true) (h : U v) : U (needI l i v) := by
  have hv := isB_vs hb
  have hck := (isB_iff hb).1
  obtain ⟨ki, y, rfl, hki, hy⟩ := isB_get hb
  rw [need_form hck hy]
  have hc := (hv.all y (List.mem_of_getElem? hy)).c0
  have hbk := blk_take_bd (p := y.p) hv l.length
  rw [List.take_length] at hbk
  exact satAdd_u (satAdd_u (satAdd_u (Int.le_refl _) (show 0 ≤ y.c by omega)).1 hbk.1).1 (hiU_nonneg hv h.1)
theorem w64 {z : Int} (h0 : 0 ≤ z) (h1 : z ≤ 4611686018427387904) : wrap64 z = z ∧ IntKind.i64.wrap z = z := ⟨IntWalk.wrap64_in _ (by omega), by rw [IntKind.wrap_i64]; omega⟩
theorem wu64 {z : Int} (h0 : 0 ≤ z) (h1 : z ≤ 18446744073709551615) : IntKind.u64.wrap z = z := by rw [IntKind.wrap_u64]; omega
theorem eachF_len (N : Int → Int) (M : Int) : ∀ (f : Nat) (w : Int), (eachF N M f w).length ≤ f + 1
  | 0, w => by simp [eachF]
  | f + 1, w => by
    have := eachF_len N M f (N w)
    rw [eachF]
    split
    · simp
    · rw [List.length_cons]; omega
theorem own_last {B : Nat} {V : World} {v : Value} {pre : List Int} {z : Int} (h : OwnU B V v (pre ++ [z])) : ∃ g c, v = .slice (some ⟨g, 0, none⟩) (pre.length + 1) c ∧ pre.length + 1 ≤ c ∧ c ≤ maxLen ∧ V.cell? ⟨g, pre.length, none⟩ = some (.int .u64 z) := by
  unfold OwnU at h
  obtain ⟨A, c, hv, hl, hm⟩ := own_len h
  rcases h.2 with ⟨hv2, h0⟩ | ⟨g, cap, cur, hv2, hb, hh, _⟩
  · simp at h0
  · have hc := h.cells (g := g) (by rw [hv2]; rfl)
    have hq := hc pre.length (.int .u64 z) (by simp [cellsU])
    rw [add_none, Nat.zero_add] at hq
    rw [hv] at hv2
    simp only [Value.slice.injEq] at hv2
    obtain ⟨rfl, _, rfl⟩ := hv2
    exact ⟨g, c, by rw [hv]; simp, by simpa using hl, hm, hq⟩
/-- While the reckoning is told. -/
structure EaL (B : Nat) (w : World) (nf : Int → Int) (M : Nat) (all : List Int) (pre : List Int) (z : Int) (f : Nat) (v : Value) (wr : World) : Prop where
  o : OwnU B wr v (pre ++ [z])
  b : Below w.heap.size w wr
  u : U z
  p : 1 ≤ z
  e : all = pre ++ eachF nf M f z
  m : (M : Int) - z < (f : Int)
  n : pre.length + f ≤ M + 1
  r : z ≤ nf z
end Go.Proofs.YtnhddnldebdmbaaGreatDoor
/- rta.part, rta.most, rta.may: their contracts. -/
namespace Go.Proofs.YtnhddnldebdmbaaGreatDoor
open Go.RowKit
set_option linter.unusedVariables false
set_option linter.unusedSimpArgs false
/-- 2^63 times a by b, at its end. -/
def partI (a b : Int) : Int := if b ≤ a / 2 then 18446744073709551615 else 9223372036854775808 * a / b
theorem partI_nat (x y : Nat) (h : ¬ y ≤ x / 2) : partI (x : Int) (y : Int) = ((9223372036854775808 * x / y : Nat) : Int) := by
  unfold partI
  rw [if_neg (by omega), Int.natCast_ediv, Int.natCast_mul]
  rfl
theorem part_bd {a b : Int} (ha : U a) (hb : U b) : U (partI a b) ∧ partI a b * b ≤ 9223372036854775808 * a := by
  obtain ⟨x, rfl⟩ : ∃ x : Nat, a = (x : Int) := ⟨a.toNat, by have := ha.1; omega⟩
  obtain ⟨y, rfl⟩ : ∃ y : Nat, b = (y : Int) := ⟨b.toNat, by have := hb.1; omega⟩
  by_cases h : y ≤ x / 2
  · have e : partI (x : Int) (y : Int) = 18446744073709551615 := by unfold partI; rw [if_pos (by omega)]
    rw [e]
    exact ⟨⟨by decide, by decide⟩, by omega⟩
  · rw [partI_nat x y h]
    have h1 := Nat.div_mul_le_self (9223372036854775808 * x) y
    have h2 : 9223372036854775808 * x / y < 18446744073709551616 := (Nat.div_lt_iff_lt_mul (by omega)).2 (by omega)
    generalize 9223372036854775808 * x / y = q at *
    refine ⟨⟨by omega, by omega⟩, ?_⟩
    rw [← Int.natCast_mul]
    omega
set_option maxRecDepth 100000 in
set_option maxHeartbeats 4000000 in
theorem part_any (a b : Int) (w : World) (ha : U a) (hb : U b) :
    Calls Tryz.prog 57 #[.int .u64 a, .int .u64 b] w fun e w' => e = .returned (.int .u64 (partI a b)) ∧ Below w.heap.size w w' := by
  obtain ⟨x, rfl⟩ : ∃ x : Nat, a = (x : Int) := ⟨a.toNat, by have := ha.1; omega⟩
  obtain ⟨y, rfl⟩ : ∃ y : Nat, b = (y : Int) := ⟨b.toNat, by have := hb.1; omega⟩
  have hx := ha.2
  have hy := hb.2
  have KM : Calls Tryz.prog 81 #[.int .u64 9223372036854775808, .int .u64 (x : Int)] w fun e w' => e = .returned (.tuple #[.int .u64 ((9223372036854775808 * x / 18446744073709551616 : Nat) : Int), .int .u64 ((9223372036854775808 * x % 18446744073709551616 : Nat) : Int)]) ∧ w' = w := Tryz.bits_Mul64 9223372036854775808 x (by omega) (by omega) w
  have e1 : 9223372036854775808 * x / 18446744073709551616 = x / 2 := by omega
  obtain ⟨lo, hlo⟩ : ∃ lo, 9223372036854775808 * x % 18446744073709551616 = lo := ⟨_, rfl⟩
  rw [e1, hlo] at KM
  obtain ⟨h, hh⟩ : ∃ h, x / 2 = h := ⟨_, rfl⟩
  rw [hh] at KM
  have hl : lo < 18446744073709551616 := by omega
  have hhx : h * 18446744073709551616 + lo = 9223372036854775808 * x := by omega
  by_cases hc : y ≤ h
  · have t1 : decide ((h : Int) ≥ (y : Int)) = true := decide_eq_true (by omega)
    have t2 : decide (y ≤ h) = true := decide_eq_true hc
    have e : partI (x : Int) (y : Int) = 18446744073709551615 := by unfold partI; rw [if_pos (by omega)]
    rw [e]
    clear hc hh hhx hl hlo e1 ha hb e
    go_enter Tryz.func57, Tryz.ntmps57
    go_wp2_with (first
      | (go_at_call 81; (with_reducible refine KM.mono ?_); rintro e w1 ⟨rfl, rfl⟩)
      | fail)
    go_ret
    exact ⟨rfl, Below.refl _ _⟩
  · have t1 : decide ((h : Int) ≥ (y : Int)) = false := decide_eq_false (by omega)
    have t2 : decide (y ≤ h) = false := decide_eq_false hc
    have KD := Lib.hid (fun W => div64_any h lo y W (by omega) (by omega) hl)
    rw [partI_nat x y (by omega)]
    rw [hhx] at KD
    generalize 9223372036854775808 * x / y = q at *
    clear hc hh hhx hl hlo e1 ha hb
    go_enter Tryz.func57, Tryz.ntmps57
    go_wp2_with (first
      | (go_at_call 81; (with_reducible refine KM.mono ?_); rintro e w1 ⟨rfl, rfl⟩)
      | (go_at_call 82; (with_reducible refine (KD.out _).mono ?_); rintro e w2 ⟨⟨r, rfl⟩, hb⟩)
      | fail)
    go_ret
    exact ⟨rfl, hb⟩
/-- The greatest number of a reckoning that is not too great. -/
theorem most_any (x : Ts) (w : World) (h1 : 0 ≤ x.d - x.j) (h2 : x.d - x.j ≤ 4611686018427387904) :
    Calls Tryz.prog 27 #[tsV x] w fun e w' => e = .returned (.int .u64 (x.d - x.j)) ∧ Below w.heap.size w w' := by
  obtain ⟨w1, w2⟩ := w64 (z := x.d - x.j) (by omega) h2
  have w3 : IntKind.u64.wrap (x.d - x.j) = x.d - x.j := by rw [IntKind.wrap_u64]; omega
  have HT := TAt.new w x
  have c3 := HT.c3
  have c4 := HT.c4
  have hb : Below w.heap.size w (w.alloc (.cells #[.string x.n, .int .i64 x.c, .int .i64 x.t, .int .i64 x.d, .int .i64 x.j, .int .i64 x.q, .int .i64 x.p] 40)) := (Below.refl _ _).alloc (Nat.le_refl _) _
  clear h1 h2 HT
  go_enter Tryz.func27, Tryz.ntmps27
  go_wp2
  go_ret
  exact ⟨rfl, hb⟩
set_option maxRecDepth 100000 in
theorem rmay_any (A : Option Addr) (cap : Nat) (l : List Ts) (i : Int) (w : World) (hR : Row w A cap l) (hi : in64 i) :
    Calls Tryz.prog 18 #[.slice A l.length cap, .int .i64 i] w fun e w' => e = .returned (.bool (isB l i)) ∧ Below w.heap.size w w' := by
  have K := Lib.hid (checkAll_any A cap l w hR)
  have HE : Hid (isB l i = (decide ((chkAll l).2 = 0) && (decide (0 ≤ i) && decide (i < (l.length : Int))))) := Lib.hid rfl
  have hmx := Nat.le_trans hR.le hR.mx
  generalize isB l i = b at *
  generalize (chkAll l).1 = a at *
  generalize (chkAll l).2 = ce at *
  generalize l.length = N at *
  clear hR
  by_cases h1 : i < 0
  · have u1 : decide (i < 0) = true := decide_eq_true h1
    have hb : b = false := by rw [HE.out, decide_eq_false (show ¬ 0 ≤ i by omega)]; simp
    rw [hb]
    clear hb HE
    go_enter Tryz.func18, Tryz.ntmps18
    go_wp2
    go_ret
    exact ⟨rfl, Below.refl _ _⟩
  · have u1 : decide (i < 0) = false := decide_eq_false h1
    by_cases h2 : i < (N : Int)
    · have u2 : decide (i ≥ (N : Int)) = false := decide_eq_false (by omega)
      have u2' : decide ((N : Int) ≤ i) = false := decide_eq_false (by omega)
      have hb : b = (ce == 0) := by rw [HE.out, decide_eq_true (show 0 ≤ i by omega), decide_eq_true h2, Bool.and_true, Bool.and_true]; rfl
      rw [hb]
      clear hb HE
      go_enter Tryz.func18, Tryz.ntmps18
      go_wp2_with (go_at_call 24; (with_reducible refine K.out.mono ?_); rintro e w1 ⟨rfl, h⟩)
      go_ret
      exact ⟨rfl, h⟩
    · have u2 : decide (i ≥ (N : Int)) = true := decide_eq_true (by omega)
      have u2' : decide ((N : Int) ≤ i) = true := decide_eq_true (by omega)
      have hb : b = false := by rw [HE.out, decide_eq_false h2]; simp
      rw [hb]
      clear hb HE
      go_enter Tryz.func18, Tryz.ntmps18
      go_wp2
      go_ret
      exact ⟨rfl, Below.refl _ _⟩
end Go.Proofs.YtnhddnldebdmbaaGreatDoor
/- The numbers of a reckoning, told one by one: the iterator's word. -/
namespace Go.Proofs.YtnhddnldebdmbaaGreatDoor
open Go.RowKit Go.Shelf
set_option linter.unusedVariables false
set_option linter.unusedSimpArgs false
attribute [local go_sem] Oper.semAt_some
/-! ### Plain words -/
/-- Not above any number that is enough. -/
def LeAll (N : Int → Int) (M v : Int) : Prop := ∀ w : Int, 1 ≤ w → w ≤ M → N w ≤ w → v ≤ w
theorem leall_zero {N : Int → Int} (h : Rises N) (M : Int) : LeAll N M (N 0) := fun w h1 _ he => Int.le_trans (h.mono (Int.le_refl _) (by omega)) he
theorem leall_next {N : Int → Int} (h : Rises N) {M v : Int} (h0 : 0 ≤ v) (hl : LeAll N M v) : LeAll N M (N v) := fun w h1 h2 he => Int.le_trans (h.mono h0 (hl w h1 h2 he)) he
theorem leall_up {N : Int → Int} (h : Rises N) {M v : Int} (h0 : 0 ≤ v) (hM : v ≤ M) (hl : LeAll N M v) : v ≤ N v := by
  rcases Int.lt_or_le (N v) v with h1 | h1
  · have hp := h.pos h0
    have := hl (N v) hp (by omega) (h.mono (by omega) (by omega))
    omega
  · exact h1
/-- What is told behind a number. -/
def eachT (N : Int → Int) (M : Int) : Nat → Int → List Int
  | 0, w => []
  | f + 1, w => if w > M ∨ N w = w then [] else eachF N M f (N w)
theorem each_head (N : Int → Int) (M : Int) : ∀ (f : Nat) (w : Int), eachF N M f w = w :: eachT N M f w
  | 0, w => rfl
  | f + 1, w => by
    rw [eachF, eachT]
    split <;> rfl
theorem eachT_big {N : Int → Int} {M : Int} {f : Nat} {w : Int} (h : M < w) : eachT N M f w = [] := by
  cases f with
  | zero => rfl
  | succ f => rw [eachT, if_pos (.inl h)]
theorem eachT_rest {N : Int → Int} {M : Int} {f : Nat} {w : Int} (h : N w = w) : eachT N M f w = [] := by
  cases f with
  | zero => rfl
  | succ f => rw [eachT, if_pos (.inr h)]
theorem eachT_go {N : Int → Int} {M : Int} {f : Nat} {w : Int} (h1 : w ≤ M) (h2 : N w ≠ w) (hf : M - w < (f : Int)) : ∃ g, eachT N M f w = eachF N M g (N w) ∧ f = g + 1 := by
  cases f with
  | zero => omega
  | succ g => exact ⟨g, by rw [eachT, if_neg (by omega)], rfl⟩
/-- The last number, from wherever one begins that is not above the least that is enough. -/
theorem leall_last {N : Int → Int} (h : Rises N) (M : Nat) : ∀ (f : Nat) (v : Int), 0 ≤ v → LeAll N M v → (M : Int) - v < (f : Int) → ∃ z, (eachF N M f v).getLast? = some z ∧ ((z > (M : Int) ∧ leastF N M = none) ∨ (z ≤ (M : Int) ∧ leastF N M = some z.toNat ∧ N z = z ∧ 1 ≤ z)) := by
  intro f
  induction f with
  | zero =>
    intro v h0 hl hf
    refine ⟨v, rfl, .inl ⟨by omega, leastF_not fun u h1 h2 => ?_⟩⟩
    rcases Int.lt_or_le (u : Int) (N u) with h9 | h9
    · exact h9
    · have := hl u (by omega) (by omega) h9; omega
  | succ f ih =>
    intro v h0 hl hf
    rw [each_head, eachT]
    split
    · rename_i hc
      refine ⟨v, rfl, ?_⟩
      rcases Int.lt_or_le (M : Int) v with hg | hg
      · refine .inl ⟨hg, leastF_not fun u h1 h2 => ?_⟩
        rcases Int.lt_or_le (u : Int) (N u) with h9 | h9
        · exact h9
        · have := hl u (by omega) (by omega) h9; omega
      · have he : N v = v := by rcases hc with hc | hc; · omega
                                · exact hc
        have hp := h.pos h0
        have e : ((v.toNat : Nat) : Int) = v := by omega
        refine .inr ⟨hg, leastF_is (by omega) (by omega) (by rw [e, he]; exact Int.le_refl _) fun u h1 h2 => ?_, he, by omega⟩
        rcases Int.lt_or_le (u : Int) (N u) with h9 | h9
        · exact h9
        · have := hl u (by omega) (by omega) h9; omega
    · rename_i hc
      have hu := leall_up h h0 (by omega) hl
      have hne : N v ≠ v := fun e => hc (.inr e)
      have hp := h.pos h0
      obtain ⟨z, hz, h2⟩ := ih (N v) (by omega) (leall_next h h0 hl) (by omega)
      refine ⟨z, ?_, h2⟩
      rw [List.getLast?_cons, hz]
      rfl
/-! ### In memory -/
abbrev numU (x : Int) : Array Value := #[.int .u64 x]
/-- What the iterator leans on. -/
structure NmS (w : World) (A : Option Addr) (cap : Nat) (l : List Ts) (k : Nat) (bl bi : Nat) : Prop where
  lx : Boxed w bl 25 (.slice A l.length cap)
  ix : Boxed w bi 3 (.int .i64 (k : Int))
  rw_ : Row w A cap l
  tb : Tab w
structure NmK (P : Nat → TypeId → Prop) (A : Option Addr) (bl bi : Nat) : Prop where
  l : ∀ T, P bl T
  i : ∀ T, P bi T
  t : ∀ T, P 0 T
  r : ∀ b o, A = some ⟨b, o, none⟩ → ∀ T, P b T
theorem NmS.keep {P : Nat → TypeId → Prop} {A : Option Addr} {cap bl bi k : Nat} {l : List Ts} {w w' : World} (h : NmS w A cap l k bl bi) (hP : NmK P A bl bi) (hk : KeepG P w w') : NmS w' A cap l k bl bi :=
  ⟨hk.boxed h.lx (hP.l _), hk.boxed h.ix (hP.i _), h.rw_.keepG hk hP.r, hk.tab h.tb hP.t⟩
theorem NmS.later {A : Option Addr} {cap bl bi k : Nat} {l : List Ts} {w w' : World} (h : NmS w A cap l k bl bi) (hb : Below w.heap.size w w') : NmS w' A cap l k bl bi :=
  h.keep (P := fun _ _ => True) ⟨fun _ => trivial, fun _ => trivial, fun _ => trivial, fun _ _ _ _ => trivial⟩ (KeepG.below hb)
theorem need_U {l : List Ts} {k : Nat} {y : Ts} (hc : (chkAll l).2 = 0) (hy : l[k]? = some y) {v : Int} (hv : U v) : U (needI l (k : Int) v) := by
  rw [need_form hc hy]
  have hv' := vs_of hc
  have h0 := (hv'.all y (List.mem_of_getElem? hy)).c0
  have hb := blockI_bd l (k : Int)
  have e : blockI l (k : Int) = blkU y.p l := by unfold blockI; rw [isB_at hc hy, if_pos rfl, (pOf_get hy).1]
  rw [e] at hb
  exact satAdd_u (satAdd_u (satAdd_u (by omega) (by omega)).1 hb.1).1 (hiU_nonneg hv' hv.1)
set_option maxRecDepth 100000 in
set_option maxHeartbeats 4000000 in
theorem numbers1_seq (n : Nat) (hn1 : 1 ≤ n) (A : Option Addr) (cap : Nat) (l : List Ts) (k : Nat) (y : Ts) (v0 : Int) (bw bl bi : Nat) (P : Nat → TypeId → Prop) (w : World) (hS : NmS w A cap l k bl bi) (hB : Boxed w bw 73 (.int .u64 v0)) (hP : NmK P A bl bi) (hc : (chkAll l).2 = 0) (hy : l[k]? = some y) (hv0 : U v0) (hl0 : LeAll (needI l (k : Int)) (y.d - y.j) v0) (f0 : Nat) (hf0 : y.d - y.j - v0 < (f0 : Int)) :
    SeqG numU n 53 #[.pointer (some ⟨bw, 0, none⟩), .pointer (some ⟨bl, 0, none⟩), .pointer (some ⟨bi, 0, none⟩)] P (eachF (needI l (k : Int)) (y.d - y.j) f0 v0) w := by
  intro lp J Jx W hW hO hOx hY hJ
  have hm := mOf_get hc hy
  have hR := need_rises (isB_at hc hy)
  have hM1 : 0 ≤ y.d - y.j := by omega
  have hM2 : y.d - y.j ≤ 2147483647 := by omega
  have hk := (List.getElem?_eq_some_iff.1 hy).1
  have HNU := Lib.hid (fun v hv => need_U hc hy (v := v) hv)
  obtain ⟨N, hN⟩ : ∃ N, needI l (k : Int) = N := ⟨_, rfl⟩
  have KN := Lib.hid (fun v hv V hR hT => need_any A cap l (k : Int) v V hR ⟨by omega, by have := hR.le; have := hR.mx; omega⟩ hv hT)
  rw [hN] at hl0 hY HNU hR KN ⊢
  have KM := Lib.hid (fun V => most_any y V hM1 (by omega))
  obtain ⟨M, hMM⟩ : ∃ M, y.d - y.j = M := ⟨_, rfl⟩
  rw [hMM] at hl0 hY hM1 hM2 KM hf0 ⊢
  have HS0 := Lib.hid (hS.later hW)
  have HB0 := Lib.hid (boxed_later2 hB (hW.mono (Nat.le_refl _)))
  have HY := Lib.hid hY
  have HP := Lib.hid hP
  have HRS := Lib.hid hR
  have HJ0 := Lib.hid hJ
  have HO := Lib.hid hO
  have HM := Lib.hid (And.intro hM1 hM2)
  have HL0 := Lib.hid (And.intro hv0 (And.intro hl0 hf0))
  have HYY := Lib.hid hy
  have cb := HB0.out.cell
  clear hS hY hP hR hJ hO hOx hM1 hM2 hm hN hMM hl0 hf0 hv0 hc hy
  refine callsIn_of_wp Tryz.func53 rfl trivial ?_ rfl
  simp only [Tryz.ntmps53, List.size_toArray, List.length_cons, List.length_nil, Nat.reduceAdd, Nat.reduceSub, Array.replicate_succ, Array.replicate_zero, List.push_toArray, List.append_toArray, List.nil_append, List.cons_append]
  gi_wp2
  gi_loopw [5] (fun s5 wr => ∃ (v : Int) (pre : List Int) (f : Nat), s5 = .int .u64 v ∧ Hid (U v ∧ LeAll N M v ∧ M - v < (f : Int)) ∧ Hid (eachF N M f0 v0 = pre ++ eachF N M f v) ∧ Hid (J pre wr) ∧ Hid (NmS wr A cap l k bl bi) ∧ Hid (W.heap.size ≤ wr.heap.size)) (fun s5 _ => (M + 1 - intOf s5).toNat)
  case atStart => exact ⟨v0, [], f0, rfl, HL0, Lib.hid rfl, HJ0, HS0, Lib.hid (Nat.le_refl _)⟩
  case round =>
    obtain ⟨v, pre, f, rfl, HV, HL, HJ, HS, HSz⟩ := hrel
    clear HJ0 HS0 HL0 cb HB0
    obtain ⟨tl, htl⟩ : ∃ tl, eachT N M f v = tl := ⟨_, rfl⟩
    have hL := HL.out
    rw [each_head N M f v, htl] at hL
    have HT := Lib.hid htl
    obtain ⟨fn, tmps, assign, body, hy, hR⟩ := HY.out pre v _ wr HJ.out hL
    have HLL := Lib.hid hL
    clear hL htl
    simp only [numU] at hy
    gi_wp2
    refine hR.mono ?_
    rintro e W3 (⟨rfl, hJ4, hk4, -⟩ | ⟨rfl, hJx4, -⟩)
    · have HJ := Lib.hid hJ4
      have HS := Lib.hid (HS.out.keep HP.out hk4)
      have HSz := Lib.hid (Nat.le_trans HSz.out hk4.size)
      clear hJ4 hk4 hR hy
      obtain ⟨b, o, x, rfl, hx, -, hbl, hTk⟩ := HS.out.rw_.get hk
      obtain rfl : y = x := by have := HYY.out.symm.trans hx; simpa using this
      have hle := HS.out.rw_.le
      have hmx := HS.out.rw_.mx
      have c0 := hTk.c0
      have c1 := hTk.c1
      have c2 := hTk.c2
      have c3 := hTk.c3
      have c4 := hTk.c4
      have c5 := hTk.c5
      have c6 := hTk.c6
      have cl := HS.out.lx.cell
      have ci := HS.out.ix.cell
      have i0 : (0 : Int) ≤ (k : Int) := by omega
      have i1 : (k : Int) < (l.length : Int) := by omega
      clear hx hbl hTk
      by_cases hvM : v ≤ M
      · have u1 : decide (v ≤ M) = true := decide_eq_true hvM
        have hvu := HV.out.1
        have KNv := Lib.hid (fun V h1 h2 => KN.out v hvu V h1 h2)
        have HNv := Lib.hid (HNU.out v hvu)
        have HG := Lib.hid (fun h2 : N v ≠ v => eachT_go (f := f) hvM h2 HV.out.2.2)
        have HE := Lib.hid (fun h2 : N v = v => eachT_rest (M := M) (f := f) h2)
        have HUP := Lib.hid (leall_up HRS.out hvu.1 hvM HV.out.2.1)
        have HNX := Lib.hid (leall_next HRS.out hvu.1 HV.out.2.1)
        have HVM := Lib.hid hvM
        clear hvM hvu
        obtain ⟨x, hx⟩ : ∃ x, N v = x := ⟨_, rfl⟩
        rw [hx] at KNv HNv HG HE HUP HNX
        by_cases hnx : x = v
        · have u2 : (x == v) = true := by simpa using hnx
          have HD := Lib.hid (HE.out hnx)
          have HXV := Lib.hid hnx
          clear hnx hx
          gi_wp2_with (first
            | (refine ⟨trivial, ?_⟩; gi_at_call 27; refine (callsIn_wide.2 (KM.out _)).mono ?_; rintro e w5 ⟨rfl, hb⟩; have HJ := Lib.hid (own_below HO.out HJ.out hb); have HS := Lib.hid (HS.out.later hb); have cl := HS.out.lx.cell; have ci := HS.out.ix.cell; clear hb)
            | (refine ⟨trivial, ?_⟩; gi_at_call 54; refine (callsIn_wide.2 (KNv.out _ HS.out.rw_ HS.out.tb)).mono ?_; rintro e w6 ⟨rfl, hb⟩; have HJ := Lib.hid (own_below HO.out HJ.out hb); clear hb)
            | fail)
          refine bodyPost_ret (results_none rfl _ _ _) rfl ?_
          refine ⟨⟨_, rfl⟩, .inl ?_⟩
          have hd := HT.out.symm.trans HD.out
          have hl := HLL.out
          rw [hd] at hl
          rw [hl]
          exact HJ.out
        · have u2 : (x == v) = false := by simpa using hnx
          obtain ⟨g, hg1, hg2⟩ := HG.out hnx
          have HG := Lib.hid (And.intro hg1 hg2)
          have HNX2 := Lib.hid hnx
          clear hnx hx hg1 hg2
          gi_wp2_with (first
            | (refine ⟨trivial, ?_⟩; gi_at_call 27; refine (callsIn_wide.2 (KM.out _)).mono ?_; rintro e w5 ⟨rfl, hb⟩; have HJ := Lib.hid (own_below HO.out HJ.out hb); have HS := Lib.hid (HS.out.later hb); have HSz := Lib.hid (Nat.le_trans HSz.out hb.size); have cl := HS.out.lx.cell; have ci := HS.out.ix.cell; clear hb)
            | (refine ⟨trivial, ?_⟩; gi_at_call 54; refine (callsIn_wide.2 (KNv.out _ HS.out.rw_ HS.out.tb)).mono ?_; rintro e w6 ⟨rfl, hb⟩; have HJ := Lib.hid (own_below HO.out HJ.out hb); have HS := Lib.hid (HS.out.later hb); have HSz := Lib.hid (Nat.le_trans HSz.out hb.size); clear hb)
            | fail)
          go_roundw
          case rel =>
            refine ⟨x, pre ++ [v], g, rfl, Lib.hid ⟨HNv.out, HNX.out, ?_⟩, Lib.hid ?_, HJ, HS, HSz⟩
            · have h1 := HUP.out
              have h2 := HNX2.out
              have h3 := HV.out.2.2
              have h4 := HG.out.2
              omega
            · rw [HLL.out, ← HT.out, HG.out.1]
              simp
          case measure =>
            have h1 := HUP.out
            have h2 := HNX2.out
            have h3 := HVM.out
            have h4 := HV.out.1.1
            simp only [intOf]
            omega
      · have u1 : decide (v ≤ M) = false := decide_eq_false hvM
        have HD := Lib.hid (eachT_big (N := N) (f := f) (show M < v by omega))
        clear hvM
        gi_wp2_with (first
          | (refine ⟨trivial, ?_⟩; gi_at_call 27; refine (callsIn_wide.2 (KM.out _)).mono ?_; rintro e w5 ⟨rfl, hb⟩; have HJ := Lib.hid (own_below HO.out HJ.out hb); have HS := Lib.hid (HS.out.later hb); have HSz := Lib.hid (Nat.le_trans HSz.out hb.size); have cl := HS.out.lx.cell; have ci := HS.out.ix.cell; clear hb)
          | fail)
        go_end0
        refine ⟨⟨_, rfl⟩, .inl ?_⟩
        have hd := HT.out.symm.trans HD.out
        have hl := HLL.out
        rw [hd] at hl
        rw [hl]
        exact HJ.out
    · gi_wp2
      refine ⟨trivial, ?_⟩
      gi_wp2
      go_end0
      exact ⟨⟨_, rfl⟩, .inr ⟨pre, v, _, HLL.out, hJx4⟩⟩
end Go.Proofs.YtnhddnldebdmbaaGreatDoor
/- From where Bound's reckoning begins: not above the least number that is enough. Plain words. -/
namespace Go.Proofs.YtnhddnldebdmbaaGreatDoor
set_option linter.unusedVariables false
set_option linter.unusedSimpArgs false
/-- What one more urgent task leaves free of a whole. -/
def frF (f : Int) (x : Ts) : Int := f - min f (partI x.c x.t)
theorem frF_bd {f : Int} {x : Ts} (h0 : 0 ≤ f) (h1 : f ≤ 9223372036854775808) (hp : 0 ≤ partI x.c x.t) : 0 ≤ frF f x ∧ frF f x ≤ f := by
  unfold frF
  omega
theorem satAdd_low {a b : Int} (h : satAdd a b < 1099511627776) : satAdd a b = a + b := by
  unfold satAdd at *
  split at h
  · rename_i h1; rw [if_pos h1]
  · omega
theorem satMul_low {a b : Int} (h : satMul a b < 1099511627776) : satMul a b = a * b := by
  by_cases h1 : a * b ≤ 18446744073709551615
  · exact satMul_fit h1
  · have e : satMul a b = 18446744073709551615 := by
      unfold satMul endN mulB mulN
      rw [if_neg h1, decide_eq_false h1]
      rfl
    rw [e] at h
    omega
theorem hF_ge {w s : Int} {x : Ts} (hx : TsOk x) (hw : U w) (hs : U s) : s ≤ hF w s x := satAdd_ge hs.2 (satMul_u (by have := hx.c0; omega) (relS_u hx.rel hw).1).1
theorem hF_fold_ge {w : Int} (hw : U w) : ∀ (L : List Ts) (s : Int), (∀ x ∈ L, TsOk x) → U s → s ≤ L.foldl (hF w) s
  | [], s, _, _ => Int.le_refl _
  | x :: L, s, h, hs => Int.le_trans (hF_ge (h x (by simp)) hw hs) (hF_fold_ge hw L _ (fun y hy => h y (by simp [hy])) (hF_u (h x (by simp)) hw hs))
/-- One task's part is not above what it works. -/
theorem part_work {x : Ts} (hx : TsOk x) {w s : Int} (hw0 : 1 ≤ w) (hw1 : w ≤ 2147483647) (hs : U s) (hl : hF w s x < 1099511627776) : w * partI x.c x.t ≤ 9223372036854775808 * (hF w s x - s) := by
  have c0 := hx.c0; have c1 := hx.c1; have t0 := hx.t0; have t1 := hx.t1; have j0 := hx.j0; have j1 := hx.j1
  have hru := relS_u hx.rel (w := w) ⟨by omega, by omega⟩
  have e1 : hF w s x = s + satMul x.c (relSD x w) := satAdd_low hl
  have hmu := satMul_u (a := x.c) (b := relSD x w) (by omega) hru.1
  have e2 : satMul x.c (relSD x w) = x.c * relSD x w := satMul_low (by have := hs.1; omega)
  have e3 : relSD x w = ceilI (w + x.j) x.t := by
    unfold relSD oftS
    rw [if_neg (by omega), satAdd_fit (by omega), ceil_is (by omega) t0]
  have e4 := (ceilI_bds (a := w + x.j) t0).1
  have e5 := ceilI_nonneg (a := w + x.j) (by omega) t0
  obtain ⟨q0, q1⟩ := part_bd (a := x.c) (b := x.t) ⟨by omega, by omega⟩ ⟨by omega, by omega⟩
  rw [e1, e2, e3]
  generalize ceilI (w + x.j) x.t = m at *
  generalize partI x.c x.t = p at *
  have f1 : w * p ≤ m * x.t * p := Int.mul_le_mul_of_nonneg_right (by omega) q0.1
  have f2 : p * x.t * m ≤ 9223372036854775808 * x.c * m := Int.mul_le_mul_of_nonneg_right q1 e5
  have f3 : m * x.t * p = p * x.t * m := by rw [Int.mul_comm (m * x.t), Int.mul_comm m, Int.mul_assoc]
  have f4 : 9223372036854775808 * x.c * m = 9223372036854775808 * (x.c * m) := Int.mul_assoc _ _ _
  generalize x.c * m = u at *
  omega
theorem free_fold {w : Int} (hw0 : 1 ≤ w) (hw1 : w ≤ 2147483647) : ∀ (L : List Ts) (f s : Int), (∀ x ∈ L, TsOk x) → 0 ≤ f → f ≤ 9223372036854775808 → U s → L.foldl (hF w) s < 1099511627776 →
    0 ≤ L.foldl frF f ∧ L.foldl frF f ≤ f ∧ w * (f - L.foldl frF f) ≤ 9223372036854775808 * (L.foldl (hF w) s - s)
  | [], f, s, _, h0, h1, _, _ => by
    refine ⟨h0, Int.le_refl _, ?_⟩
    show w * (f - f) ≤ 9223372036854775808 * (s - s)
    rw [Int.sub_self, Int.sub_self, Int.mul_zero, Int.mul_zero]
    exact Int.le_refl _
  | x :: L, f, s, h, h0, h1, hs, hl => by
    have hx := h x (by simp)
    have hU : U w := ⟨by omega, by omega⟩
    have hsu := hF_u hx hU hs
    have hge := hF_fold_ge hU L (hF w s x) (fun y hy => h y (by simp [hy])) hsu
    have hpw := part_work hx hw0 hw1 hs (Int.lt_of_le_of_lt hge hl)
    have hp0 := (part_bd (a := x.c) (b := x.t) ⟨by have := hx.c0; omega, by have := hx.c1; omega⟩ ⟨by have := hx.t0; omega, by have := hx.t1; omega⟩).1.1
    obtain ⟨b0, b1⟩ := frF_bd h0 h1 hp0
    obtain ⟨a0, a1, a2⟩ := free_fold hw0 hw1 L (frF f x) (hF w s x) (fun y hy => h y (by simp [hy])) b0 (by omega) hsu hl
    have hd : f - frF f x ≤ partI x.c x.t := by unfold frF; omega
    have g1 : w * (f - frF f x) ≤ w * partI x.c x.t := Int.mul_le_mul_of_nonneg_left hd (by omega)
    show 0 ≤ L.foldl frF (frF f x) ∧ L.foldl frF (frF f x) ≤ f ∧ w * (f - L.foldl frF (frF f x)) ≤ 9223372036854775808 * (L.foldl (hF w) (hF w s x) - s)
    refine ⟨a0, by omega, ?_⟩
    have e : f - L.foldl frF (frF f x) = (f - frF f x) + (frF f x - L.foldl frF (frF f x)) := by omega
    rw [e, Int.mul_add]
    omega
theorem free_bd : ∀ (L : List Ts) (f : Int), (∀ x ∈ L, TsOk x) → 0 ≤ f → f ≤ 9223372036854775808 → 0 ≤ L.foldl frF f ∧ L.foldl frF f ≤ f
  | [], f, _, h0, _ => ⟨h0, Int.le_refl _⟩
  | x :: L, f, h, h0, h1 => by
    have hx := h x (by simp)
    have hp0 := (part_bd (a := x.c) (b := x.t) ⟨by have := hx.c0; omega, by have := hx.c1; omega⟩ ⟨by have := hx.t0; omega, by have := hx.t1; omega⟩).1.1
    obtain ⟨b0, b1⟩ := frF_bd h0 h1 hp0
    obtain ⟨a0, a1⟩ := free_bd L (frF f x) (fun y hy => h y (by simp [hy])) b0 (by omega)
    exact ⟨a0, Int.le_trans a1 b1⟩
def freeI (p : Int) (l : List Ts) : Int := (l.filter (fun x => decide (x.p < p))).foldl frF 9223372036854775808
/-- From where Bound's reckoning begins. -/
def startI (l : List Ts) (k : Nat) (y : Ts) : Int := partI (needI l (k : Int) 0) (freeI y.p l)
theorem freeI_bd {l : List Ts} (hc : (chkAll l).2 = 0) (p : Int) : 0 ≤ freeI p l ∧ freeI p l ≤ 9223372036854775808 :=
  free_bd _ _ (fun x hx => (vs_of hc).all x (List.mem_filter.1 hx).1) (by decide) (by decide)
theorem start_U {l : List Ts} {k : Nat} {y : Ts} (hc : (chkAll l).2 = 0) (hy : l[k]? = some y) : U (startI l k y) ∧ startI l k y * freeI y.p l ≤ 9223372036854775808 * needI l (k : Int) 0 :=
  part_bd (need_U hc hy ⟨by decide, by decide⟩) ⟨(freeI_bd hc _).1, by have := (freeI_bd hc y.p).2; omega⟩
theorem need_zero {l : List Ts} {k : Nat} {y : Ts} (hc : (chkAll l).2 = 0) (hy : l[k]? = some y) : needI l (k : Int) 0 = y.c + blkU y.p l ∧ 0 ≤ blkU y.p l ∧ blkU y.p l ≤ 2147483647 := by
  have hv := (vs_of hc).all y (List.mem_of_getElem? hy)
  have h0 := hv.c0
  have h1 := hv.c1
  have hb := blockI_bd l (k : Int)
  have e : blockI l (k : Int) = blkU y.p l := by unfold blockI; rw [isB_at hc hy, if_pos rfl, (pOf_get hy).1]
  rw [e] at hb
  rw [need_form hc hy, show hiU y.p 0 l = 0 from rfl, satAdd_fit (a := 0) (by omega), satAdd_fit (a := 0 + y.c) (by omega), satAdd_fit (by omega)]
  omega
theorem start_le {l : List Ts} {k : Nat} {y : Ts} (hc : (chkAll l).2 = 0) (hy : l[k]? = some y) : LeAll (needI l (k : Int)) (y.d - y.j) (startI l k y) := by
  intro w h1 h2 he
  have hm := mOf_get hc hy
  have hv := vs_of hc
  obtain ⟨n0, n1, n2⟩ := need_zero hc hy
  have hp := (need_rises (isB_at hc hy)).pos (w := 0) (Int.le_refl _)
  have hw : U w := ⟨by omega, by omega⟩
  obtain ⟨s1, s2⟩ := start_U hc hy
  have hcy := (hv.all y (List.mem_of_getElem? hy)).c0
  have hcy1 := (hv.all y (List.mem_of_getElem? hy)).c1
  have hnn := hiU_nonneg (p := y.p) hv hw.1
  rw [need_form hc hy, satAdd_fit (a := 0) (by omega), satAdd_fit (a := 0 + y.c) (by omega)] at he
  have e1 := satAdd_low (show satAdd (0 + y.c + blkU y.p l) (hiU y.p w l) < 1099511627776 by omega)
  rw [e1] at he
  have hf := higher_fold y.p w l
  have hff := free_fold h1 (by omega) (l.filter (fun x => decide (x.p < y.p))) 9223372036854775808 0 (fun x hx => hv.all x (List.mem_filter.1 hx).1) (by decide) (by decide) ⟨by decide, by decide⟩ (by rw [hf]; omega)
  rw [hf] at hff
  obtain ⟨f0, f1, f2⟩ := hff
  change 0 ≤ freeI y.p l at f0
  change freeI y.p l ≤ _ at f1
  change w * (9223372036854775808 - freeI y.p l) ≤ _ at f2
  rw [Int.mul_sub] at f2
  rw [n0] at s2
  generalize freeI y.p l = f at *
  generalize hiU y.p w l = h at *
  generalize blkU y.p l = b at *
  have key : 9223372036854775808 * (y.c + b) ≤ w * f := by omega
  rcases Int.lt_or_le 0 f with h9 | h9
  · exact Int.le_of_mul_le_mul_right (Int.le_trans s2 key) h9
  · obtain rfl : f = 0 := by omega
    rw [Int.mul_zero] at key
    omega
end Go.Proofs.YtnhddnldebdmbaaGreatDoor
/- A region that draws its order, whose callees may make memory but leave what was there: walked once, in the order of the text, in the class of the worlds behind a given one. -/
namespace Go.Proofs.YtnhddnldebdmbaaGreatDoor
open Go.RowKit
/-- A world behind v. -/
structure Wv (v : World) where
  W : World
  lt : Lt v W
instance (v : World) : Nonempty (Wv v) := ⟨⟨v, Below.refl _ _⟩⟩
theorem wp_region_in {P : Program} {v0 : World} {id : Nat} {Q : Exit → Act → World → Prop} {a : Act} {w : World} {l : List Oper} (hw : Lt v0 w) (hm : P.follows .mixedOrders = true) (hB : Region.lexB .any l.toArray = true)
    (h : wpQuiet P l.toArray (fun W' => ∃ i : Wv v0, W' = i.W) (fun a' => ∀ W', (∃ i : Wv v0, W' = i.W) → Q .normal a' W') l a) : (Code.region id l.toArray true).wp P Q a w :=
  wp_region_quiet (C := fun W' => ∃ i : Wv v0, W' = i.W) hm hB ⟨⟨w.drew, lt_step _ _ hw (below_drew _)⟩, rfl⟩ (by simpa using h)
theorem calls_in {P : Program} {v0 : World} {f : FuncId} {args : Array Value} {i : Wv v0} {v : Value} (h : Calls P f args i.W fun e w' => e = .returned v ∧ Below i.W.heap.size i.W w') :
    Calls P f args i.W fun e w'' => e = .returned v ∧ ∃ j : Wv v0, w'' = j.W :=
  h.mono fun _ _ ⟨he, hb⟩ => ⟨he, ⟨⟨_, lt_step _ _ i.lt hb⟩, rfl⟩⟩
end Go.Proofs.YtnhddnldebdmbaaGreatDoor
/- rta.start: the walk. -/
namespace Go.Proofs.YtnhddnldebdmbaaGreatDoor
open Go.RowKit Go.Shelf
set_option linter.unusedVariables false
set_option linter.unusedSimpArgs false
attribute [local go_sem] Oper.semAt_some
/-- What the loop knows. -/
structure StB (w : World) (b o cap : Nat) (l : List Ts) (m : Int) (V : World) : Prop where
  f : Boxed V (w.heap.size + 1) 73 (.int .u64 m)
  lx : Boxed V w.heap.size 25 (.slice (some ⟨b, o, none⟩) l.length cap)
  r : Row V (some ⟨b, o, none⟩) cap l
  t : Tab V
  b : Below w.heap.size w V
section
variable {w V V' : World} {b o cap : Nat} {l : List Ts} {m : Int}
theorem StB.later (h : StB w b o cap l m V) (hb : Below V.heap.size V V') : StB w b o cap l m V' := ⟨boxed_later2 h.f hb, boxed_later2 h.lx hb, h.r.later hb, h.t.below hb, h.b.trans (hb.mono h.b.size)⟩
theorem StB.own {row : Option Nat} {D : Nat} (h : StB w b o cap l m V) (hg : V.grownBy V' row) (hr : ∀ r, row = some r → D ≤ r ∧ ∃ o : Obj, V.heap[r]? = some o ∧ o.isCells = false) (hB : w.heap.size ≤ D) : StB w b o cap l m V' :=
  have hk := keepG_grown hg (fun r e => (hr r e).2)
  ⟨boxed_kept h.f hg (fun r e => (hr r e).2), boxed_kept h.lx hg (fun r e => (hr r e).2), h.r.keepG hk (fun _ _ _ _ => trivial), hk.tab h.t (fun _ => trivial), h.b.grown hg h.b.size (fun k e => by have := (hr k e).1; omega)⟩
theorem StB.set (h : StB w b o cap l m V) (hb : b < w.heap.size) (ht : 0 < w.heap.size) (u : Int) : StB w b o cap l u (V.setCell ⟨w.heap.size + 1, 0, none⟩ (.int .u64 u)) :=
  have hk := p1_set h.f (.int .u64 u)
  ⟨Boxed.set _ h.f, Boxed.other h.lx (by omega) _, h.r.keepG hk (fun b' o' e T => .inl (by cases e; omega)), hk.tab h.t (fun T => .inl (by omega)), h.b.setCell (p := ⟨w.heap.size + 1, 0, none⟩) (by show w.heap.size ≤ w.heap.size + 1; omega) _⟩
end
/-- The cells that the region's loads read. -/
def StC (bl : Nat) (sl : Value) (b q : Nat) (x : Ts) (W : World) : Prop := W.cell? ⟨bl, 0, none⟩ = some sl ∧ W.cell? ⟨b, q + 1, none⟩ = some (.int .i64 x.c) ∧ W.cell? ⟨b, q + 2, none⟩ = some (.int .i64 x.t)
theorem StC.of {w V : World} {b o cap k : Nat} {l : List Ts} {m : Int} {x : Ts} (h : StB w b o cap l m V) (hx : l[k]? = some x) : StC w.heap.size (.slice (some ⟨b, o, none⟩) l.length cap) b (o + k * 7) x V := by
  obtain ⟨b', o', x', e, hx', _, _, hT⟩ := h.r.get (List.getElem?_eq_some_iff.1 hx).1
  cases e
  obtain rfl : x = x' := by rw [hx] at hx'; simpa using hx'
  exact ⟨h.lx.cell, hT.c1, hT.c2⟩
set_option maxRecDepth 100000 in
set_option maxHeartbeats 8000000 in
theorem start_any (b o cap : Nat) (l : List Ts) (k : Nat) (y : Ts) (w : World) (hR : Row w (some ⟨b, o, none⟩) cap l) (hc : (chkAll l).2 = 0) (hy : l[k]? = some y) (hT : Tab w) :
    Calls Tryz.prog 26 #[.slice (some ⟨b, o, none⟩) l.length cap, .int .i64 (k : Int)] w fun e w' => e = .returned (.int .u64 (startI l k y)) ∧ Below w.heap.size w w' := by
  have hk : k < l.length := (List.getElem?_eq_some_iff.1 hy).1
  have hv := vs_of hc
  have hvl := hv.n1
  have hbl : b < w.heap.size := by
    obtain ⟨b', o', x, e, _, _, h, _⟩ := hR.get hk
    cases e; exact h
  have htab := hT.pos
  have hb1 : Below w.heap.size w ((w.alloc (.cells #[.slice (some ⟨b, o, none⟩) l.length cap] 25)).alloc (.cells #[.int .u64 9223372036854775808] 73)) := ((Below.refl _ _).alloc (Nat.le_refl _) _).alloc (by simp) _
  obtain ⟨W1, hW1, X1, s1⟩ : ∃ W1, (w.alloc (.cells #[.slice (some ⟨b, o, none⟩) l.length cap] 25)).alloc (.cells #[.int .u64 9223372036854775808] 73) = W1 ∧ StB w b o cap l 9223372036854775808 W1 ∧ W1.heap.size = w.heap.size + 2 :=
    ⟨_, rfl, ⟨by have := Boxed.new (w.alloc (.cells #[.slice (some ⟨b, o, none⟩) l.length cap] 25)) 73 (.int .u64 9223372036854775808); rwa [World.size_alloc] at this, Boxed.alloc (Boxed.new _ _ _) _, hR.later hb1, hT.below hb1, hb1⟩, by simp⟩
  have KL := Lib.hid (thigher_any (some ⟨b, o, none⟩) cap l (k : Int) W1 X1.r ⟨by omega, by omega⟩)
  have ALL := Lib.hid (fun W => all_any (higherF l (k : Int)) W)
  have HIN : Hid (∀ j, higherF l (k : Int) j = true → j < l.length) := Lib.hid (fun j hj => by
    rcases Nat.lt_or_ge j l.length with h | h
    · exact h
    · rw [higherF_far h] at hj; cases hj)
  have HLT := Lib.hid (higher_tks hv hy)
  have HOKA : Hid (∀ (x : Ts), x ∈ l → TsOk x) := Lib.hid (fun x hx => hv.all x hx)
  have KN := Lib.hid (fun V hR hT => need_any (some ⟨b, o, none⟩) cap l (k : Int) 0 V hR ⟨by omega, by omega⟩ ⟨by decide, by decide⟩ hT)
  have hnu := need_U hc hy (v := 0) ⟨by decide, by decide⟩
  have hfb := freeI_bd hc y.p
  have KP := Lib.hid (fun W => part_any (needI l (k : Int) 0) (freeI y.p l) W hnu ⟨hfb.1, by omega⟩)
  have HFR := Lib.hid (show (l.filter (fun x => decide (x.p < y.p))).foldl frF 9223372036854775808 = freeI y.p l from rfl)
  show Calls Tryz.prog 26 #[.slice (some ⟨b, o, none⟩) l.length cap, .int .i64 (k : Int)] w fun e w' => e = .returned (.int .u64 (partI (needI l (k : Int) 0) (freeI y.p l))) ∧ Below w.heap.size w w'
  generalize partI (needI l (k : Int) 0) (freeI y.p l) = st at *
  generalize needI l (k : Int) 0 = n0 at *
  have HW1 := Lib.hid hW1
  have HK := Lib.hid hk
  clear hR hT hb1 hv hy hvl hW1 hc hnu hfb
  generalize higherF l (k : Int) = f at *
  refine (callsIn_wide (n := 5)).1 ?_
  refine callsIn_of_wp_marks Tryz.func26 rfl trivial ?_ rfl
  simp only [Tryz.ntmps26, List.size_toArray, List.length_cons, List.length_nil, Nat.reduceAdd, Nat.reduceSub, Array.replicate_succ, Array.replicate_zero, List.push_toArray, List.append_toArray, List.nil_append, List.cons_append]
  refine wpIn_wide.2 ?_
  go_upto_region 2 with (fail)
  rw [HW1.out]
  clear HW1
  have c0 := X1.lx.cell
  go_upto_region 3 with (first
    | (go_at_call 55; (with_reducible refine KL.out.mono ?_); rintro e w2 ⟨rfl, h2⟩)
    | (go_at_call 56; (with_reducible refine (ALL.out _).mono ?_); rintro e w3 ⟨rfl, rfl⟩)
    | fail)
  have X2 := X1.later h2
  have s2 := h2.size
  obtain ⟨W3, hW3, X3, B3, s3⟩ : ∃ W3, w2.alloc (.cells (cellsL f).toArray 104) = W3 ∧ StB w b o cap l 9223372036854775808 W3 ∧ Box W3 w2.heap.size f ∧ W3.heap.size = w2.heap.size + 1 :=
    ⟨_, rfl, X2.later ((Below.refl _ _).alloc (Nat.le_refl _) _), Box.new _ _, by simp⟩
  rw [hW3]
  clear hW3 X1 X2 h2 KL ALL c0
  have hws := X3.b.size
  have SQ := Lib.hid (all2_seq (5 - 1) (by omega) f w2.heap.size (P1 (w.heap.size + 1) 73) W3 B3 X3.t (.inr (by decide)) (fun T => .inl (by omega)))
  have HZ := Lib.hid (And.intro hbl htab)
  refine (wpIn_wide (n := 5)).1 ?_
  refine wpIn_named fun fr hfr => ?_
  refine rangeG (vals := numV) (gf := 79) (lb := #[.pointer (some ⟨w2.heap.size, 0, none⟩)]) (by rw [hfr]; rfl) (enters_of Tryz.func79 (by kernel_rfl) rfl)
    SQ.out (Below.refl _ _) (fun x => rfl)
    (fun pre V => StB w b o cap l ((pre.filterMap (fun k => l[k]?)).foldl frF 9223372036854775808) V) (fun _ _ _ => False)
    (fun pre X Y row h hg hr => h.own hg hr hws) (fun c s X Y row h _ _ => h) X3
    (fun x a' V => a' = { tmps := (fr.tmps.setIfInBounds 11 (.int .i64 (x : Int))).setIfInBounds 6 (.int .i64 (x : Int)), defers := [] })
    (fun x a' _ X Y row hs hg hr => hs)
    ?assign ?body ?done ?stop
  case assign =>
    intro l2 pre x V K hi hK
    subst hfr
    clear SQ
    gi_wp2
    exact hK _ _ (KeepsFrom.refl _ _) (KeepG.refl _ _) hi rfl
  case body =>
    rintro l2 pre x a' V hi rfl ⟨r, hr⟩
    have hf : f x = true := ((mem_nums f x).1 (by rw [hr]; simp)).2
    have hxl := HIN.out x hf
    obtain ⟨z, hz⟩ : ∃ z, l[x]? = some z := ⟨l[x], List.getElem?_eq_getElem hxl⟩
    have hok := HOKA.out z (List.mem_of_getElem? hz)
    have hbd := free_bd (pre.filterMap (fun k => l[k]?)) 9223372036854775808 (fun x hx => by
      obtain ⟨j, _, hj⟩ := List.mem_filterMap.1 hx
      exact HOKA.out x (List.mem_of_getElem? hj)) (by decide) (by decide)
    have HFO : Hid (((pre ++ [x]).filterMap (fun k => l[k]?)).foldl frF 9223372036854775808 = frF ((pre.filterMap (fun k => l[k]?)).foldl frF 9223372036854775808) z) := Lib.hid (by
      rw [List.filterMap_append, List.foldl_append, List.filterMap_cons, hz]; rfl)
    generalize (pre.filterMap (fun k => l[k]?)).foldl frF 9223372036854775808 = m at *
    obtain ⟨q0, q1⟩ : 1 ≤ z.c ∧ z.c ≤ 2147483647 := ⟨hok.c0, hok.c1⟩
    obtain ⟨r0, r1⟩ : 1 ≤ z.t ∧ z.t ≤ 2147483647 := ⟨hok.t0, hok.t1⟩
    have e1 : IntKind.u64.wrap z.c = z.c := by rw [IntKind.wrap_u64]; omega
    have e2 : IntKind.u64.wrap z.t = z.t := by rw [IntKind.wrap_u64]; omega
    have KPX := Lib.hid (fun W => part_any z.c z.t W ⟨by omega, by omega⟩ ⟨by omega, by omega⟩)
    have hpu := (part_bd (a := z.c) (b := z.t) ⟨by omega, by omega⟩ ⟨by omega, by omega⟩).1
    have hfd : frF m z = m - min m (partI z.c z.t) := rfl
    generalize partI z.c z.t = pp at *
    obtain ⟨mn, hmn⟩ : ∃ mn, min m pp = mn := ⟨_, rfl⟩
    rw [hmn] at hfd
    have hmn2 : (if m ≤ pp then m else pp) = mn := by rw [← hmn]; rfl
    obtain ⟨m', hm'⟩ : ∃ m', m - mn = m' := ⟨_, rfl⟩
    have e3 : IntKind.u64.wrap (m - mn) = m' := by have := hbd.1; have := hbd.2; have := hpu.1; rw [IntKind.wrap_u64]; omega
    rw [hfd, hm'] at HFO
    have HI0 := Lib.hid (hi.later (below_drew V))
    have HZX := Lib.hid hz
    have i0 : (0 : Int) ≤ (x : Int) := by omega
    have i1 : (x : Int) < (l.length : Int) := by omega
    have hle := hi.r.le
    have hmx := hi.r.mx
    have FIN : Hid (∀ (W : World), Hid (StB w b o cap l m W) → Hid (Below V.heap.size V W) → KeepsFrom W3.heap.size V (W.setCell ⟨w.heap.size + 1, 0, none⟩ (.int .u64 m')) ∧ KeepG (P1 (w.heap.size + 1) 73) V (W.setCell ⟨w.heap.size + 1, 0, none⟩ (.int .u64 m')) ∧ StB w b o cap l (((pre ++ [x]).filterMap (fun k => l[k]?)).foldl frF 9223372036854775808) (W.setCell ⟨w.heap.size + 1, 0, none⟩ (.int .u64 m'))) := Lib.hid (fun W hi hb => by
      refine ⟨(keepsFrom_later hb.out).trans ((KeepsOthers.setCell _ _ _).from _), (KeepG.below hb.out).trans (p1_set hi.out.f _), ?_⟩
      rw [HFO.out]
      exact hi.out.set HZ.out.1 HZ.out.2 _)
    subst hfr
    clear SQ hr hok hi hf hz hbd hpu hfd hxl hm'
    dsimp only [List.setIfInBounds_toArray, List.set_cons_succ, List.set_cons_zero]
    gi_wp2
    have HC0 := StC.of HI0.out HZX.out
    refine region_round_held (S := StC w.heap.size (.slice (some ⟨b, o, none⟩) l.length cap) b (o + x * 7) z) (by rintro ⟨_, _, h⟩; exact h) (by kernel_rfl) (by kernel_rfl) HC0 (fun hHeld => ?_)
    clear HC0
    refine wpAnyH_take (i := 2) (oi := ⟨some 14, _, _, _, _, _⟩) (v := .slice (some ⟨b, o, none⟩) l.length cap) rfl (by kernel_rfl) (by kernel_rfl) (by kernel_rfl) (fun _ _ _ h => h) (Or.inl ⟨by rfl, ?_⟩) (by assumption) ?_
    · intro w0 hSw
      obtain ⟨sl0, sc1, sc2⟩ := hSw
      go_simp
      (try with_reducible rfl)
    (try simp only [Act.put, List.setIfInBounds_toArray, List.set_cons_zero, List.set_cons_succ])
    refine wpAnyH_take (i := 3) (oi := ⟨some 15, _, _, _, _, _⟩) (v := .int .i64 (x : Int)) rfl (by kernel_rfl) (by kernel_rfl) (by kernel_rfl) (fun _ _ _ h => h) (Or.inl ⟨by rfl, ?_⟩) (by assumption) ?_
    · intro w0 hSw
      obtain ⟨sl0, sc1, sc2⟩ := hSw
      go_simp
      (try with_reducible rfl)
    (try simp only [Act.put, List.setIfInBounds_toArray, List.set_cons_zero, List.set_cons_succ])
    refine wpAnyH_take (i := 4) (oi := ⟨some 16, _, _, _, _, _⟩) (v := .pointer (some ⟨b, o + x * 7, none⟩)) rfl (by kernel_rfl) (by kernel_rfl) (by kernel_rfl) (fun _ _ _ h => h) (Or.inl ⟨by rfl, ?_⟩) (by assumption) ?_
    · intro w0 hSw
      obtain ⟨sl0, sc1, sc2⟩ := hSw
      go_simp
      (try with_reducible rfl)
    (try simp only [Act.put, List.setIfInBounds_toArray, List.set_cons_zero, List.set_cons_succ])
    refine wpAnyH_take (i := 5) (oi := ⟨some 17, _, _, _, _, _⟩) (v := .pointer (some ⟨b, o + x * 7 + 1, none⟩)) rfl (by kernel_rfl) (by kernel_rfl) (by kernel_rfl) (fun _ _ _ h => h) (Or.inl ⟨by rfl, ?_⟩) (by assumption) ?_
    · intro w0 hSw
      obtain ⟨sl0, sc1, sc2⟩ := hSw
      go_simp
      (try with_reducible rfl)
    (try simp only [Act.put, List.setIfInBounds_toArray, List.set_cons_zero, List.set_cons_succ])
    refine wpAnyH_take (i := 6) (oi := ⟨some 18, _, _, _, _, _⟩) (v := .int .i64 z.c) rfl (by kernel_rfl) (by kernel_rfl) (by kernel_rfl) (fun _ _ _ h => h) (Or.inl ⟨by rfl, ?_⟩) (by assumption) ?_
    · intro w0 hSw
      obtain ⟨sl0, sc1, sc2⟩ := hSw
      go_simp
      (try with_reducible rfl)
    (try simp only [Act.put, List.setIfInBounds_toArray, List.set_cons_zero, List.set_cons_succ])
    refine wpAnyH_take (i := 7) (oi := ⟨some 19, _, _, _, _, _⟩) (v := .int .u64 z.c) rfl (by kernel_rfl) (by kernel_rfl) (by kernel_rfl) (fun _ _ _ h => h) (Or.inl ⟨by rfl, ?_⟩) (by assumption) ?_
    · intro w0 hSw
      obtain ⟨sl0, sc1, sc2⟩ := hSw
      go_simp
      (try with_reducible rfl)
    (try simp only [Act.put, List.setIfInBounds_toArray, List.set_cons_zero, List.set_cons_succ])
    refine wpAnyH_take (i := 8) (oi := ⟨some 20, _, _, _, _, _⟩) (v := .slice (some ⟨b, o, none⟩) l.length cap) rfl (by kernel_rfl) (by kernel_rfl) (by kernel_rfl) (fun _ _ _ h => h) (Or.inl ⟨by rfl, ?_⟩) (by assumption) ?_
    · intro w0 hSw
      obtain ⟨sl0, sc1, sc2⟩ := hSw
      go_simp
      (try with_reducible rfl)
    (try simp only [Act.put, List.setIfInBounds_toArray, List.set_cons_zero, List.set_cons_succ])
    refine wpAnyH_take (i := 9) (oi := ⟨some 21, _, _, _, _, _⟩) (v := .int .i64 (x : Int)) rfl (by kernel_rfl) (by kernel_rfl) (by kernel_rfl) (fun _ _ _ h => h) (Or.inl ⟨by rfl, ?_⟩) (by assumption) ?_
    · intro w0 hSw
      obtain ⟨sl0, sc1, sc2⟩ := hSw
      go_simp
      (try with_reducible rfl)
    (try simp only [Act.put, List.setIfInBounds_toArray, List.set_cons_zero, List.set_cons_succ])
    refine wpAnyH_take (i := 10) (oi := ⟨some 22, _, _, _, _, _⟩) (v := .pointer (some ⟨b, o + x * 7, none⟩)) rfl (by kernel_rfl) (by kernel_rfl) (by kernel_rfl) (fun _ _ _ h => h) (Or.inl ⟨by rfl, ?_⟩) (by assumption) ?_
    · intro w0 hSw
      obtain ⟨sl0, sc1, sc2⟩ := hSw
      go_simp
      (try with_reducible rfl)
    (try simp only [Act.put, List.setIfInBounds_toArray, List.set_cons_zero, List.set_cons_succ])
    refine wpAnyH_take (i := 11) (oi := ⟨some 23, _, _, _, _, _⟩) (v := .pointer (some ⟨b, o + x * 7 + 2, none⟩)) rfl (by kernel_rfl) (by kernel_rfl) (by kernel_rfl) (fun _ _ _ h => h) (Or.inl ⟨by rfl, ?_⟩) (by assumption) ?_
    · intro w0 hSw
      obtain ⟨sl0, sc1, sc2⟩ := hSw
      go_simp
      (try with_reducible rfl)
    (try simp only [Act.put, List.setIfInBounds_toArray, List.set_cons_zero, List.set_cons_succ])
    refine wpAnyH_take (i := 12) (oi := ⟨some 24, _, _, _, _, _⟩) (v := .int .i64 z.t) rfl (by kernel_rfl) (by kernel_rfl) (by kernel_rfl) (fun _ _ _ h => h) (Or.inl ⟨by rfl, ?_⟩) (by assumption) ?_
    · intro w0 hSw
      obtain ⟨sl0, sc1, sc2⟩ := hSw
      go_simp
      (try with_reducible rfl)
    (try simp only [Act.put, List.setIfInBounds_toArray, List.set_cons_zero, List.set_cons_succ])
    refine wpAnyH_take (i := 13) (oi := ⟨some 25, _, _, _, _, _⟩) (v := .int .u64 z.t) rfl (by kernel_rfl) (by kernel_rfl) (by kernel_rfl) (fun _ _ _ h => h) (Or.inl ⟨by rfl, ?_⟩) (by assumption) ?_
    · intro w0 hSw
      obtain ⟨sl0, sc1, sc2⟩ := hSw
      go_simp
      (try with_reducible rfl)
    (try simp only [Act.put, List.setIfInBounds_toArray, List.set_cons_zero, List.set_cons_succ])
    have HI := HI0
    have HB := Lib.hid (below_drew V)
    refine wpAnyH_ready (rs := [0, 1, 14]) (by kernel_rfl) (by simp) ?_
    refine (AllReadyH.cons (o := ⟨some 12, _, _, _, _, _⟩) rfl (fun K hK => ?_) (AllReadyH.cons (o := ⟨some 13, _, _, _, _, _⟩) rfl (fun K hK => ?_) (AllReadyH.cons (o := ⟨some 26, _, _, _, _, _⟩) rfl (fun K hK => ?_) AllReadyH.nil)))
    · have HI := HI
      have sc := HI.out.f.cell
      go_simp
      refine hK.out _ _ (by assumption) (fun hHeld => ?_)
      clear hK K
      (try simp only [Act.put, List.setIfInBounds_toArray, List.set_cons_zero, List.set_cons_succ])
      refine wpAnyH_ready (rs := [1, 14]) (by kernel_rfl) (by simp) ?_
      refine (AllReadyH.cons (o := ⟨some 13, _, _, _, _, _⟩) rfl (fun K hK => ?_) (AllReadyH.cons (o := ⟨some 26, _, _, _, _, _⟩) rfl (fun K hK => ?_) AllReadyH.nil))
      · have HI := HI
        have sc := HI.out.f.cell
        go_simp
        refine hK.out _ _ (by assumption) (fun hHeld => ?_)
        clear hK K
        (try simp only [Act.put, List.setIfInBounds_toArray, List.set_cons_zero, List.set_cons_succ])
        refine wpAnyH_ready (rs := [14]) (by kernel_rfl) (by simp) ?_
        refine (AllReadyH.cons (o := ⟨some 26, _, _, _, _, _⟩) rfl (fun K hK => ?_) AllReadyH.nil)
        go_simp
        go_at_call 57
        refine (KPX.out _).mono ?_
        rintro e w5 ⟨rfl, h5⟩
        have HI := Lib.hid (HI.out.later h5)
        have HB := Lib.hid (Below.trans (below_drew V) h5)
        clear h5
        refine hK.out _ _ (StC.of HI.out HZX.out) (fun hHeld => ?_)
        clear hK K
        (try simp only [Act.put, List.setIfInBounds_toArray, List.set_cons_zero, List.set_cons_succ])
        refine wpAnyH_ready (rs := [15]) (by kernel_rfl) (by simp) ?_
        refine (AllReadyH.cons (o := ⟨some 27, _, _, _, _, _⟩) rfl (fun K hK => ?_) AllReadyH.nil)
        go_simp
        refine hK.out _ _ (by assumption) (fun hHeld => ?_)
        clear hK K
        (try simp only [Act.put, List.setIfInBounds_toArray, List.set_cons_zero, List.set_cons_succ])
        refine wpAnyH_ready (rs := [16]) (by kernel_rfl) (by simp) ?_
        refine (AllReadyH.cons (o := ⟨some 28, _, _, _, _, _⟩) rfl (fun K hK => ?_) AllReadyH.nil)
        go_simp
        refine hK.out _ _ (by assumption) (fun hHeld => ?_)
        clear hK K
        (try simp only [Act.put, List.setIfInBounds_toArray, List.set_cons_zero, List.set_cons_succ])
        refine wpAnyH_ready (rs := [17]) (by kernel_rfl) (by simp) ?_
        refine (AllReadyH.cons (o := ⟨none, _, _, _, _, _⟩) rfl (fun K hK => ?_) AllReadyH.nil)
        have sf := HI.out.f.frozen
        have sc := HI.out.f.cell
        go_simp
        refine hK.out _ _ (StC.of (HI.out.set HZ.out.1 HZ.out.2 m') HZX.out) (fun hHeld => ?_)
        clear hK K
        (try simp only [Act.put, List.setIfInBounds_toArray, List.set_cons_zero, List.set_cons_succ])
        refine wpAnyH_done (by kernel_rfl) ?_ _
        exact FIN.out _ HI HB
      · have HI := HI
        go_simp
        go_at_call 57
        refine (KPX.out _).mono ?_
        rintro e w5 ⟨rfl, h5⟩
        have HI := Lib.hid (HI.out.later h5)
        have HB := Lib.hid (Below.trans (below_drew V) h5)
        clear h5
        refine hK.out _ _ (StC.of HI.out HZX.out) (fun hHeld => ?_)
        clear hK K
        (try simp only [Act.put, List.setIfInBounds_toArray, List.set_cons_zero, List.set_cons_succ])
        refine wpAnyH_ready (rs := [1]) (by kernel_rfl) (by simp) ?_
        refine (AllReadyH.cons (o := ⟨some 13, _, _, _, _, _⟩) rfl (fun K hK => ?_) AllReadyH.nil)
        have sc := HI.out.f.cell
        go_simp
        refine hK.out _ _ (by assumption) (fun hHeld => ?_)
        clear hK K
        (try simp only [Act.put, List.setIfInBounds_toArray, List.set_cons_zero, List.set_cons_succ])
        refine wpAnyH_ready (rs := [15]) (by kernel_rfl) (by simp) ?_
        refine (AllReadyH.cons (o := ⟨some 27, _, _, _, _, _⟩) rfl (fun K hK => ?_) AllReadyH.nil)
        go_simp
        refine hK.out _ _ (by assumption) (fun hHeld => ?_)
        clear hK K
        (try simp only [Act.put, List.setIfInBounds_toArray, List.set_cons_zero, List.set_cons_succ])
        refine wpAnyH_ready (rs := [16]) (by kernel_rfl) (by simp) ?_
        refine (AllReadyH.cons (o := ⟨some 28, _, _, _, _, _⟩) rfl (fun K hK => ?_) AllReadyH.nil)
        go_simp
        refine hK.out _ _ (by assumption) (fun hHeld => ?_)
        clear hK K
        (try simp only [Act.put, List.setIfInBounds_toArray, List.set_cons_zero, List.set_cons_succ])
        refine wpAnyH_ready (rs := [17]) (by kernel_rfl) (by simp) ?_
        refine (AllReadyH.cons (o := ⟨none, _, _, _, _, _⟩) rfl (fun K hK => ?_) AllReadyH.nil)
        have sf := HI.out.f.frozen
        have sc := HI.out.f.cell
        go_simp
        refine hK.out _ _ (StC.of (HI.out.set HZ.out.1 HZ.out.2 m') HZX.out) (fun hHeld => ?_)
        clear hK K
        (try simp only [Act.put, List.setIfInBounds_toArray, List.set_cons_zero, List.set_cons_succ])
        refine wpAnyH_done (by kernel_rfl) ?_ _
        exact FIN.out _ HI HB
    · have HI := HI
      have sc := HI.out.f.cell
      go_simp
      refine hK.out _ _ (by assumption) (fun hHeld => ?_)
      clear hK K
      (try simp only [Act.put, List.setIfInBounds_toArray, List.set_cons_zero, List.set_cons_succ])
      refine wpAnyH_ready (rs := [0, 14]) (by kernel_rfl) (by simp) ?_
      refine (AllReadyH.cons (o := ⟨some 12, _, _, _, _, _⟩) rfl (fun K hK => ?_) (AllReadyH.cons (o := ⟨some 26, _, _, _, _, _⟩) rfl (fun K hK => ?_) AllReadyH.nil))
      · have HI := HI
        have sc := HI.out.f.cell
        go_simp
        refine hK.out _ _ (by assumption) (fun hHeld => ?_)
        clear hK K
        (try simp only [Act.put, List.setIfInBounds_toArray, List.set_cons_zero, List.set_cons_succ])
        refine wpAnyH_ready (rs := [14]) (by kernel_rfl) (by simp) ?_
        refine (AllReadyH.cons (o := ⟨some 26, _, _, _, _, _⟩) rfl (fun K hK => ?_) AllReadyH.nil)
        go_simp
        go_at_call 57
        refine (KPX.out _).mono ?_
        rintro e w5 ⟨rfl, h5⟩
        have HI := Lib.hid (HI.out.later h5)
        have HB := Lib.hid (Below.trans (below_drew V) h5)
        clear h5
        refine hK.out _ _ (StC.of HI.out HZX.out) (fun hHeld => ?_)
        clear hK K
        (try simp only [Act.put, List.setIfInBounds_toArray, List.set_cons_zero, List.set_cons_succ])
        refine wpAnyH_ready (rs := [15]) (by kernel_rfl) (by simp) ?_
        refine (AllReadyH.cons (o := ⟨some 27, _, _, _, _, _⟩) rfl (fun K hK => ?_) AllReadyH.nil)
        go_simp
        refine hK.out _ _ (by assumption) (fun hHeld => ?_)
        clear hK K
        (try simp only [Act.put, List.setIfInBounds_toArray, List.set_cons_zero, List.set_cons_succ])
        refine wpAnyH_ready (rs := [16]) (by kernel_rfl) (by simp) ?_
        refine (AllReadyH.cons (o := ⟨some 28, _, _, _, _, _⟩) rfl (fun K hK => ?_) AllReadyH.nil)
        go_simp
        refine hK.out _ _ (by assumption) (fun hHeld => ?_)
        clear hK K
        (try simp only [Act.put, List.setIfInBounds_toArray, List.set_cons_zero, List.set_cons_succ])
        refine wpAnyH_ready (rs := [17]) (by kernel_rfl) (by simp) ?_
        refine (AllReadyH.cons (o := ⟨none, _, _, _, _, _⟩) rfl (fun K hK => ?_) AllReadyH.nil)
        have sf := HI.out.f.frozen
        have sc := HI.out.f.cell
        go_simp
        refine hK.out _ _ (StC.of (HI.out.set HZ.out.1 HZ.out.2 m') HZX.out) (fun hHeld => ?_)
        clear hK K
        (try simp only [Act.put, List.setIfInBounds_toArray, List.set_cons_zero, List.set_cons_succ])
        refine wpAnyH_done (by kernel_rfl) ?_ _
        exact FIN.out _ HI HB
      · have HI := HI
        go_simp
        go_at_call 57
        refine (KPX.out _).mono ?_
        rintro e w5 ⟨rfl, h5⟩
        have HI := Lib.hid (HI.out.later h5)
        have HB := Lib.hid (Below.trans (below_drew V) h5)
        clear h5
        refine hK.out _ _ (StC.of HI.out HZX.out) (fun hHeld => ?_)
        clear hK K
        (try simp only [Act.put, List.setIfInBounds_toArray, List.set_cons_zero, List.set_cons_succ])
        refine wpAnyH_ready (rs := [0, 15]) (by kernel_rfl) (by simp) ?_
        refine (AllReadyH.cons (o := ⟨some 12, _, _, _, _, _⟩) rfl (fun K hK => ?_) (AllReadyH.cons (o := ⟨some 27, _, _, _, _, _⟩) rfl (fun K hK => ?_) AllReadyH.nil))
        · have HI := HI
          have sc := HI.out.f.cell
          go_simp
          refine hK.out _ _ (by assumption) (fun hHeld => ?_)
          clear hK K
          (try simp only [Act.put, List.setIfInBounds_toArray, List.set_cons_zero, List.set_cons_succ])
          refine wpAnyH_ready (rs := [15]) (by kernel_rfl) (by simp) ?_
          refine (AllReadyH.cons (o := ⟨some 27, _, _, _, _, _⟩) rfl (fun K hK => ?_) AllReadyH.nil)
          go_simp
          refine hK.out _ _ (by assumption) (fun hHeld => ?_)
          clear hK K
          (try simp only [Act.put, List.setIfInBounds_toArray, List.set_cons_zero, List.set_cons_succ])
          refine wpAnyH_ready (rs := [16]) (by kernel_rfl) (by simp) ?_
          refine (AllReadyH.cons (o := ⟨some 28, _, _, _, _, _⟩) rfl (fun K hK => ?_) AllReadyH.nil)
          go_simp
          refine hK.out _ _ (by assumption) (fun hHeld => ?_)
          clear hK K
          (try simp only [Act.put, List.setIfInBounds_toArray, List.set_cons_zero, List.set_cons_succ])
          refine wpAnyH_ready (rs := [17]) (by kernel_rfl) (by simp) ?_
          refine (AllReadyH.cons (o := ⟨none, _, _, _, _, _⟩) rfl (fun K hK => ?_) AllReadyH.nil)
          have sf := HI.out.f.frozen
          have sc := HI.out.f.cell
          go_simp
          refine hK.out _ _ (StC.of (HI.out.set HZ.out.1 HZ.out.2 m') HZX.out) (fun hHeld => ?_)
          clear hK K
          (try simp only [Act.put, List.setIfInBounds_toArray, List.set_cons_zero, List.set_cons_succ])
          refine wpAnyH_done (by kernel_rfl) ?_ _
          exact FIN.out _ HI HB
        · have HI := HI
          go_simp
          refine hK.out _ _ (by assumption) (fun hHeld => ?_)
          clear hK K
          (try simp only [Act.put, List.setIfInBounds_toArray, List.set_cons_zero, List.set_cons_succ])
          refine wpAnyH_ready (rs := [0]) (by kernel_rfl) (by simp) ?_
          refine (AllReadyH.cons (o := ⟨some 12, _, _, _, _, _⟩) rfl (fun K hK => ?_) AllReadyH.nil)
          have sc := HI.out.f.cell
          go_simp
          refine hK.out _ _ (by assumption) (fun hHeld => ?_)
          clear hK K
          (try simp only [Act.put, List.setIfInBounds_toArray, List.set_cons_zero, List.set_cons_succ])
          refine wpAnyH_ready (rs := [16]) (by kernel_rfl) (by simp) ?_
          refine (AllReadyH.cons (o := ⟨some 28, _, _, _, _, _⟩) rfl (fun K hK => ?_) AllReadyH.nil)
          go_simp
          refine hK.out _ _ (by assumption) (fun hHeld => ?_)
          clear hK K
          (try simp only [Act.put, List.setIfInBounds_toArray, List.set_cons_zero, List.set_cons_succ])
          refine wpAnyH_ready (rs := [17]) (by kernel_rfl) (by simp) ?_
          refine (AllReadyH.cons (o := ⟨none, _, _, _, _, _⟩) rfl (fun K hK => ?_) AllReadyH.nil)
          have sf := HI.out.f.frozen
          have sc := HI.out.f.cell
          go_simp
          refine hK.out _ _ (StC.of (HI.out.set HZ.out.1 HZ.out.2 m') HZX.out) (fun hHeld => ?_)
          clear hK K
          (try simp only [Act.put, List.setIfInBounds_toArray, List.set_cons_zero, List.set_cons_succ])
          refine wpAnyH_done (by kernel_rfl) ?_ _
          exact FIN.out _ HI HB
    · have HI := HI
      go_simp
      go_at_call 57
      refine (KPX.out _).mono ?_
      rintro e w5 ⟨rfl, h5⟩
      have HI := Lib.hid (HI.out.later h5)
      have HB := Lib.hid (Below.trans (below_drew V) h5)
      clear h5
      refine hK.out _ _ (StC.of HI.out HZX.out) (fun hHeld => ?_)
      clear hK K
      (try simp only [Act.put, List.setIfInBounds_toArray, List.set_cons_zero, List.set_cons_succ])
      refine wpAnyH_ready (rs := [0, 1]) (by kernel_rfl) (by simp) ?_
      refine (AllReadyH.cons (o := ⟨some 12, _, _, _, _, _⟩) rfl (fun K hK => ?_) (AllReadyH.cons (o := ⟨some 13, _, _, _, _, _⟩) rfl (fun K hK => ?_) AllReadyH.nil))
      · have HI := HI
        have sc := HI.out.f.cell
        go_simp
        refine hK.out _ _ (by assumption) (fun hHeld => ?_)
        clear hK K
        (try simp only [Act.put, List.setIfInBounds_toArray, List.set_cons_zero, List.set_cons_succ])
        refine wpAnyH_ready (rs := [1]) (by kernel_rfl) (by simp) ?_
        refine (AllReadyH.cons (o := ⟨some 13, _, _, _, _, _⟩) rfl (fun K hK => ?_) AllReadyH.nil)
        have sc := HI.out.f.cell
        go_simp
        refine hK.out _ _ (by assumption) (fun hHeld => ?_)
        clear hK K
        (try simp only [Act.put, List.setIfInBounds_toArray, List.set_cons_zero, List.set_cons_succ])
        refine wpAnyH_ready (rs := [15]) (by kernel_rfl) (by simp) ?_
        refine (AllReadyH.cons (o := ⟨some 27, _, _, _, _, _⟩) rfl (fun K hK => ?_) AllReadyH.nil)
        go_simp
        refine hK.out _ _ (by assumption) (fun hHeld => ?_)
        clear hK K
        (try simp only [Act.put, List.setIfInBounds_toArray, List.set_cons_zero, List.set_cons_succ])
        refine wpAnyH_ready (rs := [16]) (by kernel_rfl) (by simp) ?_
        refine (AllReadyH.cons (o := ⟨some 28, _, _, _, _, _⟩) rfl (fun K hK => ?_) AllReadyH.nil)
        go_simp
        refine hK.out _ _ (by assumption) (fun hHeld => ?_)
        clear hK K
        (try simp only [Act.put, List.setIfInBounds_toArray, List.set_cons_zero, List.set_cons_succ])
        refine wpAnyH_ready (rs := [17]) (by kernel_rfl) (by simp) ?_
        refine (AllReadyH.cons (o := ⟨none, _, _, _, _, _⟩) rfl (fun K hK => ?_) AllReadyH.nil)
        have sf := HI.out.f.frozen
        have sc := HI.out.f.cell
        go_simp
        refine hK.out _ _ (StC.of (HI.out.set HZ.out.1 HZ.out.2 m') HZX.out) (fun hHeld => ?_)
        clear hK K
        (try simp only [Act.put, List.setIfInBounds_toArray, List.set_cons_zero, List.set_cons_succ])
        refine wpAnyH_done (by kernel_rfl) ?_ _
        exact FIN.out _ HI HB
      · have HI := HI
        have sc := HI.out.f.cell
        go_simp
        refine hK.out _ _ (by assumption) (fun hHeld => ?_)
        clear hK K
        (try simp only [Act.put, List.setIfInBounds_toArray, List.set_cons_zero, List.set_cons_succ])
        refine wpAnyH_ready (rs := [0, 15]) (by kernel_rfl) (by simp) ?_
        refine (AllReadyH.cons (o := ⟨some 12, _, _, _, _, _⟩) rfl (fun K hK => ?_) (AllReadyH.cons (o := ⟨some 27, _, _, _, _, _⟩) rfl (fun K hK => ?_) AllReadyH.nil))
        · have HI := HI
          have sc := HI.out.f.cell
          go_simp
          refine hK.out _ _ (by assumption) (fun hHeld => ?_)
          clear hK K
          (try simp only [Act.put, List.setIfInBounds_toArray, List.set_cons_zero, List.set_cons_succ])
          refine wpAnyH_ready (rs := [15]) (by kernel_rfl) (by simp) ?_
          refine (AllReadyH.cons (o := ⟨some 27, _, _, _, _, _⟩) rfl (fun K hK => ?_) AllReadyH.nil)
          go_simp
          refine hK.out _ _ (by assumption) (fun hHeld => ?_)
          clear hK K
          (try simp only [Act.put, List.setIfInBounds_toArray, List.set_cons_zero, List.set_cons_succ])
          refine wpAnyH_ready (rs := [16]) (by kernel_rfl) (by simp) ?_
          refine (AllReadyH.cons (o := ⟨some 28, _, _, _, _, _⟩) rfl (fun K hK => ?_) AllReadyH.nil)
          go_simp
          refine hK.out _ _ (by assumption) (fun hHeld => ?_)
          clear hK K
          (try simp only [Act.put, List.setIfInBounds_toArray, List.set_cons_zero, List.set_cons_succ])
          refine wpAnyH_ready (rs := [17]) (by kernel_rfl) (by simp) ?_
          refine (AllReadyH.cons (o := ⟨none, _, _, _, _, _⟩) rfl (fun K hK => ?_) AllReadyH.nil)
          have sf := HI.out.f.frozen
          have sc := HI.out.f.cell
          go_simp
          refine hK.out _ _ (StC.of (HI.out.set HZ.out.1 HZ.out.2 m') HZX.out) (fun hHeld => ?_)
          clear hK K
          (try simp only [Act.put, List.setIfInBounds_toArray, List.set_cons_zero, List.set_cons_succ])
          refine wpAnyH_done (by kernel_rfl) ?_ _
          exact FIN.out _ HI HB
        · have HI := HI
          go_simp
          refine hK.out _ _ (by assumption) (fun hHeld => ?_)
          clear hK K
          (try simp only [Act.put, List.setIfInBounds_toArray, List.set_cons_zero, List.set_cons_succ])
          refine wpAnyH_ready (rs := [0]) (by kernel_rfl) (by simp) ?_
          refine (AllReadyH.cons (o := ⟨some 12, _, _, _, _, _⟩) rfl (fun K hK => ?_) AllReadyH.nil)
          have sc := HI.out.f.cell
          go_simp
          refine hK.out _ _ (by assumption) (fun hHeld => ?_)
          clear hK K
          (try simp only [Act.put, List.setIfInBounds_toArray, List.set_cons_zero, List.set_cons_succ])
          refine wpAnyH_ready (rs := [16]) (by kernel_rfl) (by simp) ?_
          refine (AllReadyH.cons (o := ⟨some 28, _, _, _, _, _⟩) rfl (fun K hK => ?_) AllReadyH.nil)
          go_simp
          refine hK.out _ _ (by assumption) (fun hHeld => ?_)
          clear hK K
          (try simp only [Act.put, List.setIfInBounds_toArray, List.set_cons_zero, List.set_cons_succ])
          refine wpAnyH_ready (rs := [17]) (by kernel_rfl) (by simp) ?_
          refine (AllReadyH.cons (o := ⟨none, _, _, _, _, _⟩) rfl (fun K hK => ?_) AllReadyH.nil)
          have sf := HI.out.f.frozen
          have sc := HI.out.f.cell
          go_simp
          refine hK.out _ _ (StC.of (HI.out.set HZ.out.1 HZ.out.2 m') HZX.out) (fun hHeld => ?_)
          clear hK K
          (try simp only [Act.put, List.setIfInBounds_toArray, List.set_cons_zero, List.set_cons_succ])
          refine wpAnyH_done (by kernel_rfl) ?_ _
          exact FIN.out _ HI HB
  case done =>
    rintro D V hD hi hK
    have e9 : (nums f).filterMap (fun k => l[k]?) = l.filter (fun x => decide (x.p < y.p)) := HLT.out
    rw [e9, HFR.out] at hi
    have HI := Lib.hid hi
    have HDK := Lib.hid hK
    have cl := hi.lx.cell
    have cf := hi.f.cell
    subst hfr
    clear SQ hi hK
    go_upto_region 5 with (fail)
    have P0 := fun (i : Wv V) => (HI.out.later i.lt).lx.cell
    have P1 := fun (i : Wv V) => (HI.out.later i.lt).f.cell
    have KN2 := Lib.hid (fun (i : Wv V) => calls_in (KN.out i.W (HI.out.later i.lt).r (HI.out.later i.lt).t))
    have KP2 := Lib.hid (fun (i : Wv V) => calls_in (KP.out i.W))
    refine wp_region_in (v0 := V) (Below.refl _ _) (by kernel_rfl) (by kernel_rfl) ?_
    repeat (go_big_quiet_step (first | (go_at_call 54; with_reducible exact KN2.out _) | (go_at_call 57; with_reducible exact KP2.out _)))
    refine wpQuiet_nil ?_
    intro _ hw9
    obtain ⟨nq, hw99⟩ := hw9
    subst hw99
    go_wp2
    have hK9 : nq.W.heap[D]? = some (.deferred (some [])) := (nq.lt.block D (Array.getElem?_eq_some_iff.1 HDK.out).1).trans HDK.out
    refine ⟨by simp, .inl ⟨_, _, rfl, run_takeDeferred hK9, ?_⟩⟩
    exact ⟨.int .u64 st, by simp [results, Tryz.f26, go_sem], rfl, (HI.out.later nq.lt).b.trans (belowK_b (w := w) (Nat.le_refl _) nq.W D _ _ (by omega) hK9 rfl rfl)⟩
  case stop =>
    rintro D c pre x V hD hr h hK
    exact h.elim
end Go.Proofs.YtnhddnldebdmbaaGreatDoor
