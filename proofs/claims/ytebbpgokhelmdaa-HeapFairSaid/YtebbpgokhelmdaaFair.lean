/- HeapFair. -/
import Derived.Test.YtebbpgokhelmdaaSrt
import Derived.Test.YtebbpgokhelmdaaHJM
namespace Go.Proofs.Ytebbpgokhelmdaa
open Go.RowKit Go.Shelf
set_option linter.unusedVariables false
set_option linter.unusedSimpArgs false
attribute [local go_sem ↓] Go.wp_at_zero Go.wp_at_succ
/-- All of key 3, from a on, n of them. -/
def threes : Nat → Nat → List It
  | _, 0 => []
  | a, n + 1 => ⟨3, (a : Int)⟩ :: threes (a + 1) n
theorem threes_cons (a n : Nat) : threes a (n + 1) = ⟨3, (a : Int)⟩ :: threes (a + 1) n := rfl
theorem threes_length : ∀ a n : Nat, (threes a n).length = n
  | _, 0 => rfl
  | a, n + 1 => by rw [threes_cons, List.length_cons, threes_length (a + 1) n]
theorem threes_push (a n : Nat) : ins keyM ⟨3, ((a + n : Nat) : Int)⟩ (threes a n) = threes a (n + 1) := by
  induction n generalizing a with
  | zero => rfl
  | succ n ih =>
    rw [threes_cons, ins, if_neg (by simp [keyM]), threes_cons a (n + 1)]
    have := ih (a + 1)
    rw [← this]
    congr 3
    omega
theorem len_isM {B : Nat} {w : World} {b c : Nat} {X : List Nat} {L : List It} {n : Int} (h : HsM B w b X c L) (hn : (L.length : Int) = n) : Calls Try.prog 14 #[.pointer (some ⟨b, 0, none⟩)] w fun e w' => e = .returned (.int .i64 n) ∧ w = w' := by
  rw [← hn]
  exact hlenM h
/-- a went, c came. -/
structure In (B : Nat) (w wr : World) (a c : Nat) (X : List Nat) : Prop where
  h : HsM B wr B X c (threes a (c - a))
  b : Below w.heap.size w wr
  le : a ≤ c
theorem In.later {B : Nat} {w wr w' : World} {a c : Nat} {X : List Nat} (h : In B w wr a c X) (hb : Below wr.heap.size wr w') : In B w w' a c X :=
  ⟨h.h.later hb, h.b.trans (hb.mono h.b.size), h.le⟩
theorem In.push {B : Nat} {w wr : World} {a c : Nat} {X : List Nat} (h : In B w wr a c X) (hc : c ≤ 1000) (hB : w.heap.size ≤ B := by assumption) :
    Calls Try.prog 29 #[.pointer (some ⟨B, 0, none⟩), .agg #[.int .i64 3, .int .i64 (c : Int)]] wr fun e w' => e = .returned (.tuple #[]) ∧ ∃ X', In B w w' a (c + 1) X' := by
  have hle := h.le
  have hp := hpushM (x := ⟨3, (c : Int)⟩) h.h ⟨by unfold in64; simp, by unfold in64; simp; omega⟩ (by omega)
  have e := threes_push a (c - a)
  rw [show a + (c - a) = c by omega] at e
  rw [e, show c - a + 1 = c + 1 - a by omega] at hp
  refine hp.mono ?_
  rintro e w' ⟨rfl, X', h1, h2, h3⟩
  exact ⟨rfl, X', h1, h.b.trans (h2.below h.b.size (fun k hk => Nat.le_trans hB (h.h.ge k hk).1)), by omega⟩
theorem In.pop {B : Nat} {w wr : World} {a c : Nat} {X : List Nat} (h : In B w wr a c X) (hc : a < c) (hB : w.heap.size ≤ B := by assumption) :
    Calls Try.prog 30 #[.pointer (some ⟨B, 0, none⟩)] wr fun e w' => e = .returned (.tuple #[.agg #[.int .i64 3, .int .i64 (a : Int)], .bool true]) ∧ In B w w' (a + 1) c X := by
  have e : threes a (c - a) = ⟨3, (a : Int)⟩ :: threes (a + 1) (c - (a + 1)) := by rw [← threes_cons]; congr 1; omega
  have h1 := h.h
  rw [e] at h1
  refine (hpopM h1).mono ?_
  rintro e w' ⟨rfl, h2, h3⟩
  exact ⟨rfl, h2, h.b.trans (h3.below h.b.size (fun k hk => Nat.le_trans hB (h.h.ge k hk).1)), by omega⟩
set_option maxRecDepth 100000 in
set_option maxHeartbeats 4000000 in
theorem hfair_walk (A : Option Addr) (n cap : Nat) (z : List Int) (w : World) (hr : IntRow w A n cap z) : Calls Try.prog 5 #[.slice A n cap] w (OkB w) := by
  obtain ⟨hR, hn, h1, h2⟩ := hr.row
  have RR := Lib.hid hR
  clear hR hr
  have NW := Lib.hid (fun W => new_anyM (A := none) (n := 0) (cap := 0) (xs := []) W (fun i x hx => by simp at hx) rfl (by omega) (by omega) (by omega))
  have AW := Lib.hid awake_any
  go_enter Try.func5, Try.ntmps5
  go_wp2_with (first
    | (go_at_call 8; (with_reducible refine (AW.out _).mono ?_); rintro e w1 ⟨rfl, hB1⟩)
    | (go_at_call 11; (with_reducible refine (NW.out _).mono ?_); rintro e w2 ⟨X, rfl, hH2, hB2⟩))
  have hH0 := Lib.hid hH2
  have hB0 := Lib.hid (hB1.trans (hB2.mono hB1.size))
  obtain ⟨B, hB⟩ : ∃ B, B = w1.heap.size := ⟨_, rfl⟩
  rw [← hB] at hH0
  have hwB : w.heap.size ≤ B := by rw [hB]; exact hB1.size
  simp only [← hB]
  clear hH2 hB2 hB1 NW hB
  have hZ := Lib.hid hn
  generalize z.take n = z' at *
  clear hn
  have HI0 := Lib.hid (show In B w w2 0 0 X from ⟨hH0.out, hB0.out, Nat.le_refl _⟩)
  clear hH0 hB0
  go_loopw [7, 5, 6] (fun i inn out wr => ∃ (k a c : Nat) (X : List Nat), k ≤ n ∧ k ≤ 30 ∧ c ≤ 4 * k ∧ i = .int .i64 k ∧ inn = .int .i64 c ∧ out = .int .i64 a ∧ Hid (In B w wr a c X)) (fun i _ _ _ => n - (intOf i).toNat)
  case atStart => exact ⟨0, 0, 0, X, Nat.zero_le _, Nat.zero_le _, Nat.zero_le _, rfl, rfl, rfl, HI0⟩
  case round =>
    obtain ⟨k, a, c, X, hk, hk3, hc, rfl, rfl, rfl, hI⟩ := hrel
    clear HI0
    have hk0 : (0 : Int) ≤ (k : Int) := by omega
    have hk5 : (k : Int) ≤ 30 := by omega
    by_cases hlt : k < n ∧ k < 30
    · obtain ⟨hlt, hlt3⟩ := hlt
      obtain ⟨x, hx⟩ : ∃ x, z'[k]? = some x := ⟨z'[k]'(by rw [hZ.out]; exact hlt), List.getElem?_eq_getElem _⟩
      obtain ⟨rb, ro, rfl, hrl, hox, -⟩ := RR.out.later hI.out.b k x hx
      have X0 := Lib.hid (fun W (hb : Below w.heap.size w W) => (RR.out.later hb).at hx)
      have hi1 : (k : Int) < (n : Int) := by omega
      have hi2 : (k : Int) < 30 := by omega
      obtain ⟨hr0, hr1⟩ := restI_bd x 5 (by omega) (by omega)
      have hR1 := Lib.hid (fun W => rest_any x 5 W hox (by omega) (by omega))
      have hox5 : in64 (x.tdiv 5) := by
        unfold okI in64 at hox
        unfold in64
        rcases Int.le_total 0 x with h | h
        · rw [Int.tdiv_eq_ediv_of_nonneg h]; omega
        · obtain ⟨m, rfl⟩ : ∃ m, x = -m := ⟨-x, by omega⟩
          rw [Int.neg_tdiv, Int.tdiv_eq_ediv_of_nonneg (by omega)]; omega
      have hox5 : in64 (wrap64 (x.tdiv 5)) := by rw [IntWalk.wrap64_in _ (by unfold in64 at hox5; omega)]; exact hox5
      obtain ⟨hs0, hs1⟩ := restI_bd (wrap64 (x.tdiv 5)) 5 (by omega) (by omega)
      have hR2 := Lib.hid (fun W => rest_any (wrap64 (x.tdiv 5)) 5 W hox5 (by omega) (by omega))
      have HO := Lib.hid hox
      have HO5 := Lib.hid hox5
      clear hx hox hox5
      generalize restI x 5 = r at *
      generalize restI (wrap64 (x.tdiv 5)) 5 = s at *
      obtain ⟨r, rfl⟩ : ∃ r' : Nat, r = (r' : Int) := ⟨r.toNat, by omega⟩
      obtain ⟨s, rfl⟩ : ∃ s' : Nat, s = (s' : Int) := ⟨s.toNat, by omega⟩
      go_wp2
      go_loopw [8, 5] (fun j inn wr => ∃ (q : Nat) (X : List Nat), q ≤ r ∧ j = .int .i64 q ∧ inn = .int .i64 ((c + q : Nat) : Int) ∧ Hid (In B w wr a (c + q) X)) (fun j _ _ => r - (intOf j).toNat)
      case atStart => exact ⟨0, X, Nat.zero_le _, rfl, rfl, hI⟩
      case round =>
        obtain ⟨q, X2, hq, rfl, rfl, hI2⟩ := hrel
        have hq0 : (0 : Int) ≤ (q : Int) := by omega
        have x0 := X0.out _ hI2.out.b
        have hcq : ((c + q : Nat) : Int) ≤ 130 := by omega
        have hcq0 : (0 : Int) ≤ ((c + q : Nat) : Int) := by omega
        by_cases hqr : q < r
        · have hq1 : (q : Int) < (r : Int) := by omega
          have PU := Lib.hid (hI2.out.push (by omega))
          generalize hcd : c + q = d at *
          go_wp2_with (first
            | (go_at_call 9; (with_reducible refine (hR1.out _).mono ?_); rintro e w2 ⟨rfl, rfl⟩)
            | (go_at_call 29; (with_reducible refine PU.out.mono ?_); rintro e w3 ⟨rfl, X3, hI3⟩))
          have HI3 := Lib.hid hI3
          clear hI3
          subst hcd
          go_roundw
          case rel => exact ⟨q + 1, X3, by omega, by go_num, by go_num, HI3⟩
          case measure => simp [intOf]; omega
        · obtain rfl : q = r := by omega
          generalize hcd : c + q = d at *
          go_wp2_with (go_at_call 9; (with_reducible refine (hR1.out _).mono ?_); rintro e w2 ⟨rfl, rfl⟩)
          have x1 := X0.out _ hI2.out.b
          have HI2 := hI2
          have hcd4 : d ≤ 4 * (k + 1) := by omega
          clear hI hI2 x0 hcq hcq0
          subst hcd
          generalize hcd : c + q = d at *
          go_loopw [9, 6] (fun j out wr => ∃ (p e : Nat) (X : List Nat), p ≤ s ∧ j = .int .i64 p ∧ out = .int .i64 (e : Int) ∧ Hid (In B w wr e d X)) (fun j _ _ => s - (intOf j).toNat)
          case atStart => exact ⟨0, a, X2, Nat.zero_le _, rfl, rfl, HI2⟩
          case round =>
            obtain ⟨p, e, X3, hp, rfl, rfl, hI3⟩ := hrel
            clear HI2
            have hp0 : (0 : Int) ≤ (p : Int) := by omega
            have x0 := X0.out _ hI3.out.b
            have hed := hI3.out.le
            have hed1 : (e : Int) ≤ 130 := by omega
            have hd1 : (d : Int) ≤ 130 := by omega
            by_cases hps : p < s
            · have hp1 : (p : Int) < (s : Int) := by omega
              by_cases hlt : e < d
              · have hlt1 : (e : Int) < (d : Int) := by omega
                have PP := Lib.hid (hI3.out.pop hlt)
                go_wp2_with (first
                  | (go_at_call 9; (with_reducible refine (hR2.out _).mono ?_); rintro e w2 ⟨rfl, rfl⟩)
                  | (go_at_call 30; (with_reducible refine PP.out.mono ?_); rintro e w3 ⟨rfl, hI4⟩; have HI4 := Lib.hid hI4; clear hI4))
                go_roundw
                case rel => exact ⟨p + 1, e + 1, X3, by omega, by go_num, by go_num, Lib.hid (HI4.out.later ((Below.refl _ _).alloc (Nat.le_refl _) _))⟩
                case measure => simp [intOf]; omega
              · obtain rfl : e = d := by omega
                go_wp2_with (go_at_call 9; (with_reducible refine (hR2.out _).mono ?_); rintro e w2 ⟨rfl, rfl⟩)
                go_roundw
                case rel => exact ⟨k + 1, e, e, X3, by omega, by omega, by omega, by go_num, rfl, rfl, hI3⟩
                case measure => simp [intOf]; omega
            · obtain rfl : p = s := by omega
              go_wp2_with (go_at_call 9; (with_reducible refine (hR2.out _).mono ?_); rintro e w2 ⟨rfl, rfl⟩)
              go_roundw
              case rel => exact ⟨k + 1, e, d, X3, by omega, by omega, by omega, by go_num, rfl, rfl, hI3⟩
              case measure => simp [intOf]; omega
    · have hle := hI.out.le
      have HN := Lib.hid (show ((threes a (c - a)).length : Int) = (c : Int) - (a : Int) by rw [threes_length]; omega)
      have hc1 : (c : Int) ≤ 130 := by omega
      have ha1 : (a : Int) ≤ (c : Int) := by omega
      by_cases hkk : k < n
      · obtain rfl : k = 30 := by omega
        have hi1 : ((30 : Nat) : Int) < (n : Int) := by omega
        go_wp2_with (go_at_call 14; (with_reducible refine (len_isM hI.out.h HN.out).mono ?_); rintro e w4 ⟨rfl, rfl⟩)
        go_ret
        exact ⟨rfl, hI.out.b⟩
      · obtain rfl : k = n := by omega
        go_wp2_with (go_at_call 14; (with_reducible refine (len_isM hI.out.h HN.out).mono ?_); rintro e w4 ⟨rfl, rfl⟩)
        go_ret
        exact ⟨rfl, hI.out.b⟩
end Go.Proofs.Ytebbpgokhelmdaa
