/- Periods: the program's. -/
import Derived.Test.YtghijgpelkjohaaLForm
namespace Go.Proofs.Ytghijgpelkjohaa
open Go.RowKit
set_option linter.unusedVariables false
set_option linter.unusedSimpArgs false
theorem pd_bad {q : Int} {x : Ts} {l : List Ts} (h : x.t < 1) : pdB q (x :: l) = false ∧ pdN q (x :: l) = 0 := ⟨by rw [pdB, if_pos h], by rw [pdN, if_pos h]⟩
theorem pd_over {q : Int} {x : Ts} {l : List Ts} (h : ¬ x.t < 1) (h2 : lcmB q x.t = false) : pdB q (x :: l) = false ∧ pdN q (x :: l) = 0 :=
  ⟨by rw [pdB, if_neg h, h2]; rfl, by rw [pdN, if_neg h, h2]; rfl⟩
theorem pd_next {q : Int} {x : Ts} {l : List Ts} (h : ¬ x.t < 1) (h2 : lcmB q x.t = true) : pdB q (x :: l) = pdB (lcmN q x.t) l ∧ pdN q (x :: l) = pdN (lcmN q x.t) l :=
  ⟨by rw [pdB, if_neg h, if_pos h2], by rw [pdN, if_neg h, if_pos h2]⟩
theorem pd_low : ∀ (l : List Ts) (q : Int), (∃ x ∈ l, x.t < 1) → pdB q l = false ∧ pdN q l = 0
  | [], q, ⟨x, h, _⟩ => by cases h
  | a :: l, q, ⟨x, h, hx⟩ => by
    by_cases ha : a.t < 1
    · exact pd_bad ha
    · have hl : ∃ x ∈ l, x.t < 1 := by
        rcases List.mem_cons.1 h with rfl | h
        · exact absurd hx ha
        · exact ⟨x, h, hx⟩
      cases h2 : lcmB q a.t
      · exact pd_over ha h2
      · rw [(pd_next (l := l) ha h2).1, (pd_next (l := l) ha h2).2]
        exact pd_low l _ hl
theorem ret_nb {a b : Int} {k k' : Bool} (h : a = b) (h2 : k = k') : Ending.returned (.tuple #[.int .u64 a, .bool k]) = .returned (.tuple #[.int .u64 b, .bool k']) := by rw [h, h2]
set_option maxRecDepth 100000 in
set_option maxHeartbeats 8000000 in
theorem period_any (A : Option Addr) (cap : Nat) (l : List Ts) (w : World) (hR : Row w A cap l) :
    Calls Try.prog 19 #[.slice A l.length cap] w fun e w' => e = .returned (.tuple #[.int .u64 (pdN 1 l), .bool (pdB 1 l)]) ∧ Below w.heap.size w w' := by
  have hle := hR.le
  have hmx := hR.mx
  have ROW := Lib.hid hR
  clear hR
  obtain ⟨rn, hrn⟩ : ∃ rn, pdN 1 l = rn := ⟨_, rfl⟩
  obtain ⟨rb, hrb⟩ : ∃ rb, pdB 1 l = rb := ⟨_, rfl⟩
  have HRN := Lib.hid hrn
  have HRB := Lib.hid hrb
  rw [hrn, hrb]
  clear hrn hrb
  generalize hN : l.length = N at *
  have HN := Lib.hid hN
  clear hN
  go_enter Try.func19, Try.ntmps19
  go_wp2
  go_loopw [4, 11] (fun p i wr => ∃ (k : Nat) (q : Int), k ≤ N ∧ i = .int .i64 k ∧ p = .int .u64 q ∧ Hid (U q) ∧ Lt w wr ∧ Hid (pdB 1 l = pdB q (l.drop k) ∧ pdN 1 l = pdN q (l.drop k))) (fun _ i _ => N - (intOf i).toNat)
  case atStart => exact ⟨0, 1, Nat.zero_le _, rfl, rfl, Lib.hid ⟨by decide, by decide⟩, Below.refl _ _, Lib.hid ⟨by rw [List.drop_zero], by rw [List.drop_zero]⟩⟩
  case round =>
    obtain ⟨k, q, hk, rfl, rfl, hqu, hL, HQ⟩ := hrel
    by_cases hlt : k < N
    · obtain ⟨b', o, x, rfl, hx, hxw, hbl, hT⟩ := ROW.out.get (k := k) (by rw [HN.out]; exact hlt)
      have hTr := hT.later hL
      have c0 := hTr.c0
      have c1 := hTr.c1
      have c2 := hTr.c2
      have c3 := hTr.c3
      have c4 := hTr.c4
      have c5 := hTr.c5
      have c6 := hTr.c6
      have hi0 : (0 : Int) ≤ (k : Int) := by omega
      have hi1 : (k : Int) < ((N : Nat) : Int) := by omega
      have HD := Lib.hid (drop_ts hx)
      have HL := Lib.hid hL
      have hxt := hxw.t
      obtain ⟨t0, t1⟩ := hxt
      have BX := Lib.hid (boxT wr x)
      clear hT hTr hx hxw hL
      by_cases ht : x.t < 1
      · have u1 : decide (x.t < 1) = true := decide_eq_true ht
        have HE := Lib.hid (pd_bad (q := q) (l := l.drop (k + 1)) ht)
        clear ht
        go_wp2
        go_ret2
        exact ⟨ret_nb (by rw [← HRN.out, HQ.out.2, HD.out, HE.out.2]) (by rw [← HRB.out, HQ.out.1, HD.out, HE.out.1]), Below.trans HL.out (BX.out.mono (Below.size HL.out))⟩
      · have u1 : decide (x.t < 1) = false := decide_eq_false ht
        have K := Lib.hid (fun W => lcm_any q x.t hqu.out.1 hqu.out.2 (by omega) (by omega) W)
        have hlu := lcmN_u q x.t hqu.out.1 (by omega)
        have t0' : 0 ≤ x.t := by omega
        cases hb : lcmB q x.t
        · have HE := Lib.hid (pd_over (l := l.drop (k + 1)) ht hb)
          rw [hb] at K
          clear ht hb
          go_wp2_with (go_at_call 33; (with_reducible refine (K.out _).mono ?_); rintro e w1 ⟨rfl, rfl⟩)
          go_ret2
          exact ⟨ret_nb (by rw [← HRN.out, HQ.out.2, HD.out, HE.out.2]) (by rw [← HRB.out, HQ.out.1, HD.out, HE.out.1]), Below.trans HL.out (BX.out.mono (Below.size HL.out))⟩
        · have HE := Lib.hid (pd_next (l := l.drop (k + 1)) ht hb)
          rw [hb] at K
          have HLU := Lib.hid hlu
          clear ht hb hlu
          generalize lcmN q x.t = q' at *
          go_wp2_with (go_at_call 33; (with_reducible refine (K.out _).mono ?_); rintro e w1 ⟨rfl, rfl⟩)
          go_roundw
          case rel => exact ⟨k + 1, q', by omega, by go_num, rfl, HLU, Below.trans HL.out (BX.out.mono (Below.size HL.out)), Lib.hid ⟨by rw [HQ.out.1, HD.out, HE.out.1], by rw [HQ.out.2, HD.out, HE.out.2]⟩⟩
          case measure => simp [intOf]; omega
    · obtain rfl : k = N := by omega
      have HL := Lib.hid hL
      clear hL
      go_wp2
      go_ret2
      exact ⟨ret_nb (by rw [← HRN.out, HQ.out.2, List.drop_eq_nil_of_le (by rw [HN.out]; exact Nat.le_refl _)]; rfl) (by rw [← HRB.out, HQ.out.1, List.drop_eq_nil_of_le (by rw [HN.out]; exact Nat.le_refl _)]; rfl), HL.out⟩
end Go.Proofs.Ytghijgpelkjohaa
