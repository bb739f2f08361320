/- FifoRoom's walk. -/
import Derived.Test.YtgcchmenadgboaaFRst
namespace Go.Proofs.Ytgcchmenadgboaa
open Go.RowKit
set_option linter.unusedVariables false
set_option linter.unusedSimpArgs false
attribute [local go_sem ↓] Go.wp_at_zero Go.wp_at_succ
set_option maxRecDepth 100000 in
set_option maxHeartbeats 4000000 in
theorem froom_walk (few many : Int) (w : World) (hf : in64 few) (hm : in64 many) : Calls Try.prog 5 #[.int .i64 few, .int .i64 many] w (OkB w) := by
  obtain ⟨hk0, hk1⟩ := restI_bd few 21 (by omega) (by omega)
  obtain ⟨hr0, hr1⟩ := restI_bd many 2001 (by omega) (by omega)
  have R1 := Lib.hid (fun W => rest_any few 21 W hf (by omega) (by omega))
  have R2 := Lib.hid (fun W => rest_any many 2001 W hm (by omega) (by omega))
  generalize restI few 21 = k at *
  generalize restI many 2001 = r at *
  obtain ⟨k, rfl⟩ : ∃ k' : Nat, k = (k' : Int) := ⟨k.toNat, by omega⟩
  obtain ⟨r, rfl⟩ : ∃ r' : Nat, r = (r' : Int) := ⟨r.toNat, by omega⟩
  have AW := Lib.hid awake_any
  have NW := Lib.hid (fun W (hB : Below w.heap.size w W) => in_newI (w0 := w) hB (row_noneI W) (by omega))
  go_enter Try.func5, Try.ntmps5
  go_wp2_with (first
    | (go_at_call 8; (with_reducible refine (AW.out _).mono ?_); rintro e w1 ⟨rfl, hB1⟩)
    | (go_at_call 11; (with_reducible refine (R1.out _).mono ?_); rintro e w1' ⟨rfl, rfl⟩)
    | (go_at_call 9; (with_reducible refine (NW.out _ hB1).mono ?_); rintro e w2 ⟨rfl, h2⟩))
  have H0 := Lib.hid h2
  generalize w1.heap.size = b at *
  clear h2 hB1 AW NW R1
  go_loopw [8] (fun i wr => ∃ (a n N : Nat), a + n ≤ r ∧ n ≤ k ∧ (n < k → a = 0) ∧ N ≤ 2 * k + 4 ∧ i = .int .i64 ((a + n : Nat) : Int) ∧ Hid (InI w b N (seqI a n) wr)) (fun i _ => r - (intOf i).toNat)
  case atStart => exact ⟨0, 0, 0, by omega, by omega, fun _ => rfl, by omega, rfl, H0⟩
  case round =>
    obtain ⟨a, n, N, har, hnk, ha, hN, rfl, hI⟩ := hrel
    clear H0
    have hle := hI.out.len_le
    rw [seqI_length] at hle
    by_cases hlt : a + n < r
    · have PU := Lib.hid (hI.out.push ((a + n : Nat) : Int) (by omega))
      rw [seqI_length, seqI_snoc] at PU
      have hN2 : roomUpI N n ≤ 2 * k + 4 := by unfold roomUpI; split <;> omega
      generalize roomUpI N n = N2 at *
      have hlt' : ((a + n : Nat) : Int) < (r : Int) := by omega
      obtain ⟨i, hi⟩ : ∃ i, a + n = i := ⟨_, rfl⟩
      rw [hi] at PU hlt' ⊢
      have hN2' : ¬ ((N2 : Int) > 8 + 4 * ((k : Int) + 1)) := by omega
      have hN2'' : (N2 : Int) ≤ 8 + 4 * ((k : Int) + 1) := by omega
      obtain ⟨m, hm⟩ : ∃ m, n + 1 = m := ⟨_, rfl⟩
      have hlm : ((seqI a (n + 1)).length : Int) = (m : Int) := by rw [seqI_length, hm]
      have hln : ((seqI (a + 1) n).length : Int) = (n : Int) := by rw [seqI_length]
      have HLM := Lib.hid hlm
      have HLN := Lib.hid hln
      have hrl : (r : Int) ≤ 2000 := by omega
      clear hlm hln
      by_cases hc : n < k
      · have hnk1 : ¬ ((m : Int) > (k : Int)) := by omega
        have hnk2 : (m : Int) ≤ (k : Int) := by omega
        go_wp2_with (first
          | (go_at_call 11; (with_reducible refine (R2.out _).mono ?_); rintro e w1' ⟨rfl, rfl⟩)
          | (go_at_call 12; (with_reducible refine PU.out.mono ?_); rintro e w3 ⟨rfl, h3⟩; have hle3 := h3.len_le; rw [seqI_length, hm] at hle3; have hle4 : ¬ ((N2 : Int) < (m : Int)) := by omega)
          | (go_at_call 20; (with_reducible refine (h3.len HLM.out).mono ?_); rintro e w4 ⟨rfl, rfl⟩)
          | (go_at_call 21; (with_reducible refine h3.room.mono ?_); rintro e w5 ⟨rfl, rfl⟩))
        go_roundw
        case rel => exact ⟨a, n + 1, N2, by omega, by omega, fun h => ha (by omega), hN2, by go_num, Lib.hid h3⟩
        case measure => simp [intOf]; omega
      · obtain rfl : n = k := by omega
        have hnk1 : (m : Int) > (n : Int) := by omega
        have hia : (i : Int) - (n : Int) = (a : Int) := by omega
        have PO := Lib.hid (fun W (h : InI w b N2 (seqI a (n + 1)) W) => show Calls Try.prog 13 #[.pointer (some ⟨b, 0, none⟩)] W (InPI (.tuple #[.int .i64 (a : Int), .bool true]) w b N2 (seqI (a + 1) n)) from h.pop)
        go_wp2_with (first
          | (go_at_call 11; (with_reducible refine (R2.out _).mono ?_); rintro e w1' ⟨rfl, rfl⟩)
          | (go_at_call 12; (with_reducible refine PU.out.mono ?_); rintro e w3 ⟨rfl, h3⟩)
          | (go_at_call 13; (with_reducible refine (PO.out _ h3).mono ?_); rintro e w4 ⟨rfl, h4⟩; have hle3 := h4.len_le; rw [seqI_length] at hle3; have hle4 : ¬ ((N2 : Int) < (n : Int)) := by omega)
          | (go_at_call 20; (with_reducible refine (h3.len HLM.out).mono ?_); rintro e w5 ⟨rfl, rfl⟩)
          | (go_at_call 20; (with_reducible refine (h4.len HLN.out).mono ?_); rintro e w6 ⟨rfl, rfl⟩)
          | (go_at_call 21; (with_reducible refine h4.room.mono ?_); rintro e w7 ⟨rfl, rfl⟩))
        go_roundw
        case rel => exact ⟨a + 1, n, N2, by omega, by omega, fun h => by omega, hN2, by go_num, Lib.hid h4⟩
        case measure => simp [intOf]; omega
    · obtain rfl : a + n = r := by omega
      have hnl : ¬ (((a + n : Nat) : Int) < ((a + n : Nat) : Int)) := by omega
      generalize a + n = i at *
      go_wp2_with (go_at_call 11; (with_reducible refine (R2.out _).mono ?_); rintro e w1' ⟨rfl, rfl⟩)
      go_ret
      exact ⟨rfl, hI.out.b⟩
end Go.Proofs.Ytgcchmenadgboaa
