/- The document's own answer: what is left out, and one token. -/
import Derived.Test.YtlelnoalajeihaaToks
namespace Go.Proofs.Ytlelnoalajeihaa
open Go.RowKit
set_option linter.unusedVariables false

theorem skip_blank {c : UInt8} {r : List UInt8} (h : blank c = true) : skip (c :: r) = skip r + 1 := by rw [skip, if_pos h]
theorem skip_hash {c : UInt8} {r : List UInt8} (h : c.toNat = 35) : skip (c :: r) = noteLen r + 1 := by rw [skip, if_neg (by rw [blank_hash h]; simp), if_pos h]
theorem skip_none {c : UInt8} {r : List UInt8} (h1 : ¬ blank c = true) (h2 : c.toNat ≠ 35) : skip (c :: r) = 0 := by rw [skip, if_neg h1, if_neg h2]

set_option maxRecDepth 100000 in
set_option maxHeartbeats 2000000 in
theorem skip_any (s : ByteArray) (i : Nat) (w : World) (hi : i ≤ s.size) (hs : s.size ≤ 100000) : Calls Try.prog 38 #[.string s, .int .i64 (i : Int)] w fun e w' => e = .returned (.int .i64 ((i + skip (s.data.toList.drop i) : Nat) : Int)) ∧ w = w' := by
  go_enter Try.func38, Try.ntmps38
  go_wp2
  go_loop [1] (fun a => ∃ k : Nat, k ≤ s.size ∧ a = .int .i64 k ∧ Hid (i + skip (s.data.toList.drop i) = k + skip (s.data.toList.drop k))) (fun a => s.size - (intOf a).toNat)
  case atStart => exact ⟨i, hi, rfl, Lib.hid rfl⟩
  case round =>
    obtain ⟨k, hk, rfl, hq⟩ := hrel
    by_cases hlt : k < s.size
    · obtain ⟨c, hc⟩ : ∃ c, s[k] = c := ⟨_, rfl⟩
      have hd := drop_get s k hlt
      rw [hc] at hd
      have hc256 := c.toNat_lt
      have hdk : decide ((k : Int) < (s.size : Int)) = true := decide_eq_true (by omega)
      by_cases hbl : blank c = true
      · have hq2 : Hid (i + skip (s.data.toList.drop i) = (k + 1) + skip (s.data.toList.drop (k + 1))) := by
          have := hq.out
          rw [hd, skip_blank hbl] at this
          exact Lib.hid (by omega)
        have h2 : c.toNat = 32 ∨ c.toNat = 9 := by simpa [blank] using hbl
        have t35 : ((c.toNat : Int) == 35) = false := by simp; omega
        clear hq hd hbl
        by_cases h32 : c.toNat = 32
        · have t1 : ((c.toNat : Int) != 32) = false := by simp; omega
          have T := Lib.hid h32
          clear h32 h2
          go_wp2
          go_round
          case rel => exact ⟨k + 1, by omega, by go_num, hq2⟩
          case measure => simp [intOf]; omega
        · have t1 : ((c.toNat : Int) != 32) = true := by simp; omega
          have t2 : ((c.toNat : Int) != 9) = false := by simp; omega
          clear h32 h2
          go_wp2
          go_round
          case rel => exact ⟨k + 1, by omega, by go_num, hq2⟩
          case measure => simp [intOf]; omega
      · by_cases h35 : c.toNat = 35
        · have t35 : ((c.toNat : Int) == 35) = true := by simp; omega
          have hn : noteLen (s.data.toList.drop k) = noteLen (s.data.toList.drop (k + 1)) + 1 := by rw [hd, noteLen_not c _ (by omega)]
          have hq2 : Hid (i + skip (s.data.toList.drop i) = k + noteLen (s.data.toList.drop k)) := by
            have := hq.out
            rw [hd, skip_hash h35] at this
            exact Lib.hid (by omega)
          have HN := Lib.hid hn
          have H35 := Lib.hid h35
          clear hq hd hbl hn h35
          go_wp2
          go_loop [1] (fun a => ∃ j : Nat, k ≤ j ∧ j ≤ s.size ∧ a = .int .i64 j ∧ Hid (k + noteLen (s.data.toList.drop k) = j + noteLen (s.data.toList.drop j))) (fun a => s.size - (intOf a).toNat)
          case atStart => exact ⟨k, Nat.le_refl _, hk, rfl, Lib.hid rfl⟩
          case round =>
            obtain ⟨j, hj1, hj2, rfl, hj⟩ := hrel
            clear hdk
            by_cases hjl : j < s.size
            · obtain ⟨d, hd⟩ : ∃ d, s[j] = d := ⟨_, rfl⟩
              have hdd := drop_get s j hjl
              rw [hd] at hdd
              have hdj : decide ((j : Int) < (s.size : Int)) = true := decide_eq_true (by omega)
              by_cases h10 : d.toNat = 10
              · have t10 : ((d.toNat : Int) != 10) = false := by simp; omega
                have hfin : Hid (i + skip (s.data.toList.drop i) = j + skip (s.data.toList.drop j)) := by
                  have := hj.out
                  have h2 := hq2.out
                  rw [hdd, noteLen_ten d _ h10] at this
                  rw [hdd, skip_none (by simp [blank]; omega) (by omega)]
                  exact Lib.hid (by omega)
                have hkj : k < j := by
                  have := hj.out
                  rw [HN.out, hdd, noteLen_ten d _ h10] at this
                  omega
                have T := Lib.hid h10
                clear h10 hdd hj
                go_wp2
                go_round
                case rel => exact ⟨j, hj2, rfl, hfin⟩
                case measure => simp [intOf]; omega
              · have t10 : ((d.toNat : Int) != 10) = true := by simp; omega
                have hj3 : Hid (k + noteLen (s.data.toList.drop k) = (j + 1) + noteLen (s.data.toList.drop (j + 1))) := by
                  have := hj.out
                  rw [hdd, noteLen_not d _ h10] at this
                  exact Lib.hid (by omega)
                clear h10 hdd hj
                go_wp2
                go_round
                case rel => exact ⟨j + 1, by omega, by omega, by go_num, hj3⟩
                case measure => simp [intOf]; omega
            · have hdj : decide ((j : Int) < (s.size : Int)) = false := decide_eq_false (by omega)
              have he : s.data.toList.drop j = [] := List.drop_of_length_le (by rw [← Lib.size_eq]; omega)
              have hfin : Hid (i + skip (s.data.toList.drop i) = j + skip (s.data.toList.drop j)) := by
                have := hj.out
                have h2 := hq2.out
                rw [he] at this ⊢
                exact Lib.hid (by simp only [noteLen, skip] at *; omega)
              have hkj : k < j := by omega
              clear he hj
              go_wp2
              go_round
              case rel => exact ⟨j, hj2, rfl, hfin⟩
              case measure => simp [intOf]; omega
        · have hq2 : Hid (i + skip (s.data.toList.drop i) = k) := by
            have := hq.out
            rw [hd, skip_none hbl h35] at this
            exact Lib.hid (by omega)
          have hnb : c.toNat ≠ 32 ∧ c.toNat ≠ 9 := by simpa [blank] using hbl
          have t1 : ((c.toNat : Int) != 32) = true := by simp; omega
          have t2 : ((c.toNat : Int) != 9) = true := by simp; omega
          have t35 : ((c.toNat : Int) == 35) = false := by simp; omega
          clear hq hd hbl h35 hnb
          go_wp2
          go_ret
          exact ⟨ret_int (by have := hq2.out; omega), rfl⟩
    · have hdk : decide ((k : Int) < (s.size : Int)) = false := decide_eq_false (by omega)
      have hq2 : Hid (i + skip (s.data.toList.drop i) = k) := by
        have := hq.out
        rw [show s.data.toList.drop k = [] from List.drop_of_length_le (by rw [← Lib.size_eq]; omega)] at this
        exact Lib.hid (by simpa [skip] using this)
      clear hq
      go_wp2
      go_ret
      exact ⟨ret_int (by have := hq2.out; omega), rfl⟩
end Go.Proofs.Ytlelnoalajeihaa
