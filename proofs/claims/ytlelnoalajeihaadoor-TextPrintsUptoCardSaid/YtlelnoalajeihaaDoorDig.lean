/- A task's line as bytes; the document's Digits. -/
import Derived.Test.YtlelnoalajeihaaDoorSet0
import Derived.Test.YtlelnoalajeihaaDoorWd
import Derived.Test.YtlelnoalajeihaaDoorRd
import Derived.Lib.ItoaNum
namespace Go.Proofs.YtlelnoalajeihaaDoor
open Go.RowKit
set_option linter.unusedVariables false
set_option linter.unusedSimpArgs false

/-- The digits of what is not nought, or nothing. -/
def dg0 (m : Nat) : List UInt8 := if m = 0 then [] else Lib.decDigits m
theorem dec_step (m : Nat) : Lib.decDigits m = dg0 (m / 10) ++ [UInt8.ofNat (48 + m % 10)] := by
  rw [Lib.decDigits]
  by_cases h : m < 10
  · rw [dif_pos h, dg0, if_pos (by omega), Nat.mod_eq_of_lt h]; rfl
  · rw [dif_neg h, dg0, if_neg (by omega)]
theorem dec_len : ∀ (k u : Nat), u < 10 ^ (k + 1) → (Lib.decDigits u).length ≤ k + 1
  | 0, u, h => by rw [Lib.decDigits, dif_pos (by simpa using h)]; simp
  | k + 1, u, h => by
    rw [dec_step, List.length_append, dg0]
    split
    · simp
    · have := dec_len k (u / 10) (by rw [Nat.pow_succ] at h; omega)
      simp; omega
theorem dec_bd {u : Nat} (h : u ≤ 9223372036854775808) : (Lib.decDigits u).length ≤ 20 := dec_len 19 u (by omega)
/-- So far: the low digits of N, and what is left. -/
structure DS (N m : Nat) (l : List UInt8) : Prop where
  is : (l = [] ∧ m = N) ∨ (l ≠ [] ∧ Lib.decDigits N = dg0 m ++ l)
  le : m ≤ N
theorem DS.start (N : Nat) : DS N N [] := ⟨.inl ⟨rfl, rfl⟩, Nat.le_refl _⟩
theorem DS.step {N m : Nat} {l : List UInt8} (h : DS N m l) (hg : m ≠ 0 ∨ l = []) : DS N (m / 10) (UInt8.ofNat (48 + m % 10) :: l) := by
  refine ⟨.inr ⟨by simp, ?_⟩, Nat.le_trans (Nat.div_le_self _ _) h.le⟩
  rcases h.is with ⟨rfl, rfl⟩ | ⟨hl, he⟩
  · exact dec_step m
  · have hm : m ≠ 0 := by
      rcases hg with h | h
      · exact h
      · exact absurd h hl
    rw [he, dg0, if_neg hm, dec_step, List.append_assoc]
    rfl
theorem DS.done {N : Nat} {l : List UInt8} (h : DS N 0 l) (hl : l ≠ []) : Lib.decDigits N = l := by
  rcases h.is with ⟨h, _⟩ | ⟨_, he⟩
  · exact absurd h hl
  · rw [he]; rfl
theorem DS.len {N m : Nat} {l : List UInt8} (h : DS N m l) (hN : N ≤ 9223372036854775808) : l.length ≤ 20 := by
  rcases h.is with ⟨rfl, _⟩ | ⟨_, he⟩
  · simp
  · have := dec_bd hN
    rw [he, List.length_append] at this
    omega

def emptyOf : Value → Nat
  | .string b => if b.size = 0 then 1 else 0
  | _ => 0
theorem bs_nil_test (l : List UInt8) : ((bs l).toList == []) = decide (l = []) := by
  rw [Lib.toList_data, bs_toList, Bool.eq_iff_iff]
  simp
theorem chr_nat (n : Nat) : chr ((48 + n : Nat) : Int) = bs [UInt8.ofNat (48 + n)] := by
  rw [chr, Int.toNat_natCast]
def DigPost (n : Int) (w : World) (e : Ending) (w' : World) : Prop := e = .returned (.string (bs (Lib.itoa n))) ∧ Below w.heap.size w w'
set_option maxRecDepth 100000 in
set_option maxHeartbeats 4000000 in
theorem rdig_pos (N : Nat) (w : World) (hN : N ≤ 9223372036854775807) : Calls Tryd.prog 25 #[.int .i64 (N : Int)] w (DigPost (N : Int) w) := by
  have hit : Lib.itoa (N : Int) = Lib.decDigits N := by
    rw [Lib.itoa, if_neg (by omega)]; simp
  have HIT := Lib.hid hit
  clear hit
  go_enter Tryd.func25, Tryd.ntmps25
  go_wp2
  go_loopw [3, 4] (fun s k wr => ∃ (m : Nat) (l : List UInt8), DS N m l ∧ s = .string (bs l) ∧ k = .int .i64 (m : Int) ∧ Below w.heap.size w wr) (fun s k _ => 2 * (intOf k).toNat + emptyOf s)
  case atStart => exact ⟨N, [], DS.start N, rfl, rfl, Below.refl _ _⟩
  case round =>
    obtain ⟨m, l, hD, rfl, rfl, hB⟩ := hrel
    have hlen := hD.len (by omega)
    have hle := hD.le
    have hst := bs_nil_test l
    have hsz := bs_size l
    have HD := Lib.hid hD
    have HB := Lib.hid hB
    clear hD hB
    by_cases hgo : m ≠ 0 ∨ l = []
    · have HDS := Lib.hid (HD.out.step hgo)
      obtain ⟨d, hd⟩ : ∃ d, m % 10 = d := ⟨_, rfl⟩
      obtain ⟨q, hq⟩ : ∃ q, m / 10 = q := ⟨_, rfl⟩
      have hd10 : d < 10 := by omega
      have HLT := Lib.hid (show 2 * q < 2 * m + (if (bs l).size = 0 then 1 else 0) by
        rcases hgo with h | h
        · omega
        · subst h; simp [bs_size]; omega)
      have m1 : (m : Int) % 10 = (d : Int) := by omega
      have m2 : (m : Int) / 10 = (q : Int) := by omega
      have hcv := fun W => conv_n W (48 + (d : Int)) (by omega) (by omega)
      obtain ⟨cz, hcz⟩ : ∃ cz, chr (48 + (d : Int)) = cz := ⟨_, rfl⟩
      have HC := Lib.hid (show cz ++ bs l = bs (UInt8.ofNat (48 + m % 10) :: l) by
        rw [← hcz, hd, show (48 + (d : Int)) = ((48 + d : Nat) : Int) by omega, chr_nat, bs_app]; rfl)
      have hczs : cz.size = 1 := by rw [← hcz]; exact chr_size _
      rw [hcz] at hcv
      have hu : IntKind.u8.wrap (48 + (d : Int)) = 48 + (d : Int) := by rw [IntKind.wrap_u8]; omega
      rw [hq] at HDS
      have hqN : q ≤ 9223372036854775807 := by omega
      clear hd hq hcz
      have hb0 : w.heap.size ≤ wr.heap.size := HB.out.size
      by_cases hm0 : m = 0
      · have hl0 : l = [] := by
          rcases hgo with h | h
          · exact absurd hm0 h
          · exact h
        have t1 : ((m : Int) != 0) = false := by simp [hm0]
        have t2 : ((bs l).toList == []) = true := by rw [hst]; exact decide_eq_true hl0
        clear hst hgo hm0 hl0
        go_wp2
        go_roundw
        case rel => exact ⟨q, _, HDS.out, by rw [HC.out], rfl, HB.out.alloc HB.out.size _⟩
        case measure =>
          have h1 := HLT.out
          have h2 : (cz ++ bs l).size ≠ 0 := by rw [ByteArray.size_append, hczs]; omega
          simp only [emptyOf, intOf, Int.toNat_natCast, if_neg h2]
          exact h1
      · have t1 : ((m : Int) != 0) = true := by simp [hm0]
        clear hst hgo hm0
        go_wp2
        go_roundw
        case rel => exact ⟨q, _, HDS.out, by rw [HC.out], rfl, HB.out.alloc HB.out.size _⟩
        case measure =>
          have h1 := HLT.out
          have h2 : (cz ++ bs l).size ≠ 0 := by rw [ByteArray.size_append, hczs]; omega
          simp only [emptyOf, intOf, Int.toNat_natCast, if_neg h2]
          exact h1
    · have hm0 : m = 0 := by omega
      have hl0 : l ≠ [] := fun h => hgo (.inr h)
      have t1 : ((m : Int) != 0) = false := by simp [hm0]
      have t2 : ((bs l).toList == []) = false := by rw [hst]; exact decide_eq_false hl0
      subst hm0
      have HE := Lib.hid (HD.out.done hl0)
      clear hst hgo hl0
      go_wp2
      go_ret
      exact ⟨by rw [HIT.out, HE.out]; rfl, HB.out⟩

set_option maxRecDepth 100000 in
set_option maxHeartbeats 4000000 in
theorem rdig_neg (N : Nat) (w : World) (h0 : 1 ≤ N) (hN : N ≤ 9223372036854775808) : Calls Tryd.prog 25 #[.int .i64 (-(N : Int))] w (DigPost (-(N : Int)) w) := by
  have hit : Lib.itoa (-(N : Int)) = 45 :: Lib.decDigits N := by
    rw [Lib.itoa, if_pos (by omega)]; simp
  obtain ⟨n, hn⟩ : ∃ n : Int, -(N : Int) = n := ⟨_, rfl⟩
  rw [hn] at hit ⊢
  have hn0 : n < 0 := by omega
  have hnb : -9223372036854775808 ≤ n := by omega
  have HIT := Lib.hid hit
  have HN := Lib.hid hn
  clear hit hn
  go_enter Tryd.func25, Tryd.ntmps25
  go_wp2
  go_loopw [3, 4] (fun s k wr => ∃ (m : Nat) (l : List UInt8) (k' : Int), DS N m l ∧ s = .string (bs l) ∧ k = .int .i64 k' ∧ k' = -(m : Int) ∧ Below w.heap.size w wr) (fun s k _ => 2 * (intOf k).natAbs + emptyOf s)
  case atStart => exact ⟨N, [], n, DS.start N, rfl, rfl, HN.out.symm, Below.refl _ _⟩
  case round =>
    obtain ⟨m, l, k, hD, rfl, rfl, hk, hB⟩ := hrel
    have hlen := hD.len (by omega)
    have hle := hD.le
    have hst := bs_nil_test l
    have hsz := bs_size l
    have HD := Lib.hid hD
    have HB := Lib.hid hB
    have hkb : -9223372036854775808 ≤ k := by omega
    have hk0 : k ≤ 0 := by omega
    clear hD hB
    by_cases hgo : m ≠ 0 ∨ l = []
    · have HDS := Lib.hid (HD.out.step hgo)
      obtain ⟨d, hd⟩ : ∃ d, m % 10 = d := ⟨_, rfl⟩
      obtain ⟨q, hq⟩ : ∃ q, m / 10 = q := ⟨_, rfl⟩
      have hd10 : d < 10 := by omega
      have HLT := Lib.hid (show 2 * q < 2 * m + (if (bs l).size = 0 then 1 else 0) by
        rcases hgo with h | h
        · omega
        · subst h; simp [bs_size]; omega)
      have m1 : k.tmod 10 = -(d : Int) := by
        rw [hk, Int.neg_tmod, Int.tmod_eq_emod_of_nonneg (by omega)]; omega
      have m2 : k.tdiv 10 = -(q : Int) := by
        rw [hk, Int.neg_tdiv, Int.tdiv_eq_ediv_of_nonneg (by omega)]; omega
      have hqN : q ≤ 9223372036854775807 := by omega
      have m3 : IntKind.i64.wrap (k.tdiv 10) = -(q : Int) := by rw [m2]; exact IntWalk.i64_in _ (by omega)
      have m4 : wrap64 (k.tdiv 10) = -(q : Int) := by rw [m2]; exact IntWalk.wrap64_in _ (by omega)
      have hcv := fun W => conv_n W (48 + (d : Int)) (by omega) (by omega)
      obtain ⟨cz, hcz⟩ : ∃ cz, chr (48 + (d : Int)) = cz := ⟨_, rfl⟩
      have HC := Lib.hid (show cz ++ bs l = bs (UInt8.ofNat (48 + m % 10) :: l) by
        rw [← hcz, hd, show (48 + (d : Int)) = ((48 + d : Nat) : Int) by omega, chr_nat, bs_app]; rfl)
      have hczs : cz.size = 1 := by rw [← hcz]; exact chr_size _
      rw [hcz] at hcv
      have hu : IntKind.u8.wrap (48 + (d : Int)) = 48 + (d : Int) := by rw [IntKind.wrap_u8]; omega
      rw [hq] at HDS
      obtain ⟨q', hq'⟩ : ∃ q' : Int, -(q : Int) = q' := ⟨_, rfl⟩
      rw [hq'] at m2 m3 m4
      have m5 : wrap64 q' = q' := IntWalk.wrap64_in _ (by omega)
      have m6 : -9223372036854775808 ≤ q' := by omega
      have m7 : q' ≤ 0 := by omega
      have HQ := Lib.hid hq'
      have hab : Hid (q'.natAbs = q ∧ k.natAbs = m) := Lib.hid ⟨by omega, by omega⟩
      have HM0 := Lib.hid (show m = 0 ↔ k = 0 by omega)
      clear hd hq hcz hq' hk
      have hb0 : w.heap.size ≤ wr.heap.size := HB.out.size
      by_cases hm0 : m = 0
      · have hl0 : l = [] := by
          rcases hgo with h | h
          · exact absurd hm0 h
          · exact h
        have t1 : (k != 0) = false := by simp [HM0.out.1 hm0]
        have t2 : ((bs l).toList == []) = true := by rw [hst]; exact decide_eq_true hl0
        clear hst hgo hm0 hl0
        by_cases hdz : d = 0
        · have m1' : k.tmod 10 = 0 := by rw [m1, hdz]; rfl
          have hz : (d : Int) = 0 := by omega
          rw [hz, show (48 : Int) + 0 = 48 from rfl] at hu hcv
          clear m1 hz hdz
          go_wp2
          go_roundw
          case rel => exact ⟨q, _, q', HDS.out, by rw [HC.out], rfl, HQ.out.symm, HB.out.alloc HB.out.size _⟩
          case measure =>
            have h1 := HLT.out
            have h2 : (cz ++ bs l).size ≠ 0 := by rw [ByteArray.size_append, hczs]; omega
            simp only [emptyOf, intOf, if_neg h2, hab.out.1, hab.out.2]
            exact h1
        · have hd1 : 0 < d := by omega
          clear hdz
          go_wp2
          go_roundw
          case rel => exact ⟨q, _, q', HDS.out, by rw [HC.out], rfl, HQ.out.symm, HB.out.alloc HB.out.size _⟩
          case measure =>
            have h1 := HLT.out
            have h2 : (cz ++ bs l).size ≠ 0 := by rw [ByteArray.size_append, hczs]; omega
            simp only [emptyOf, intOf, if_neg h2, hab.out.1, hab.out.2]
            exact h1
      · have t1 : (k != 0) = true := by simp; exact fun e => hm0 (HM0.out.2 e)
        clear hst hgo hm0
        by_cases hdz : d = 0
        · have m1' : k.tmod 10 = 0 := by rw [m1, hdz]; rfl
          have hz : (d : Int) = 0 := by omega
          rw [hz, show (48 : Int) + 0 = 48 from rfl] at hu hcv
          clear m1 hz hdz
          go_wp2
          go_roundw
          case rel => exact ⟨q, _, q', HDS.out, by rw [HC.out], rfl, HQ.out.symm, HB.out.alloc HB.out.size _⟩
          case measure =>
            have h1 := HLT.out
            have h2 : (cz ++ bs l).size ≠ 0 := by rw [ByteArray.size_append, hczs]; omega
            simp only [emptyOf, intOf, if_neg h2, hab.out.1, hab.out.2]
            exact h1
        · have hd1 : 0 < d := by omega
          clear hdz
          go_wp2
          go_roundw
          case rel => exact ⟨q, _, q', HDS.out, by rw [HC.out], rfl, HQ.out.symm, HB.out.alloc HB.out.size _⟩
          case measure =>
            have h1 := HLT.out
            have h2 : (cz ++ bs l).size ≠ 0 := by rw [ByteArray.size_append, hczs]; omega
            simp only [emptyOf, intOf, if_neg h2, hab.out.1, hab.out.2]
            exact h1
    · have hm0 : m = 0 := by omega
      have hl0 : l ≠ [] := fun h => hgo (.inr h)
      have t1 : (k != 0) = false := by simp; omega
      have t2 : ((bs l).toList == []) = false := by rw [hst]; exact decide_eq_false hl0
      subst hm0
      have HE := Lib.hid (HD.out.done hl0)
      have hcat : ({ data := #[45] } : ByteArray) ++ bs l = bs (45 :: l) := by rw [show ({ data := #[45] } : ByteArray) = bs [45] from rfl, bs_app]; rfl
      have HC := Lib.hid hcat
      clear hst hgo hl0 hk hcat
      go_wp2
      go_ret
      exact ⟨by rw [HIT.out, HE.out, ← HC.out]; rfl, HB.out⟩
theorem rdig_any (n : Int) (w : World) (hn : in64 n) : Calls Tryd.prog 25 #[.int .i64 n] w (DigPost n w) := by
  obtain ⟨h1, h2⟩ := hn
  by_cases h : 0 ≤ n
  · obtain ⟨N, rfl⟩ : ∃ N : Nat, n = (N : Int) := ⟨n.toNat, by omega⟩
    exact rdig_pos N w (by omega)
  · obtain ⟨N, rfl⟩ : ∃ N : Nat, n = -(N : Int) := ⟨n.natAbs, by omega⟩
    exact rdig_neg N w (by omega) (by omega)
end Go.Proofs.YtlelnoalajeihaaDoor
