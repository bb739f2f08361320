/- HeapLeast. -/
import Derived.Test.YtebbpgokhelmdaaSrt
namespace Go.Proofs.Ytebbpgokhelmdaa
open Go.RowKit Go.Shelf
set_option linter.unusedVariables false
set_option linter.unusedSimpArgs false
attribute [local go_sem ↓] Go.wp_at_zero Go.wp_at_succ
set_option maxRecDepth 100000 in
set_option maxHeartbeats 4000000 in
theorem hleast_walk (A : Option Addr) (n cap : Nat) (z : List Int) (p : Int) (w : World) (hr : IntRow w A n cap z) (hp : in64 p) : Calls Try.prog 6 #[.slice A n cap, .int .i64 p] w (OkB w) := by
  obtain ⟨hR, hn, h1, h2⟩ := hr.row
  have RR := Lib.hid hR
  clear hR hr
  have NW := Lib.hid (fun W => new_anyI (A := none) (n := 0) (cap := 0) (xs := []) W (fun i x hx => by simp at hx) rfl (by omega) (by omega) (by omega))
  have AW := Lib.hid awake_any
  go_enter Try.func6, Try.ntmps6
  go_wp2_with (first
    | (go_at_call 8; (with_reducible refine (AW.out _).mono ?_); rintro e w1 ⟨rfl, hB1⟩)
    | (go_at_call 18; (with_reducible refine (NW.out _).mono ?_); rintro e w2 ⟨X, rfl, hH2, hB2⟩))
  have hH0 := Lib.hid hH2
  have hB0 := Lib.hid (hB1.trans (hB2.mono hB1.size))
  obtain ⟨B, hB⟩ : ∃ B, B = w1.heap.size := ⟨_, rfl⟩
  rw [← hB] at hH0
  have hwB : w.heap.size ≤ B := by rw [hB]; exact hB1.size
  simp only [← hB]
  clear hH2 hB2 hB1 NW hB
  have hZ := Lib.hid hn
  generalize z.take n = z' at *
  clear hn
  go_loopw [7] (fun i wr => ∃ (k : Nat) (X : List Nat), k ≤ n ∧ k ≤ 40 ∧ i = .int .i64 k ∧ Hid (HsI B wr B X k (allInI (z'.take k))) ∧ Hid (Below w.heap.size w wr)) (fun i _ => n - (intOf i).toNat)
  case atStart => exact ⟨0, X, Nat.zero_le _, Nat.zero_le _, rfl, by rw [List.take_zero]; exact hH0, hB0⟩
  case round =>
    obtain ⟨k, X, hk, hk4, rfl, hH, hL⟩ := hrel
    clear hH0 hB0
    have hk0 : (0 : Int) ≤ (k : Int) := by omega
    have hk5 : (k : Int) ≤ 40 := by omega
    by_cases hlt : k < n ∧ k < 40
    · obtain ⟨hlt, hlt4⟩ := hlt
      obtain ⟨x, hx⟩ : ∃ x, z'[k]? = some x := ⟨z'[k]'(by rw [hZ.out]; exact hlt), List.getElem?_eq_getElem _⟩
      have e1 := take_one hx
      obtain ⟨rb, ro, rfl, hrl, hox, x0⟩ := RR.out.later hL.out k x hx
      have hlen : (allInI (z'.take (k + 1))).length = k + 1 := by rw [(allIn_sortedI _).2.length_eq, List.length_take, hZ.out]; omega
      obtain ⟨m, R, hmr⟩ : ∃ m R, allInI (z'.take (k + 1)) = m :: R := by
        cases h : allInI (z'.take (k + 1)) with
        | nil => rw [h] at hlen; cases hlen
        | cons m R => exact ⟨m, R, rfl⟩
      rw [hmr] at hlen
      have hls := Lib.hid (allIn_leastI hmr)
      have PU := hpushI hH.out hox (by omega)
      rw [← allIn_snocI, ← e1, hmr] at PU
      have PU := Lib.hid PU
      have HN := Lib.hid (show ((m :: R).length : Int) = (k : Int) + 1 by omega)
      have HM := Lib.hid hmr
      have hi1 : (k : Int) < (n : Int) := by omega
      have hi2 : (k : Int) < 40 := by omega
      clear hx e1 hox hmr hlen
      go_wp2_with (first
        | (go_at_call 31; (with_reducible refine PU.out.mono ?_); rintro e w2 ⟨rfl, X2, hH2, hK2, hX2⟩; have HH2 := Lib.hid hH2; have hB2 : Below w.heap.size w w2 := (hL.out.trans (hK2.below hL.out.size (fun j hj => by have := (hH.out.ge j hj).1; omega))); have hl := Below.refl w2.heap.size w2; clear hH2 hK2 hX2)
        | (go_at_call 32; (with_reducible refine (hpeekI (HH2.out.later hl)).mono ?_); rintro e w3 ⟨rfl, hB3⟩; have hl := Below.trans hl (Below.mono hB3 (Below.size hl)); clear hB3)
        | (go_at_call 23; (with_reducible refine (len_isI (HH2.out.later hl) HN.out).mono ?_); rintro e w4 ⟨rfl, rfl⟩))
      have Hl := Lib.hid hl
      have Hb2 := Lib.hid hB2
      clear hl hB2 hL hH x0
      go_loopw [12] (fun j wr => ∃ (q : Nat), q ≤ k + 1 ∧ j = .int .i64 q ∧ Hid (Below w2.heap.size w2 wr)) (fun j _ => k + 1 - (intOf j).toNat)
      case atStart => exact ⟨0, Nat.zero_le _, rfl, Hl⟩
      case round =>
        obtain ⟨q, hq, rfl, hl⟩ := hrel
        clear Hl
        by_cases hqk : q ≤ k
        · obtain ⟨y, hy⟩ : ∃ y, z'[q]? = some y := ⟨z'[q]'(by rw [hZ.out]; omega), List.getElem?_eq_getElem _⟩
          have y0 := (RR.out.later (Hb2.out.trans (hl.out.mono Hb2.out.size))).at hy
          have hmy : ¬ (y < m) := by
            have := hls.out y (List.mem_of_getElem? (i := q) (by rw [List.getElem?_take_of_lt (by omega)]; exact hy))
            omega
          have hq1 : (q : Int) ≤ (k : Int) := by omega
          have hq0 : (0 : Int) ≤ (q : Int) := by omega
          have hq2 : (q : Int) < (n : Int) := by omega
          clear hy
          go_wp2
          go_roundw
          case rel => exact ⟨q + 1, by omega, by go_num, hl⟩
          case measure => simp [intOf]; omega
        · obtain rfl : q = k + 1 := by omega
          have hq1 : ¬ (((k + 1 : Nat) : Int) ≤ (k : Int)) := by omega
          go_wp2
          go_roundw
          case rel => exact ⟨k + 1, X2, by omega, by omega, by go_num, by rw [HM.out]; exact Lib.hid (HH2.out.later hl.out), Lib.hid (Hb2.out.trans (hl.out.mono Hb2.out.size))⟩
          case measure => simp [intOf]; omega
    · have hlen : (allInI (z'.take k)).length = min n 40 := by rw [(allIn_sortedI _).2.length_eq, List.length_take, hZ.out]; omega
      generalize allInI (z'.take k) = L at *
      have HK := Lib.hid hlen
      have hkn : k = min n 40 := by omega
      clear hlen
      have hR := Lib.hid (fun W => rest_any p 45 W hp (by omega) (by omega))
      obtain ⟨hr0, hr1⟩ := restI_bd p 45 (by omega) (by omega)
      generalize restI p 45 = r at *
      obtain ⟨r, rfl⟩ : ∃ r' : Nat, r = (r' : Int) := ⟨r.toNat, by omega⟩
      by_cases hkk : k < n
      · obtain rfl : k = 40 := by omega
        clear hkn
        have HK := Lib.hid (show L.length = 40 by have := HK.out; omega)
        have hi1 : ((40 : Nat) : Int) < (n : Int) := by omega
        have hi3 : ¬ ((n : Int) < 40) := by omega
        have hi4 : ¬ ((n : Int) ≤ 40) := by omega
        go_wp2_with (go_at_call 9; (with_reducible refine (hR.out _).mono ?_); rintro e w2 ⟨rfl, rfl⟩)
        go_loopw [14] (fun j wr => ∃ (q : Nat) (L' : List Int) (X : List Nat), q ≤ r ∧ j = .int .i64 q ∧ Hid (L'.length = L.length - q) ∧ Hid (HsI B wr B X 40 L') ∧ Hid (Below w.heap.size w wr)) (fun j _ => r - (intOf j).toNat)
        case atStart => exact ⟨0, L, X, Nat.zero_le _, rfl, Lib.hid rfl, hH, hL⟩
        case round =>
          obtain ⟨q, L', X2, hq, rfl, hl', hH2, hL2⟩ := hrel
          clear hH hL
          have hq0 : (0 : Int) ≤ (q : Int) := by omega
          by_cases hqr : q < r
          · have hq1 : (q : Int) < (r : Int) := by omega
            cases L' with
            | nil =>
              have PN := Lib.hid (hnilI hH2.out).1
              have HH := Lib.hid (fun w' (hb : Below wr.heap.size wr w') => hH2.out.later hb)
              have hL3 := hL2.out.size
              go_wp2_with (go_at_call 24; (with_reducible refine PN.out.mono ?_); rintro e w3 ⟨rfl, hB3⟩)
              have h1 := HH.out _ hB3
              have h2 := hL2.out.trans (hB3.mono hL3)
              have HH1 := Lib.hid h1
              have HH2 := Lib.hid h2
              clear h1 h2 hB3 HH PN
              go_roundw
              case rel => exact ⟨q + 1, [], X2, by omega, by go_num, Lib.hid (by have := hl'.out; simp at this ⊢; omega), HH1, HH2⟩
              case measure => simp [intOf]; omega
            | cons x L' =>
              have PP := Lib.hid (hpopI hH2.out)
              go_wp2_with (go_at_call 24; (with_reducible refine PP.out.mono ?_); rintro e w3 ⟨rfl, hH3, hK3⟩)
              have h2 : Below w.heap.size w w3 := hL2.out.trans (hK3.below hL2.out.size (fun j hj => by have := (hH2.out.ge j hj).1; omega))
              have HH1 := Lib.hid hH3
              have HH2 := Lib.hid h2
              clear hH3 h2 hK3 PP
              go_roundw
              case rel => exact ⟨q + 1, L', X2, by omega, by go_num, Lib.hid (by have := hl'.out; simp at this ⊢; omega), HH1, HH2⟩
              case measure => simp [intOf]; omega
          · obtain rfl : q = r := by omega
            have HN := Lib.hid (show (L'.length : Int) = ((40 - q : Nat) : Int) by have := hl'.out; have := HK.out; omega)
            by_cases hkq : q ≤ 40
            · have hz : ((40 - q : Nat) : Int) = (40 : Int) - (q : Int) := by omega
              rw [hz] at HN
              have hz1 : (0 : Int) ≤ (40 : Int) - (q : Int) := by omega
              have hz2 : ¬ ((40 : Int) - (q : Int) < 0) := by omega
              have hz3 : (40 : Int) - (q : Int) ≤ 40 := by omega
              clear hz
              go_wp2_with (go_at_call 23; (with_reducible refine (len_isI hH2.out HN.out).mono ?_); rintro e w4 ⟨rfl, rfl⟩)
              go_ret
              exact ⟨rfl, hL2.out⟩
            · have hz : ((40 - q : Nat) : Int) = 0 := by omega
              rw [hz] at HN
              have hz1 : (40 : Int) - (q : Int) < 0 := by omega
              have hz2 : ¬ (0 ≤ (40 : Int) - (q : Int)) := by omega
              have hz3 : -45 ≤ (40 : Int) - (q : Int) := by omega
              clear hz
              go_wp2_with (go_at_call 23; (with_reducible refine (len_isI hH2.out HN.out).mono ?_); rintro e w4 ⟨rfl, rfl⟩)
              go_ret
              exact ⟨rfl, hL2.out⟩
      · obtain rfl : k = n := by omega
        clear hkn
        have HK := Lib.hid (show L.length = k by have := HK.out; omega)
        have hi4 : ¬ (40 < (k : Int)) := by omega
        go_wp2_with (go_at_call 9; (with_reducible refine (hR.out _).mono ?_); rintro e w2 ⟨rfl, rfl⟩)
        go_loopw [14] (fun j wr => ∃ (q : Nat) (L' : List Int) (X : List Nat), q ≤ r ∧ j = .int .i64 q ∧ Hid (L'.length = L.length - q) ∧ Hid (HsI B wr B X k L') ∧ Hid (Below w.heap.size w wr)) (fun j _ => r - (intOf j).toNat)
        case atStart => exact ⟨0, L, X, Nat.zero_le _, rfl, Lib.hid rfl, hH, hL⟩
        case round =>
          obtain ⟨q, L', X2, hq, rfl, hl', hH2, hL2⟩ := hrel
          clear hH hL
          have hq0 : (0 : Int) ≤ (q : Int) := by omega
          by_cases hqr : q < r
          · have hq1 : (q : Int) < (r : Int) := by omega
            cases L' with
            | nil =>
              have PN := Lib.hid (hnilI hH2.out).1
              have HH := Lib.hid (fun w' (hb : Below wr.heap.size wr w') => hH2.out.later hb)
              have hL3 := hL2.out.size
              go_wp2_with (go_at_call 24; (with_reducible refine PN.out.mono ?_); rintro e w3 ⟨rfl, hB3⟩)
              have h1 := HH.out _ hB3
              have h2 := hL2.out.trans (hB3.mono hL3)
              have HH1 := Lib.hid h1
              have HH2 := Lib.hid h2
              clear h1 h2 hB3 HH PN
              go_roundw
              case rel => exact ⟨q + 1, [], X2, by omega, by go_num, Lib.hid (by have := hl'.out; simp at this ⊢; omega), HH1, HH2⟩
              case measure => simp [intOf]; omega
            | cons x L' =>
              have PP := Lib.hid (hpopI hH2.out)
              go_wp2_with (go_at_call 24; (with_reducible refine PP.out.mono ?_); rintro e w3 ⟨rfl, hH3, hK3⟩)
              have h2 : Below w.heap.size w w3 := hL2.out.trans (hK3.below hL2.out.size (fun j hj => by have := (hH2.out.ge j hj).1; omega))
              have HH1 := Lib.hid hH3
              have HH2 := Lib.hid h2
              clear hH3 h2 hK3 PP
              go_roundw
              case rel => exact ⟨q + 1, L', X2, by omega, by go_num, Lib.hid (by have := hl'.out; simp at this ⊢; omega), HH1, HH2⟩
              case measure => simp [intOf]; omega
          · obtain rfl : q = r := by omega
            have HN := Lib.hid (show (L'.length : Int) = ((k - q : Nat) : Int) by have := hl'.out; have := HK.out; omega)
            by_cases hkq : q ≤ k
            · have hz : ((k - q : Nat) : Int) = (k : Int) - (q : Int) := by omega
              rw [hz] at HN
              have hz1 : (0 : Int) ≤ (k : Int) - (q : Int) := by omega
              have hz2 : ¬ ((k : Int) - (q : Int) < 0) := by omega
              have hz3 : (k : Int) - (q : Int) ≤ 40 := by omega
              clear hz
              go_wp2_with (go_at_call 23; (with_reducible refine (len_isI hH2.out HN.out).mono ?_); rintro e w4 ⟨rfl, rfl⟩)
              go_ret
              exact ⟨rfl, hL2.out⟩
            · have hz : ((k - q : Nat) : Int) = 0 := by omega
              rw [hz] at HN
              have hz1 : (k : Int) - (q : Int) < 0 := by omega
              have hz2 : ¬ (0 ≤ (k : Int) - (q : Int)) := by omega
              have hz3 : -45 ≤ (k : Int) - (q : Int) := by omega
              clear hz
              go_wp2_with (go_at_call 23; (with_reducible refine (len_isI hH2.out HN.out).mono ?_); rintro e w4 ⟨rfl, rfl⟩)
              go_ret
              exact ⟨rfl, hL2.out⟩
end Go.Proofs.Ytebbpgokhelmdaa
