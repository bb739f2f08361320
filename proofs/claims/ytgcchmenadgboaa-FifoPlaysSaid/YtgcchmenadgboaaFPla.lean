/- FifoPlays' walk. -/
import Derived.Test.YtgcchmenadgboaaFPl
namespace Go.Proofs.Ytgcchmenadgboaa
open Go.RowKit
set_option linter.unusedVariables false
set_option linter.unusedSimpArgs false
attribute [local go_sem ↓] Go.wp_at_zero Go.wp_at_succ
set_option maxRecDepth 100000 in
set_option maxHeartbeats 8000000 in
theorem fplays_walk (A : Option Addr) (n0 cap : Nat) (z : List Int) (A' : Option Addr) (n' cap' : Nat) (z' : List Int) (w : World) (hr : IntRow w A n0 cap z) (hr' : IntRow w A' n' cap' z') : Calls Try.prog 3 #[.slice A n0 cap, .slice A' n' cap'] w (OkB w) := by
  obtain ⟨hR, h1, h2, -⟩ := hr.row
  obtain ⟨hR', h1', h2', hin⟩ := hr'.row
  have HIN := Lib.hid (show ∀ x ∈ z'.take n', in64 x from fun x hx => hin x (List.mem_of_mem_take hx))
  clear hr hr' hin
  have AW := Lib.hid awake_any
  generalize z.take n0 = zs at *
  generalize z'.take n' = ts at *
  have HT := Lib.hid hR'
  have HTL := Lib.hid (show ts.length = n' from hR'.len)
  clear hR'
  go_enter Try.func3, Try.ntmps3
  rcases Nat.lt_or_ge 12 n0 with hc | hc
  · have hci : (12 : Int) < (n0 : Int) := by omega
    have hci2 : (12 : Int) ≤ (cap : Int) := by omega
    obtain ⟨m, xs, hm12, hmc, RX⟩ : ∃ (m : Nat) (xs : List Int), 12 = m ∧ m ≤ cap ∧ Hid (RowOI w A m cap xs) := ⟨12, zs.take 12, rfl, by omega, Lib.hid (hR.cut (by omega))⟩
    clear hR
    go_upto_region 4 with (go_at_call 8; (with_reducible refine (AW.out _).mono ?_); rintro e w1 ⟨rfl, hB1⟩)
    (try rw [show Value.slice A 12 cap = Value.slice A m cap by rw [hm12]])
    have hm30 : m ≤ 12 := by omega
    clear hci hci2 hm12 hc
    have HL := Lib.hid (show xs.length = m from RX.out.len)
    have NW := Lib.hid (qnewI w1 (RX.out.later hB1) (by omega))
    go_upto_region 6 with (go_at_call 9; (with_reducible refine NW.out.mono ?_); rintro e w2 ⟨rfl, ⟨X, hQ⟩, hB2⟩)
    obtain ⟨W, hW, S0⟩ : ∃ W, w2.alloc (.cells #[.slice none 0 0, .int .i64 0] 28) = W ∧ Hid (Pl w w1.heap.size w2.heap.size m 0 xs [] W) := by
      have hb := (Below.refl w2.heap.size w2).alloc (Nat.le_refl _) (.cells #[.slice none 0 0, .int .i64 0] 28)
      have hs1 := hB1.size
      have hs2 := hB2.size
      refine ⟨_, rfl, Lib.hid ⟨⟨w1.heap.size, X, [w2.heap.size], hQ.later hb, ⟨⟨none, 0, heap_alloc_new w2 _, .inl ⟨rfl, rfl, rfl⟩⟩, by simp⟩, fun k hk hy => ?_, hs1, fun k hk => ?_⟩, (hB1.trans (hB2.mono hs1)).trans (hb.mono (by omega))⟩⟩
      · have := (hQ.ge k hk).2
        simp at hy; omega
      · simp at hk; subst hk; simp; omega
    rw [hW]
    clear hW hQ hB1 hB2 NW
    generalize w1.heap.size = b at *
    generalize w2.heap.size = bm at *
    go_wp2
    go_loopw [8] (fun i wr => ∃ k : Nat, k ≤ m ∧ i = .int .i64 k ∧ Hid (Pl w b bm m k xs (xs.take k) wr)) (fun i _ => m - (intOf i).toNat)
    case atStart => exact ⟨0, by omega, rfl, S0⟩
    case round =>
      obtain ⟨k, hk, rfl, hS⟩ := hrel
      clear S0
      have hi0 : (0 : Int) ≤ (k : Int) := by omega
      by_cases hlt : k < m
      · obtain ⟨x, hx⟩ : ∃ x, xs[k]? = some x := ⟨xs[k]'(by rw [HL.out]; exact hlt), List.getElem?_eq_getElem _⟩
        have hlk : (xs.take k).length = k := by rw [List.length_take, HL.out]; omega
        obtain ⟨rb, ro, rfl, -, cx⟩ := (RX.out.later hS.out.b).at hx
        have PM := Lib.hid (hS.out.pushM x (by omega) (by omega))
        rw [hlk, ← take_one hx, show max k (k + 1) = k + 1 by omega] at PM
        have hi1 : (k : Int) < (m : Int) := by omega
        clear hx hlk
        go_wp2_with (go_at_call 10; (with_reducible refine PM.out.mono ?_); rintro e w3 ⟨rfl, h3⟩)
        go_roundw
        case rel => exact ⟨k + 1, by omega, by go_num, Lib.hid h3⟩
        case measure => simp [intOf]; omega
      · obtain rfl : k = m := by omega
        have hS1 := hS.out
        rw [List.take_of_length_le (by rw [HL.out]; exact Nat.le_refl _)] at hS1
        have T0 := Lib.hid hS1
        have hXL : xs.length ≤ 12 := by rw [HL.out]; exact hm30
        have hXk : xs.length ≤ k := by rw [HL.out]; exact Nat.le_refl _
        clear hS1
        go_wp2
        go_loopw [10, 9] (fun i nn wr => ∃ (q N most a : Nat) (L : List Int), q ≤ n' ∧ q ≤ 40 ∧ i = .int .i64 q ∧ nn = .int .i64 (a : Int) ∧ a ≤ 100 + 8 * q ∧ L.length ≤ most ∧ N ≤ 2 * most + 4 ∧ most ≤ 12 + 8 * q ∧ Hid (Pl w b bm N most L L wr)) (fun i _ _ => n' - (intOf i).toNat)
        case atStart => exact ⟨0, k, k, 100, xs, by omega, by omega, rfl, rfl, by omega, by omega, by omega, by omega, T0⟩
        case round =>
          obtain ⟨q, N, most, a, L, hq, hq4, rfl, rfl, ha, hLm, hN, hmo, hP⟩ := hrel
          clear T0 hS hXL hXk
          have hq0 : (0 : Int) ≤ (q : Int) := by omega
          by_cases hlt : q < n' ∧ q < 40
          · obtain ⟨hlt, hlt4⟩ := hlt
            have hi1 : (q : Int) < (n' : Int) := by omega
            have hi2 : (q : Int) < 40 := by omega
            obtain ⟨x, hx⟩ : ∃ x, ts[q]? = some x := ⟨ts[q]'(by rw [HTL.out]; exact hlt), List.getElem?_eq_getElem _⟩
            have hox := HIN.out x (List.mem_of_getElem? hx)
            obtain ⟨rb, ro, rfl, -, cx⟩ := (HT.out.later hP.out.b).at hx
            have CX := Lib.hid (fun V (hB : Below w.heap.size w V) => (HT.out.later hB).get hx)
            obtain ⟨hr0, hr1⟩ := restI_bd x 8 (by omega) (by omega)
            have R1 := Lib.hid (fun W => rest_any x 8 W hox (by omega) (by omega))
            have hox8 : in64 (wrap64 (x.tdiv 8)) := by
              unfold in64 at hox
              have : -9223372036854775808 ≤ x.tdiv 8 ∧ x.tdiv 8 ≤ 9223372036854775807 := by
                rcases Int.le_total 0 x with h | h
                · rw [Int.tdiv_eq_ediv_of_nonneg h]; omega
                · obtain ⟨y, rfl⟩ : ∃ y, x = -y := ⟨-x, by omega⟩
                  rw [Int.neg_tdiv, Int.tdiv_eq_ediv_of_nonneg (by omega)]; omega
              rw [IntWalk.wrap64_in _ (by omega)]; unfold in64; exact this
            obtain ⟨hs0, hs1⟩ := restI_bd (wrap64 (x.tdiv 8)) 8 (by omega) (by omega)
            have R2 := Lib.hid (fun W => rest_any (wrap64 (x.tdiv 8)) 8 W hox8 (by omega) (by omega))
            have HO := Lib.hid hox
            clear hx hox hox8
            generalize restI x 8 = r at *
            generalize restI (wrap64 (x.tdiv 8)) 8 = s at *
            obtain ⟨r, rfl⟩ : ∃ r' : Nat, r = (r' : Int) := ⟨r.toNat, by omega⟩
            obtain ⟨s, rfl⟩ : ∃ s' : Nat, s = (s' : Int) := ⟨s.toNat, by omega⟩
            go_wp2
            go_loopw [11, 9] (fun j nn wr => ∃ (p N most a : Nat) (L : List Int), p ≤ r ∧ j = .int .i64 p ∧ nn = .int .i64 (a : Int) ∧ a ≤ 100 + 8 * q + p ∧ L.length ≤ most ∧ N ≤ 2 * most + 4 ∧ most ≤ 12 + 8 * q + p ∧ Hid (Pl w b bm N most L L wr)) (fun j _ _ => r - (intOf j).toNat)
            case atStart => exact ⟨0, N, most, a, L, by omega, rfl, rfl, by omega, hLm, hN, by omega, hP⟩
            case round =>
              obtain ⟨p, N, most, a, L, hp, rfl, rfl, ha, hLm, hN, hmo, hP2⟩ := hrel
              have cx := CX.out _ hP2.out.b
              have hp0 : (0 : Int) ≤ (p : Int) := by omega
              by_cases hpr : p < r
              · have hp1 : (p : Int) < (r : Int) := by omega
                have PQ := Lib.hid (hP2.out.pushQ (a : Int) (by omega))
                have PM := Lib.hid (fun N' V (h : Pl w b bm N' most (L ++ [(a : Int)]) L V) => h.pushM (a : Int) (by omega) (by omega))
                have hN2 : roomUpI N L.length ≤ 2 * max most (L.length + 1) + 4 := by unfold roomUpI; split <;> omega
                have hl2 : (L ++ [(a : Int)]).length ≤ max most (L.length + 1) := by simp; omega
                have hm2 : max most (L.length + 1) ≤ 12 + 8 * q + (p + 1) := by omega
                have ha2 : (a : Int) ≤ 1000 := by omega
                generalize roomUpI N L.length = N2 at *
                generalize max most (L.length + 1) = most2 at *
                generalize L ++ [(a : Int)] = L2 at *
                go_wp2_with (first
                  | (go_at_call 11; (with_reducible refine (R1.out _).mono ?_); rintro e w2 ⟨rfl, rfl⟩)
                  | (go_at_call 12; (with_reducible refine PQ.out.mono ?_); rintro e w3 ⟨rfl, h3⟩)
                  | (go_at_call 10; (with_reducible refine (PM.out _ _ h3).mono ?_); rintro e w4 ⟨rfl, h4⟩))
                go_roundw
                case rel => exact ⟨p + 1, N2, most2, a + 1, L2, by omega, by go_num, by go_num, by omega, hl2, hN2, hm2, Lib.hid h4⟩
                case measure => simp [intOf]; omega
              · obtain rfl : p = r := by omega
                go_wp2_with (go_at_call 11; (with_reducible refine (R1.out _).mono ?_); rintro e w2 ⟨rfl, rfl⟩)
                clear hP
                go_loopw [12] (fun j wr => ∃ (y : Nat) (L : List Int), y ≤ s ∧ j = .int .i64 y ∧ L.length ≤ most ∧ Hid (Pl w b bm N most L L wr)) (fun j _ => s - (intOf j).toNat)
                case atStart => exact ⟨0, L, by omega, rfl, hLm, hP2⟩
                case round =>
                  obtain ⟨y, L, hy, rfl, hLm, hP3⟩ := hrel
                  clear hP2
                  have cx := CX.out _ hP3.out.b
                  have hy0 : (0 : Int) ≤ (y : Int) := by omega
                  by_cases hys : y < s
                  · have hy1 : (y : Int) < (s : Int) := by omega
                    obtain ⟨Am, cm, c0⟩ := hP3.out.cell
                    cases L with
                    | nil =>
                      have PQ := Lib.hid hP3.out.noneQ
                      have PM := Lib.hid (fun V (h : Pl w b bm N most [] [] V) => h.noneM)
                      simp only [List.length_nil] at c0
                      go_wp2_with (first
                        | (go_at_call 11; (with_reducible refine (R2.out _).mono ?_); rintro e w2 ⟨rfl, rfl⟩)
                        | (go_at_call 13; (with_reducible refine PQ.out.mono ?_); rintro e w3 ⟨rfl, h3⟩)
                        | (go_at_call 14; (with_reducible refine (PM.out _ h3).mono ?_); rintro e w4 ⟨rfl, h4⟩))
                      go_roundw
                      case rel => exact ⟨y + 1, [], by omega, by go_num, by simp, Lib.hid h4⟩
                      case measure => simp [intOf]; omega
                    | cons v L =>
                      have PQ := Lib.hid hP3.out.popQ
                      simp only [List.length_cons] at c0 hLm
                      have PM := Lib.hid (fun V (h : Pl w b bm N most L (v :: L) V) => h.popM (by omega))
                      obtain ⟨ll, hll⟩ : ∃ ll, L.length = ll := ⟨_, rfl⟩
                      have HLL := Lib.hid hll
                      rw [hll] at c0 hLm
                      have hl0 : (0 : Int) < (ll : Int) + 1 := by omega
                      have hl1 : (0 : Int) < ((ll + 1 : Nat) : Int) := by omega
                      clear hll
                      go_wp2_with (first
                        | (go_at_call 11; (with_reducible refine (R2.out _).mono ?_); rintro e w2 ⟨rfl, rfl⟩)
                        | (go_at_call 13; (with_reducible refine PQ.out.mono ?_); rintro e w3 ⟨rfl, h3⟩)
                        | (go_at_call 14; (with_reducible refine (PM.out _ h3).mono ?_); rintro e w4 ⟨rfl, h4⟩))
                      go_roundw
                      case rel => exact ⟨y + 1, L, by omega, by go_num, by rw [HLL.out]; omega, Lib.hid h4⟩
                      case measure => simp [intOf]; omega
                  · obtain rfl : y = s := by omega
                    have LK := Lib.hid (hP3.out.looks (by omega) (by omega) (by omega))
                    go_wp2_with (first
                      | (go_at_call 11; (with_reducible refine (R2.out _).mono ?_); rintro e w2 ⟨rfl, rfl⟩)
                      | (go_at_call 15; (with_reducible refine LK.out.mono ?_); rintro e w3 ⟨rfl, h3⟩))
                    go_roundw
                    case rel => exact ⟨q + 1, N, most, a, L, by omega, by omega, by go_num, rfl, by omega, hLm, hN, by omega, Lib.hid h3⟩
                    case measure => simp [intOf]; omega
          · by_cases hkk : q < n'
            · obtain rfl : q = 40 := by omega
              have hi1 : ((40 : Nat) : Int) < (n' : Int) := by omega
              go_wp2
              go_ret
              exact ⟨rfl, hP.out.b⟩
            · obtain rfl : q = n' := by omega
              go_wp2
              go_ret
              exact ⟨rfl, hP.out.b⟩
  · have hci : ¬ ((12 : Int) < (n0 : Int)) := by omega
    have hci2 : (n0 : Int) ≤ 12 := by omega
    obtain ⟨m, xs, hm12, hmc, RX⟩ : ∃ (m : Nat) (xs : List Int), n0 = m ∧ m ≤ cap ∧ Hid (RowOI w A m cap xs) := ⟨n0, zs, rfl, by omega, Lib.hid hR⟩
    clear hR
    go_upto_region 4 with (go_at_call 8; (with_reducible refine (AW.out _).mono ?_); rintro e w1 ⟨rfl, hB1⟩)
    subst hm12
    have hm30 : n0 ≤ 12 := hc
    clear hci hci2 hc
    have HL := Lib.hid (show xs.length = n0 from RX.out.len)
    have NW := Lib.hid (qnewI w1 (RX.out.later hB1) (by omega))
    go_upto_region 6 with (go_at_call 9; (with_reducible refine NW.out.mono ?_); rintro e w2 ⟨rfl, ⟨X, hQ⟩, hB2⟩)
    obtain ⟨W, hW, S0⟩ : ∃ W, w2.alloc (.cells #[.slice none 0 0, .int .i64 0] 28) = W ∧ Hid (Pl w w1.heap.size w2.heap.size n0 0 xs [] W) := by
      have hb := (Below.refl w2.heap.size w2).alloc (Nat.le_refl _) (.cells #[.slice none 0 0, .int .i64 0] 28)
      have hs1 := hB1.size
      have hs2 := hB2.size
      refine ⟨_, rfl, Lib.hid ⟨⟨w1.heap.size, X, [w2.heap.size], hQ.later hb, ⟨⟨none, 0, heap_alloc_new w2 _, .inl ⟨rfl, rfl, rfl⟩⟩, by simp⟩, fun k hk hy => ?_, hs1, fun k hk => ?_⟩, (hB1.trans (hB2.mono hs1)).trans (hb.mono (by omega))⟩⟩
      · have := (hQ.ge k hk).2
        simp at hy; omega
      · simp at hk; subst hk; simp; omega
    rw [hW]
    clear hW hQ hB1 hB2 NW
    generalize w1.heap.size = b at *
    generalize w2.heap.size = bm at *
    go_wp2
    go_loopw [8] (fun i wr => ∃ k : Nat, k ≤ n0 ∧ i = .int .i64 k ∧ Hid (Pl w b bm n0 k xs (xs.take k) wr)) (fun i _ => n0 - (intOf i).toNat)
    case atStart => exact ⟨0, by omega, rfl, S0⟩
    case round =>
      obtain ⟨k, hk, rfl, hS⟩ := hrel
      clear S0
      have hi0 : (0 : Int) ≤ (k : Int) := by omega
      by_cases hlt : k < n0
      · obtain ⟨x, hx⟩ : ∃ x, xs[k]? = some x := ⟨xs[k]'(by rw [HL.out]; exact hlt), List.getElem?_eq_getElem _⟩
        have hlk : (xs.take k).length = k := by rw [List.length_take, HL.out]; omega
        obtain ⟨rb, ro, rfl, -, cx⟩ := (RX.out.later hS.out.b).at hx
        have PM := Lib.hid (hS.out.pushM x (by omega) (by omega))
        rw [hlk, ← take_one hx, show max k (k + 1) = k + 1 by omega] at PM
        have hi1 : (k : Int) < (n0 : Int) := by omega
        clear hx hlk
        go_wp2_with (go_at_call 10; (with_reducible refine PM.out.mono ?_); rintro e w3 ⟨rfl, h3⟩)
        go_roundw
        case rel => exact ⟨k + 1, by omega, by go_num, Lib.hid h3⟩
        case measure => simp [intOf]; omega
      · obtain rfl : k = n0 := by omega
        have hS1 := hS.out
        rw [List.take_of_length_le (by rw [HL.out]; exact Nat.le_refl _)] at hS1
        have T0 := Lib.hid hS1
        have hXL : xs.length ≤ 12 := by rw [HL.out]; exact hm30
        have hXk : xs.length ≤ k := by rw [HL.out]; exact Nat.le_refl _
        clear hS1
        go_wp2
        go_loopw [10, 9] (fun i nn wr => ∃ (q N most a : Nat) (L : List Int), q ≤ n' ∧ q ≤ 40 ∧ i = .int .i64 q ∧ nn = .int .i64 (a : Int) ∧ a ≤ 100 + 8 * q ∧ L.length ≤ most ∧ N ≤ 2 * most + 4 ∧ most ≤ 12 + 8 * q ∧ Hid (Pl w b bm N most L L wr)) (fun i _ _ => n' - (intOf i).toNat)
        case atStart => exact ⟨0, k, k, 100, xs, by omega, by omega, rfl, rfl, by omega, by omega, by omega, by omega, T0⟩
        case round =>
          obtain ⟨q, N, most, a, L, hq, hq4, rfl, rfl, ha, hLm, hN, hmo, hP⟩ := hrel
          clear T0 hS hXL hXk
          have hq0 : (0 : Int) ≤ (q : Int) := by omega
          by_cases hlt : q < n' ∧ q < 40
          · obtain ⟨hlt, hlt4⟩ := hlt
            have hi1 : (q : Int) < (n' : Int) := by omega
            have hi2 : (q : Int) < 40 := by omega
            obtain ⟨x, hx⟩ : ∃ x, ts[q]? = some x := ⟨ts[q]'(by rw [HTL.out]; exact hlt), List.getElem?_eq_getElem _⟩
            have hox := HIN.out x (List.mem_of_getElem? hx)
            obtain ⟨rb, ro, rfl, -, cx⟩ := (HT.out.later hP.out.b).at hx
            have CX := Lib.hid (fun V (hB : Below w.heap.size w V) => (HT.out.later hB).get hx)
            obtain ⟨hr0, hr1⟩ := restI_bd x 8 (by omega) (by omega)
            have R1 := Lib.hid (fun W => rest_any x 8 W hox (by omega) (by omega))
            have hox8 : in64 (wrap64 (x.tdiv 8)) := by
              unfold in64 at hox
              have : -9223372036854775808 ≤ x.tdiv 8 ∧ x.tdiv 8 ≤ 9223372036854775807 := by
                rcases Int.le_total 0 x with h | h
                · rw [Int.tdiv_eq_ediv_of_nonneg h]; omega
                · obtain ⟨y, rfl⟩ : ∃ y, x = -y := ⟨-x, by omega⟩
                  rw [Int.neg_tdiv, Int.tdiv_eq_ediv_of_nonneg (by omega)]; omega
              rw [IntWalk.wrap64_in _ (by omega)]; unfold in64; exact this
            obtain ⟨hs0, hs1⟩ := restI_bd (wrap64 (x.tdiv 8)) 8 (by omega) (by omega)
            have R2 := Lib.hid (fun W => rest_any (wrap64 (x.tdiv 8)) 8 W hox8 (by omega) (by omega))
            have HO := Lib.hid hox
            clear hx hox hox8
            generalize restI x 8 = r at *
            generalize restI (wrap64 (x.tdiv 8)) 8 = s at *
            obtain ⟨r, rfl⟩ : ∃ r' : Nat, r = (r' : Int) := ⟨r.toNat, by omega⟩
            obtain ⟨s, rfl⟩ : ∃ s' : Nat, s = (s' : Int) := ⟨s.toNat, by omega⟩
            go_wp2
            go_loopw [11, 9] (fun j nn wr => ∃ (p N most a : Nat) (L : List Int), p ≤ r ∧ j = .int .i64 p ∧ nn = .int .i64 (a : Int) ∧ a ≤ 100 + 8 * q + p ∧ L.length ≤ most ∧ N ≤ 2 * most + 4 ∧ most ≤ 12 + 8 * q + p ∧ Hid (Pl w b bm N most L L wr)) (fun j _ _ => r - (intOf j).toNat)
            case atStart => exact ⟨0, N, most, a, L, by omega, rfl, rfl, by omega, hLm, hN, by omega, hP⟩
            case round =>
              obtain ⟨p, N, most, a, L, hp, rfl, rfl, ha, hLm, hN, hmo, hP2⟩ := hrel
              have cx := CX.out _ hP2.out.b
              have hp0 : (0 : Int) ≤ (p : Int) := by omega
              by_cases hpr : p < r
              · have hp1 : (p : Int) < (r : Int) := by omega
                have PQ := Lib.hid (hP2.out.pushQ (a : Int) (by omega))
                have PM := Lib.hid (fun N' V (h : Pl w b bm N' most (L ++ [(a : Int)]) L V) => h.pushM (a : Int) (by omega) (by omega))
                have hN2 : roomUpI N L.length ≤ 2 * max most (L.length + 1) + 4 := by unfold roomUpI; split <;> omega
                have hl2 : (L ++ [(a : Int)]).length ≤ max most (L.length + 1) := by simp; omega
                have hm2 : max most (L.length + 1) ≤ 12 + 8 * q + (p + 1) := by omega
                have ha2 : (a : Int) ≤ 1000 := by omega
                generalize roomUpI N L.length = N2 at *
                generalize max most (L.length + 1) = most2 at *
                generalize L ++ [(a : Int)] = L2 at *
                go_wp2_with (first
                  | (go_at_call 11; (with_reducible refine (R1.out _).mono ?_); rintro e w2 ⟨rfl, rfl⟩)
                  | (go_at_call 12; (with_reducible refine PQ.out.mono ?_); rintro e w3 ⟨rfl, h3⟩)
                  | (go_at_call 10; (with_reducible refine (PM.out _ _ h3).mono ?_); rintro e w4 ⟨rfl, h4⟩))
                go_roundw
                case rel => exact ⟨p + 1, N2, most2, a + 1, L2, by omega, by go_num, by go_num, by omega, hl2, hN2, hm2, Lib.hid h4⟩
                case measure => simp [intOf]; omega
              · obtain rfl : p = r := by omega
                go_wp2_with (go_at_call 11; (with_reducible refine (R1.out _).mono ?_); rintro e w2 ⟨rfl, rfl⟩)
                clear hP
                go_loopw [12] (fun j wr => ∃ (y : Nat) (L : List Int), y ≤ s ∧ j = .int .i64 y ∧ L.length ≤ most ∧ Hid (Pl w b bm N most L L wr)) (fun j _ => s - (intOf j).toNat)
                case atStart => exact ⟨0, L, by omega, rfl, hLm, hP2⟩
                case round =>
                  obtain ⟨y, L, hy, rfl, hLm, hP3⟩ := hrel
                  clear hP2
                  have cx := CX.out _ hP3.out.b
                  have hy0 : (0 : Int) ≤ (y : Int) := by omega
                  by_cases hys : y < s
                  · have hy1 : (y : Int) < (s : Int) := by omega
                    obtain ⟨Am, cm, c0⟩ := hP3.out.cell
                    cases L with
                    | nil =>
                      have PQ := Lib.hid hP3.out.noneQ
                      have PM := Lib.hid (fun V (h : Pl w b bm N most [] [] V) => h.noneM)
                      simp only [List.length_nil] at c0
                      go_wp2_with (first
                        | (go_at_call 11; (with_reducible refine (R2.out _).mono ?_); rintro e w2 ⟨rfl, rfl⟩)
                        | (go_at_call 13; (with_reducible refine PQ.out.mono ?_); rintro e w3 ⟨rfl, h3⟩)
                        | (go_at_call 14; (with_reducible refine (PM.out _ h3).mono ?_); rintro e w4 ⟨rfl, h4⟩))
                      go_roundw
                      case rel => exact ⟨y + 1, [], by omega, by go_num, by simp, Lib.hid h4⟩
                      case measure => simp [intOf]; omega
                    | cons v L =>
                      have PQ := Lib.hid hP3.out.popQ
                      simp only [List.length_cons] at c0 hLm
                      have PM := Lib.hid (fun V (h : Pl w b bm N most L (v :: L) V) => h.popM (by omega))
                      obtain ⟨ll, hll⟩ : ∃ ll, L.length = ll := ⟨_, rfl⟩
                      have HLL := Lib.hid hll
                      rw [hll] at c0 hLm
                      have hl0 : (0 : Int) < (ll : Int) + 1 := by omega
                      have hl1 : (0 : Int) < ((ll + 1 : Nat) : Int) := by omega
                      clear hll
                      go_wp2_with (first
                        | (go_at_call 11; (with_reducible refine (R2.out _).mono ?_); rintro e w2 ⟨rfl, rfl⟩)
                        | (go_at_call 13; (with_reducible refine PQ.out.mono ?_); rintro e w3 ⟨rfl, h3⟩)
                        | (go_at_call 14; (with_reducible refine (PM.out _ h3).mono ?_); rintro e w4 ⟨rfl, h4⟩))
                      go_roundw
                      case rel => exact ⟨y + 1, L, by omega, by go_num, by rw [HLL.out]; omega, Lib.hid h4⟩
                      case measure => simp [intOf]; omega
                  · obtain rfl : y = s := by omega
                    have LK := Lib.hid (hP3.out.looks (by omega) (by omega) (by omega))
                    go_wp2_with (first
                      | (go_at_call 11; (with_reducible refine (R2.out _).mono ?_); rintro e w2 ⟨rfl, rfl⟩)
                      | (go_at_call 15; (with_reducible refine LK.out.mono ?_); rintro e w3 ⟨rfl, h3⟩))
                    go_roundw
                    case rel => exact ⟨q + 1, N, most, a, L, by omega, by omega, by go_num, rfl, by omega, hLm, hN, by omega, Lib.hid h3⟩
                    case measure => simp [intOf]; omega
          · by_cases hkk : q < n'
            · obtain rfl : q = 40 := by omega
              have hi1 : ((40 : Nat) : Int) < (n' : Int) := by omega
              go_wp2
              go_ret
              exact ⟨rfl, hP.out.b⟩
            · obtain rfl : q = n' := by omega
              go_wp2
              go_ret
              exact ⟨rfl, hP.out.b⟩
end Go.Proofs.Ytgcchmenadgboaa
