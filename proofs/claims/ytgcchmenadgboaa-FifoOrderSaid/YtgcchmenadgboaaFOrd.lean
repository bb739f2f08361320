/- FifoOrder's walk. -/
import Derived.Test.YtgcchmenadgboaaFRst
import Derived.Test.YtgcchmenadgboaaFHS
namespace Go.Proofs.Ytgcchmenadgboaa
open Go.RowKit
set_option linter.unusedVariables false
set_option linter.unusedSimpArgs false
attribute [local go_sem ↓] Go.wp_at_zero Go.wp_at_succ
/-- A slice of texts that came in. -/
def StrRow (w : World) (a : Option Addr) (len cap : Nat) (zs : List ByteArray) : Prop :=
  (a = none ∧ len = 0 ∧ cap = 0 ∧ zs = []) ∨
  ∃ x, a = some x ∧ len ≤ cap ∧ cap ≤ maxLen ∧ zs.length = cap ∧ (∀ i, i < zs.length → w.cell? (x.add i) = some (.string (zs.getD i ByteArray.empty))) ∧ ∀ s ∈ zs, s.size ≤ maxLen
theorem StrRow.row {w : World} {A : Option Addr} {n cap : Nat} {z : List ByteArray} (h : StrRow w A n cap z) : RowOS w A n cap (z.take n) ∧ n ≤ cap ∧ cap ≤ 9223372036854775807 := by
  rcases h with ⟨rfl, rfl, rfl, rfl⟩ | ⟨a, rfl, h1, h2, h3, h4, h5⟩
  · exact ⟨⟨rfl, fun _ => ⟨rfl, rfl⟩, fun a e => by cases e⟩, Nat.le_refl _, by omega⟩
  · unfold maxLen at h2
    refine ⟨⟨by simp; omega, fun e => (by cases e), fun b e => ?_⟩, h1, by omega⟩
    cases e
    intro i x hx
    have hi : i < z.length := by
      have := (List.getElem?_eq_some_iff.1 hx).1
      simp at this; omega
    have hz : z[i]? = some x := by
      rw [List.getElem?_take] at hx
      split at hx
      · exact hx
      · cases hx
    have hg := h4 i hi
    rw [List.getD_eq_getElem?_getD, hz] at hg
    exact hg
/-- A thing of a row that came in, with the address as the walk reckons it. -/
theorem RowOS.at {w : World} {A : Option Addr} {n c i : Nat} {xs : List ByteArray} {x : ByteArray} (h : RowOS w A n c xs) (hx : xs[i]? = some x) : ∃ b o, A = some ⟨b, o, none⟩ ∧ b < w.heap.size ∧ w.cell? ⟨b, o + i, none⟩ = some (.string x) := by
  cases A with
  | none =>
    have h1 := h.nil rfl
    have h2 := (List.getElem?_eq_some_iff.1 hx).1
    have := h.len
    omega
  | some a =>
    obtain ⟨b, o, sp⟩ := a
    have hi := (List.getElem?_eq_some_iff.1 hx).1
    obtain ⟨y, hy⟩ : ∃ y, xs[0]? = some y := ⟨xs[0]'(by omega), List.getElem?_eq_getElem _⟩
    have h0 := h.row _ rfl 0 y hy
    have hb : b < w.heap.size ∧ sp = none := by
      simp only [Addr.add, if_true, World.cell?] at h0
      split at h0
      · rename_i e
        refine ⟨(Array.getElem?_eq_some_iff.1 e).1, ?_⟩
        cases sp with
        | none => rfl
        | some s => simp at h0
      · cases h0
    obtain ⟨hb, rfl⟩ := hb
    have h1 := h.row _ rfl i x hx
    rw [add_none] at h1
    exact ⟨b, o, rfl, hb, h1⟩
theorem midS_snoc {z : List ByteArray} {k o : Nat} {x : ByteArray} (h : z[k]? = some x) (ho : o ≤ k) : (z.take k).drop o ++ [x] = (z.take (k + 1)).drop o := by
  have hk := (List.getElem?_eq_some_iff.1 h).1
  rw [take_one h, List.drop_append_of_le_length (by rw [List.length_take]; omega)]
theorem midS_cons {z : List ByteArray} {k o : Nat} {y : ByteArray} (h : z[o]? = some y) (ho : o < k) : (z.take k).drop o = y :: (z.take k).drop (o + 1) := by
  have hk := (List.getElem?_eq_some_iff.1 h).1
  have := (List.getElem?_eq_some_iff.1 h).2
  rw [← this]
  rw [List.drop_eq_getElem_cons (by rw [List.length_take]; omega)]
  simp
theorem RowOS.get {w : World} {rb ro n c i : Nat} {xs : List ByteArray} {x : ByteArray} (h : RowOS w (some ⟨rb, ro, none⟩) n c xs) (hx : xs[i]? = some x) : w.cell? ⟨rb, ro + i, none⟩ = some (.string x) := by
  obtain ⟨b, o, e, _, h0⟩ := h.at hx
  cases e
  exact h0
set_option maxRecDepth 100000 in
set_option maxHeartbeats 4000000 in
theorem forder_walk (A0 : Option Addr) (n cap : Nat) (z0 : List ByteArray) (bits : Int) (w : World) (hz : StrRow w A0 n cap z0) (hb : in64 bits) : Calls Try.prog 4 #[.slice A0 n cap, .int .i64 bits] w (OkB w) := by
  obtain ⟨hR, hnc, hcm⟩ := hz.row
  generalize z0.take n = z at *
  have hn := hR.len
  have RR := Lib.hid hR
  have AW := Lib.hid awake_any
  have NW := Lib.hid (fun W (hB : Below w.heap.size w W) => in_newS (w0 := w) hB (row_noneS W) (by omega))
  have HN := Lib.hid hn
  clear hR hz hn
  go_enter Try.func4, Try.ntmps4
  go_wp2_with (first
    | (go_at_call 8; (with_reducible refine (AW.out _).mono ?_); rintro e w1 ⟨rfl, hB1⟩)
    | (go_at_call 16; (with_reducible refine (NW.out _ hB1).mono ?_); rintro e w2 ⟨rfl, h2⟩))
  have H0 := Lib.hid h2
  generalize w1.heap.size = b at *
  clear h2 hB1 AW NW
  go_loopw [7, 8] (fun out i wr => ∃ (k o N : Nat), k ≤ n ∧ k ≤ 40 ∧ o ≤ k ∧ N ≤ 200 ∧ out = .int .i64 o ∧ i = .int .i64 k ∧ Hid (InS w b N ((z.take k).drop o) wr)) (fun _ i _ => n - (intOf i).toNat)
  case atStart => exact ⟨0, 0, 0, by omega, by omega, by omega, by omega, rfl, rfl, H0⟩
  case round =>
    obtain ⟨k, o, N, hkn, hk40, hok, hN, rfl, rfl, hI⟩ := hrel
    clear H0
    by_cases hlt : k < n ∧ k < 40
    · obtain ⟨hlt, hlt40⟩ := hlt
      obtain ⟨x, hx⟩ : ∃ x, z[k]? = some x := ⟨z[k]'(by rw [HN.out]; exact hlt), List.getElem?_eq_getElem _⟩
      have hi1 : (k : Int) < (n : Int) := by omega
      have hi2 : (k : Int) < 40 := by omega
      obtain ⟨y, hy⟩ : ∃ y, z[o]? = some y := ⟨z[o]'(by rw [HN.out]; omega), List.getElem?_eq_getElem _⟩
      have ho1 : (o : Int) < (n : Int) := by omega
      have hk0 : (0 : Int) ≤ (k : Int) := by omega
      have ho0 : (0 : Int) ≤ (o : Int) := by omega
      obtain ⟨rb, ro, rfl, -, x0⟩ := (RR.out.later hI.out.b).at hx
      have CY := Lib.hid (fun W (hB : Below w.heap.size w W) => (RR.out.later hB).get hy)
      have hln : ((z.take k).drop o).length = k - o := by rw [List.length_drop, List.length_take, HN.out]; omega
      have PU := Lib.hid (hI.out.push x (by omega))
      rw [hln, midS_snoc hx hok] at PU
      have hN2 : roomUpS N (k - o) ≤ 200 := by unfold roomUpS; split <;> omega
      generalize roomUpS N (k - o) = N2 at *
      have PO := Lib.hid (fun W (h : InS w b N2 ((z.take (k + 1)).drop o) W) => show Calls Try.prog 18 #[.pointer (some ⟨b, 0, none⟩)] W (InPS (.tuple #[.string y, .bool true]) w b N2 ((z.take (k + 1)).drop (o + 1))) from by
        rw [midS_cons hy (by omega)] at h
        exact h.pop)
      have hke : (k : Int) + 1 ≤ 40 := by omega
      clear hx hy hln
      go_wp2_with (first
        | (go_at_call 17; (with_reducible refine PU.out.mono ?_); rintro e w3 ⟨rfl, h3⟩; have y3 := CY.out _ h3.b)
        | (go_at_call 18; (with_reducible refine (PO.out _ h3).mono ?_); rintro e w4 ⟨rfl, h4⟩; have y4 := CY.out _ h4.b))
      · go_roundw
        case rel => exact ⟨k + 1, o + 1, N2, by omega, by omega, by omega, hN2, by go_num, by go_num, Lib.hid h4⟩
        case measure => simp [intOf]; omega
      · go_roundw
        case rel => exact ⟨k + 1, o, N2, by omega, by omega, by omega, hN2, rfl, by go_num, Lib.hid h3⟩
        case measure => simp [intOf]; omega
    · have hmin : min (n : Int) 40 = (k : Int) := by omega
      have hk0 : (0 : Int) ≤ (k : Int) := by omega
      have hk4 : (k : Int) ≤ 40 := by omega
      by_cases hkk : k < n
      · have hi1 : (k : Int) < (n : Int) := by omega
        have hi2 : ¬ ((k : Int) < 40) := by omega
        go_wp2
        go_loopw [7] (fun out wr => ∃ (o : Nat), o ≤ k ∧ out = .int .i64 o ∧ Hid (InS w b N ((z.take k).drop o) wr)) (fun out _ => k - (intOf out).toNat)
        case atStart => exact ⟨o, hok, rfl, hI⟩
        case round =>
          obtain ⟨o2, hok2, rfl, hI2⟩ := hrel
          clear hI
          have ho0 : (0 : Int) ≤ (o2 : Int) := by omega
          by_cases hlo : o2 < k
          · obtain ⟨y, hy⟩ : ∃ y, z[o2]? = some y := ⟨z[o2]'(by rw [HN.out]; omega), List.getElem?_eq_getElem _⟩
            have ho1 : (o2 : Int) < (n : Int) := by omega
            have ho2 : (o2 : Int) < (k : Int) := by omega
            obtain ⟨rb, ro, rfl, -, x0⟩ := (RR.out.later hI2.out.b).at hy
            have CY := Lib.hid (fun W (hB : Below w.heap.size w W) => (RR.out.later hB).get hy)
            have PO := Lib.hid (show Calls Try.prog 18 #[.pointer (some ⟨b, 0, none⟩)] wr (InPS (.tuple #[.string y, .bool true]) w b N ((z.take k).drop (o2 + 1))) from by
              have h := hI2.out
              rw [midS_cons hy (by omega)] at h
              exact h.pop)
            have hke : (o2 : Int) + 1 ≤ 40 := by omega
            clear hy
            go_wp2_with (go_at_call 18; (with_reducible refine PO.out.mono ?_); rintro e w4 ⟨rfl, h4⟩; have y4 := CY.out _ h4.b)
            go_roundw
            case rel => exact ⟨o2 + 1, by omega, by go_num, Lib.hid h4⟩
            case measure => simp [intOf]; omega
          · obtain rfl : o2 = k := by omega
            have PO := Lib.hid (show Calls Try.prog 18 #[.pointer (some ⟨b, 0, none⟩)] wr (InPS (.tuple #[.string { data := #[] }, .bool false]) w b N []) from by
              have h := hI2.out
              rw [List.drop_of_length_le (by rw [List.length_take]; omega)] at h
              exact h.none)
            have LN := Lib.hid (fun W (h : InS w b N [] W) => h.len (n := 0) rfl)
            go_wp2_with (first
              | (go_at_call 18; (with_reducible refine PO.out.mono ?_); rintro e w4 ⟨rfl, h4⟩)
              | (go_at_call 19; (with_reducible refine (LN.out _ h4).mono ?_); rintro e w5 ⟨rfl, rfl⟩))
            go_ret
            exact ⟨rfl, h4.b⟩
      · have hi1 : ¬ ((k : Int) < (n : Int)) := by omega
        go_wp2
        go_loopw [7] (fun out wr => ∃ (o : Nat), o ≤ k ∧ out = .int .i64 o ∧ Hid (InS w b N ((z.take k).drop o) wr)) (fun out _ => k - (intOf out).toNat)
        case atStart => exact ⟨o, hok, rfl, hI⟩
        case round =>
          obtain ⟨o2, hok2, rfl, hI2⟩ := hrel
          clear hI
          have ho0 : (0 : Int) ≤ (o2 : Int) := by omega
          by_cases hlo : o2 < k
          · obtain ⟨y, hy⟩ : ∃ y, z[o2]? = some y := ⟨z[o2]'(by rw [HN.out]; omega), List.getElem?_eq_getElem _⟩
            have ho1 : (o2 : Int) < (n : Int) := by omega
            have ho2 : (o2 : Int) < (k : Int) := by omega
            obtain ⟨rb, ro, rfl, -, x0⟩ := (RR.out.later hI2.out.b).at hy
            have CY := Lib.hid (fun W (hB : Below w.heap.size w W) => (RR.out.later hB).get hy)
            have PO := Lib.hid (show Calls Try.prog 18 #[.pointer (some ⟨b, 0, none⟩)] wr (InPS (.tuple #[.string y, .bool true]) w b N ((z.take k).drop (o2 + 1))) from by
              have h := hI2.out
              rw [midS_cons hy (by omega)] at h
              exact h.pop)
            have hke : (o2 : Int) + 1 ≤ 40 := by omega
            clear hy
            go_wp2_with (go_at_call 18; (with_reducible refine PO.out.mono ?_); rintro e w4 ⟨rfl, h4⟩; have y4 := CY.out _ h4.b)
            go_roundw
            case rel => exact ⟨o2 + 1, by omega, by go_num, Lib.hid h4⟩
            case measure => simp [intOf]; omega
          · obtain rfl : o2 = k := by omega
            have PO := Lib.hid (show Calls Try.prog 18 #[.pointer (some ⟨b, 0, none⟩)] wr (InPS (.tuple #[.string { data := #[] }, .bool false]) w b N []) from by
              have h := hI2.out
              rw [List.drop_of_length_le (by rw [List.length_take]; omega)] at h
              exact h.none)
            have LN := Lib.hid (fun W (h : InS w b N [] W) => h.len (n := 0) rfl)
            go_wp2_with (first
              | (go_at_call 18; (with_reducible refine PO.out.mono ?_); rintro e w4 ⟨rfl, h4⟩)
              | (go_at_call 19; (with_reducible refine (LN.out _ h4).mono ?_); rintro e w5 ⟨rfl, rfl⟩))
            go_ret
            exact ⟨rfl, h4.b⟩
end Go.Proofs.Ytgcchmenadgboaa
