/- Texts about the program, one after the other: SPw. -/
import Derived.Test.YtnplbmbbocffbaaG11
/- StreamParts: the walk. -/
namespace Go.Proofs.Ytnplbmbbocffbaa
open Go.RowKit Go.Shelf
set_option linter.unusedVariables false
set_option linter.unusedSimpArgs false
attribute [local go_sem ↓] Go.wp_at_zero Go.wp_at_succ
def sumP (js : List Fv) (k : Nat) : Nat → Nat
  | 0 => 0
  | j + 1 => sumP js k j + (plO ((j : Int) - 1) js k).length
theorem plO_len_succ (c : Int) (js : List Fv) (k : Nat) (x : Fv) (h : js[k]? = some x) : (plO c js (k + 1)).length = (plO c js k).length + (if x.t = c then 1 else 0) := by
  rw [pl_succO c js k x h]
  by_cases hc : x.t = c
  · rw [if_pos (by simp [prO, hc]), if_pos hc]; simp
  · rw [if_neg (by simp [prO, hc]), if_neg hc]; simp
theorem sumP5 (js : List Fv) (k : Nat) : sumP js k 5 = (plO (-1) js k).length + (plO 0 js k).length + (plO 1 js k).length + (plO 2 js k).length + (plO 3 js k).length := by
  simp only [sumP, Nat.zero_add]
  rfl
theorem sumP_all {js : List Fv} (ht : ∀ (i : Nat) (x : Fv), js[i]? = some x → x.t = 0 ∨ x.t = 1 ∨ x.t = 2) : ∀ k, k ≤ js.length → sumP js k 5 = k
  | 0, _ => by simp [sumP, plO]
  | k + 1, hk => by
    have ih := sumP_all ht k (by omega)
    have hx := List.getElem?_eq_getElem (l := js) (i := k) (by omega)
    have h := ht k _ hx
    rw [sumP5] at ih ⊢
    rw [plO_len_succ _ _ _ _ hx, plO_len_succ _ _ _ _ hx, plO_len_succ _ _ _ _ hx, plO_len_succ _ _ _ _ hx, plO_len_succ _ _ _ _ hx]
    rcases h with h | h | h <;> rw [h]
    all_goals (
      simp only [show ((0 : Int) = -1) = False by decide, show ((1 : Int) = -1) = False by decide, show ((2 : Int) = -1) = False by decide, show ((0 : Int) = 1) = False by decide, show ((0 : Int) = 2) = False by decide, show ((0 : Int) = 3) = False by decide, show ((1 : Int) = 0) = False by decide, show ((1 : Int) = 2) = False by decide, show ((1 : Int) = 3) = False by decide, show ((2 : Int) = 0) = False by decide, show ((2 : Int) = 1) = False by decide, show ((2 : Int) = 3) = False by decide, if_true, if_false]
      omega)
theorem plO_get {c : Int} {js : List Fv} {i p : Nat} (h : (plO c js js.length)[i]? = some p) : ∃ x, js[p]? = some x ∧ x.t = c := by
  have hm := List.mem_filter.1 (List.mem_of_getElem? h)
  have hp := List.mem_range.1 hm.1
  have h2 := hm.2
  rw [List.getElem?_eq_getElem hp] at h2
  exact ⟨js[p], List.getElem?_eq_getElem hp, by simpa [prO] using h2⟩
theorem plO_lt {c : Int} {js : List Fv} {i p q : Nat} (h : (plO c js js.length)[i]? = some p) (h2 : (plO c js js.length)[i + 1]? = some q) : p < q := by
  have hs : (plO c js js.length).Pairwise (· < ·) := List.Pairwise.filter _ List.pairwise_lt_range
  obtain ⟨a1, rfl⟩ := List.getElem?_eq_some_iff.1 h
  obtain ⟨a2, rfl⟩ := List.getElem?_eq_some_iff.1 h2
  exact List.pairwise_iff_getElem.1 hs i (i + 1) a1 a2 (by omega)
theorem fewN_t (l : List Int) (i : Nat) (x : Fv) (h : (fewN l)[i]? = some x) : x.t = 0 ∨ x.t = 1 ∨ x.t = 2 := by
  have hi := (List.getElem?_eq_some_iff.1 h).1
  rw [fewN_len] at hi
  rw [fewN_get l i l[i] (List.getElem?_eq_getElem (by omega)) (by omega)] at h
  simp only [Option.some.injEq] at h
  rw [← h]
  simp only [fewJ]
  omega
theorem plO_none {l : List Int} {c : Int} (hc : c < 0 ∨ 3 ≤ c) : plO c (fewN l) (fewN l).length = [] := by
  refine List.eq_nil_iff_forall_not_mem.2 fun p hp => ?_
  obtain ⟨i, hi⟩ := List.getElem?_of_mem hp
  obtain ⟨x, hx, ht⟩ := plO_get hi
  have := fewN_t l p x hx
  omega
theorem plO_le (c : Int) (js : List Fv) (k : Nat) : (plO c js k).length ≤ k := by
  have h1 : (plO c js k).length ≤ (List.range k).length := List.length_filter_le _ _
  rwa [List.length_range] at h1
theorem sumP_le (js : List Fv) (k : Nat) : ∀ j, sumP js k j ≤ j * k
  | 0 => by simp [sumP]
  | j + 1 => by
    have h1 := sumP_le js k j
    have h2 := plO_le ((j : Int) - 1) js k
    rw [sumP, Nat.succ_mul]
    omega
set_option maxRecDepth 100000 in
set_option maxHeartbeats 8000000 in
theorem sp_walk (A0 : Option Addr) (cap0 : Nat) (l0 : List Int) (a1 : Int) (w : World) (h : CRow w A0 cap0 l0) : Calls Try.prog 4 #[.slice A0 l0.length cap0, .int .i64 a1] w fun e w' => e = .returned (.bool true) ∧ Below w.heap.size w w' := by
  obtain ⟨n0, hn0⟩ : ∃ n, l0.length = n := ⟨_, rfl⟩
  have HA := Lib.hid awake_any
  have HF : Hid (∀ W, Below w.heap.size w W → Calls Try.prog 12 #[.slice A0 n0 cap0] W (JobsPost (fewN l0) W)) := Lib.hid (fun W hW => by rw [← hn0]; exact few_any A0 cap0 l0 W (h.later hW))
  have HSUM := Lib.hid (sumP_all (fewN_t l0) (fewN l0).length (Nat.le_refl _))
  have HNO := Lib.hid (fun c (hc : c < 0 ∨ 3 ≤ c) => plO_none (l := l0) hc)
  have HL16 : Hid ((fewN l0).length ≤ 16) := Lib.hid (by rw [fewN_len]; omega)
  rw [hn0]
  clear h hn0
  go_enter Try.func4, Try.ntmps4
  go_upto_region 4 with (first
    | (go_at_call 9; (with_reducible refine (HA.out _).mono ?_); rintro e w1 ⟨rfl, hB1⟩; have HB1 := Lib.hid hB1; clear hB1)
    | (go_at_call 12; (with_reducible refine (HF.out _ HB1.out).mono ?_); rintro e w2 ⟨v, gs, rfl, hO, hgs, hB2⟩; have HB2 := Lib.hid (HB1.out.trans (hB2.mono HB1.out.size)); obtain ⟨Aj, cj, rfl, hFR⟩ := hO.frow; rw [hgs] at hFR; have HFR := Lib.hid hFR; have HGS := Lib.hid hgs; clear hB2 hO hFR hgs))
  obtain ⟨js, hjs⟩ : ∃ js, fewN l0 = js := ⟨_, rfl⟩
  rw [hjs] at HSUM HNO HL16 HFR HGS
  have hgl : gs.length = js.length := by rw [← HGS.out, List.length_map]
  obtain ⟨n, hn⟩ : ∃ n, js.length = n := ⟨_, rfl⟩
  have HN := Lib.hid hn
  rw [hn] at HL16 hgl
  rw [hgl]
  have hn16 := HL16.out
  have HOF : Hid (∀ W c, Below w2.heap.size w2 W → Calls Try.prog 15 #[.slice Aj n cj, .int .i64 c] W (OfPost (plO c js js.length) W)) := Lib.hid (fun W c hW => by
    have := of_any Aj cj js c W (HFR.out.later hW) (by omega)
    rw [hn] at this ⊢
    exact this)
  clear hjs hgl hn HF HGS HB1
  go_wp2
  go_loopw [7, 8] (fun a c wr => ∃ j : Nat, j ≤ 5 ∧ c = .int .i64 ((j : Int) - 1) ∧ a = .int .i64 ((sumP js n j : Nat) : Int) ∧ Hid (Below w2.heap.size w2 wr)) (fun _ c _ => (4 - intOf c).toNat)
  case atStart => exact ⟨0, by omega, rfl, rfl, Lib.hid (Below.refl _ _)⟩
  case round =>
    generalize wr = W1 at *
    obtain ⟨j, hj, rfl, rfl, hB⟩ := hrel
    have hsl := sumP_le js n j
    have hsl2 : sumP js n j ≤ 80 := by
      have : j * n ≤ 5 * 16 := Nat.mul_le_mul hj hn16
      omega
    clear hsl
    by_cases hj5 : j < 5
    · obtain ⟨t, ht⟩ : ∃ t : Int, (j : Int) - 1 = t := ⟨_, rfl⟩
      have HT := Lib.hid ht
      have t4 : decide (t < 4) = true := decide_eq_true (by omega)
      have HO := Lib.hid (HOF.out W1 t hB.out)
      have HSS : Hid (sumP js n (j + 1) = sumP js n j + (plO t js n).length) := Lib.hid (by rw [sumP, ht])
      have hpl := plO_le t js n
      have htb : t + 1 = (j : Int) := by omega
      have htr : -1 ≤ t ∧ t ≤ 3 := by omega
      rw [ht]
      clear ht
      generalize sumP js n j = sj at *
      go_upto_region 8 with (go_at_call 15; (with_reducible refine HO.out.mono ?_); rintro e w3 ⟨v, rfl, hown, hB3⟩; have HB3 := Lib.hid hB3; obtain ⟨Av, cv, rfl, _, _⟩ := own_len hown; have HOW := Lib.hid hown; clear hown hB3)
      have HB23 := Lib.hid (hB.out.trans (HB3.out.mono hB.out.size))
      rw [HN.out] at HOW ⊢
      obtain ⟨m, hm⟩ : ∃ m, (plO t js n).length = m := ⟨_, rfl⟩
      have HM := Lib.hid hm
      rw [hm] at HOW HSS hpl ⊢
      clear hm
      go_wp2
      go_loopw [10] (fun i wr => ∃ k q : Nat, k ≤ m ∧ i = .int .i64 (k : Int) ∧ wr = w3.drewN q) (fun i _ => m - (intOf i).toNat)
      case atStart => exact ⟨0, 0, Nat.zero_le _, rfl, rfl⟩
      case round =>
        obtain ⟨k, q, hk, rfl, rfl⟩ := hrel
        by_cases hkm : k < m
        · obtain ⟨p, hp⟩ : ∃ p, (plO t js n)[k]? = some p := ⟨(plO t js n)[k]'(by rw [HM.out]; exact hkm), List.getElem?_eq_getElem _⟩
          obtain ⟨x, hx, hxt⟩ := plO_get (c := t) (js := js) (by rw [HN.out]; exact hp)
          have hpn : p < n := by rw [← HN.out]; exact (List.getElem?_eq_some_iff.1 hx).1
          obtain ⟨g, cg, hg, _, _, _, _, _⟩ := own_form HOW.out (by omega)
          simp only [Value.slice.injEq] at hg
          obtain ⟨rfl, _, rfl⟩ := hg
          have pc : w3.cell? ⟨g, k, none⟩ = some (.int .i64 (p : Int)) := own_cell HOW.out (g := g) rfl (by simp [numL, nL, hp])
          obtain ⟨b, o, C, cc, rfl, hF⟩ := HFR.out.at_ p x hx
          have jc : w3.cell? ⟨b, o + p * 5, none⟩ = some (.int .i64 t) := by
            have h1 := (hF.later HB23.out).c0
            rw [hxt] at h1
            exact h1
          have ik0 : (0 : Int) ≤ (k : Int) := by omega
          have ik1 : (k : Int) < (m : Int) := by omega
          have ip0 : (0 : Int) ≤ (p : Int) := by omega
          have ip1 : (p : Int) < (n : Int) := by omega
          have d1 : decide ((p : Int) < 0) = false := decide_eq_false (by omega)
          have d2 : decide ((p : Int) ≥ (n : Int)) = false := decide_eq_false (by omega)
          have d2' : decide (n ≤ p) = false := decide_eq_false (by omega)
          clear hx hxt hF
          by_cases hk0 : k = 0
          · have d3 : decide ((k : Int) > 0) = false := decide_eq_false (by omega)
            have d3' : decide (0 < k) = false := decide_eq_false (by omega)
            clear hp hk0
            go_wp2
            go_quiet (fail)
            go_wp2
            exact ⟨⟨k + 1, q + nq, by omega, by go_num, by first | rfl | trivial⟩, by first | (simp [intOf]; done) | (simp [intOf]; omega)⟩
          · obtain ⟨k', hk'⟩ : ∃ k', k = k' + 1 := ⟨k - 1, by omega⟩
            obtain ⟨p0, hp0⟩ : ∃ p, (plO t js n)[k']? = some p := ⟨(plO t js n)[k']'(by rw [HM.out]; omega), List.getElem?_eq_getElem _⟩
            have hlt := plO_lt (c := t) (js := js) (i := k') (by rw [HN.out]; exact hp0) (by rw [HN.out, ← hk']; exact hp)
            have pc0 : w3.cell? ⟨g, k', none⟩ = some (.int .i64 (p0 : Int)) := own_cell HOW.out (g := g) rfl (by simp [numL, nL, hp0])
            have d3 : decide ((k : Int) > 0) = true := decide_eq_true (by omega)
            have d3' : decide (0 < k) = true := decide_eq_true (by omega)
            have hkk : (k : Int) - 1 = (k' : Int) := by omega
            have ik2 : (0 : Int) ≤ (k' : Int) := by omega
            have ik3 : (k' : Int) < (m : Int) := by omega
            have d4 : decide ((p0 : Int) ≥ (p : Int)) = false := decide_eq_false (by omega)
            have d4' : decide (p ≤ p0) = false := decide_eq_false (by omega)
            clear hp hp0 hlt hk0 hk'
            go_wp2
            go_quiet (fail)
            go_wp2
            exact ⟨⟨k + 1, q + nq, by omega, by go_num, by first | rfl | trivial⟩, by first | (simp [intOf]; done) | (simp [intOf]; omega)⟩
        · obtain rfl : k = m := by omega
          go_wp2
          refine ⟨⟨j + 1, by omega, ?_, ?_, Lib.hid (HB23.out.trans (below_drewN (Below.refl _ _) q))⟩, ?_⟩
          · rw [show ((j + 1 : Nat) : Int) - 1 = (j : Int) by omega]
          · rw [HSS.out]; go_num
          · simp [intOf]; omega
    · obtain rfl : j = 5 := by omega
      have h5 : sumP js n 5 = n := by have := HSUM.out; rw [HN.out] at this; exact this
      rw [h5]
      have HB5 := Lib.hid (HB2.out.trans (hB.out.mono HB2.out.size))
      clear h5 hsl2
      by_cases h0 : 0 ≤ a1
      · have e0 : decide (a1 ≥ 0) = true := decide_eq_true h0
        by_cases h3 : a1 < 3
        · have e1 : decide (a1 < 3) = true := decide_eq_true h3
          go_wp2
          go_ret
          exact ⟨rfl, HB5.out⟩
        · have e1 : decide (a1 < 3) = false := decide_eq_false h3
          have HO := HOF.out W1 a1 hB.out
          rw [HNO.out a1 (.inr (by omega))] at HO
          have HO := Lib.hid HO
          clear h3
          go_wp2_with (go_at_call 15; (with_reducible refine HO.out.mono ?_); rintro e w3 ⟨v, rfl, hown, hB3⟩; have HB6 := Lib.hid (HB5.out.trans (hB3.mono HB5.out.size)); obtain ⟨Av, cv, rfl, _, _⟩ := own_len hown; clear hown hB3)
          go_ret
          exact ⟨rfl, HB6.out⟩
      · have e0 : decide (a1 ≥ 0) = false := decide_eq_false h0
        have e0' : decide (0 ≤ a1) = false := decide_eq_false h0
        have HO := HOF.out W1 a1 hB.out
        rw [HNO.out a1 (.inl (by omega))] at HO
        have HO := Lib.hid HO
        clear h0
        go_wp2_with (go_at_call 15; (with_reducible refine HO.out.mono ?_); rintro e w3 ⟨v, rfl, hown, hB3⟩; have HB6 := Lib.hid (HB5.out.trans (hB3.mono HB5.out.size)); obtain ⟨Av, cv, rfl, _, _⟩ := own_len hown; clear hown hB3)
        go_ret
        exact ⟨rfl, HB6.out⟩
end Go.Proofs.Ytnplbmbbocffbaa
