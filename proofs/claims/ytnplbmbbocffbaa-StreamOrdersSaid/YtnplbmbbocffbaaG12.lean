/- Texts about the program, one after the other: SPw, Nx, RgW, Ec, Es. -/
import Derived.Test.YtnplbmbbocffbaaG11
import Derived.Test.YtnplbmbbocffbaaG7
import Derived.Sort.CutIn
/- StreamParts: the walk. -/
namespace Go.Proofs.Ytnplbmbbocffbaa
open Go.RowKit Go.Shelf
set_option linter.unusedVariables false
set_option linter.unusedSimpArgs false
attribute [local go_sem ↓] Go.wp_at_zero Go.wp_at_succ
def sumP (js : List Fv) (k : Nat) : Nat → Nat
  | 0 => 0
  | j + 1 => sumP js k j + (plO ((j : Int) - 1) js k).length
theorem plO_len_succ (c : Int) (js : List Fv) (k : Nat) (x : Fv) (h : js[k]? = some x) : (plO c js (k + 1)).length = (plO c js k).length + (if x.t = c then 1 else 0) := by
  rw [pl_succO c js k x h]
  by_cases hc : x.t = c
  · rw [if_pos (by simp [prO, hc]), if_pos hc]; simp
  · rw [if_neg (by simp [prO, hc]), if_neg hc]; simp
theorem sumP5 (js : List Fv) (k : Nat) : sumP js k 5 = (plO (-1) js k).length + (plO 0 js k).length + (plO 1 js k).length + (plO 2 js k).length + (plO 3 js k).length := by
  simp only [sumP, Nat.zero_add]
  rfl
theorem sumP_all {js : List Fv} (ht : ∀ (i : Nat) (x : Fv), js[i]? = some x → x.t = 0 ∨ x.t = 1 ∨ x.t = 2) : ∀ k, k ≤ js.length → sumP js k 5 = k
  | 0, _ => by simp [sumP, plO]
  | k + 1, hk => by
    have ih := sumP_all ht k (by omega)
    have hx := List.getElem?_eq_getElem (l := js) (i := k) (by omega)
    have h := ht k _ hx
    rw [sumP5] at ih ⊢
    rw [plO_len_succ _ _ _ _ hx, plO_len_succ _ _ _ _ hx, plO_len_succ _ _ _ _ hx, plO_len_succ _ _ _ _ hx, plO_len_succ _ _ _ _ hx]
    rcases h with h | h | h <;> rw [h]
    all_goals (
      simp only [show ((0 : Int) = -1) = False by decide, show ((1 : Int) = -1) = False by decide, show ((2 : Int) = -1) = False by decide, show ((0 : Int) = 1) = False by decide, show ((0 : Int) = 2) = False by decide, show ((0 : Int) = 3) = False by decide, show ((1 : Int) = 0) = False by decide, show ((1 : Int) = 2) = False by decide, show ((1 : Int) = 3) = False by decide, show ((2 : Int) = 0) = False by decide, show ((2 : Int) = 1) = False by decide, show ((2 : Int) = 3) = False by decide, if_true, if_false]
      omega)
theorem plO_get {c : Int} {js : List Fv} {i p : Nat} (h : (plO c js js.length)[i]? = some p) : ∃ x, js[p]? = some x ∧ x.t = c := by
  have hm := List.mem_filter.1 (List.mem_of_getElem? h)
  have hp := List.mem_range.1 hm.1
  have h2 := hm.2
  rw [List.getElem?_eq_getElem hp] at h2
  exact ⟨js[p], List.getElem?_eq_getElem hp, by simpa [prO] using h2⟩
theorem plO_lt {c : Int} {js : List Fv} {i p q : Nat} (h : (plO c js js.length)[i]? = some p) (h2 : (plO c js js.length)[i + 1]? = some q) : p < q := by
  have hs : (plO c js js.length).Pairwise (· < ·) := List.Pairwise.filter _ List.pairwise_lt_range
  obtain ⟨a1, rfl⟩ := List.getElem?_eq_some_iff.1 h
  obtain ⟨a2, rfl⟩ := List.getElem?_eq_some_iff.1 h2
  exact List.pairwise_iff_getElem.1 hs i (i + 1) a1 a2 (by omega)
theorem fewN_t (l : List Int) (i : Nat) (x : Fv) (h : (fewN l)[i]? = some x) : x.t = 0 ∨ x.t = 1 ∨ x.t = 2 := by
  have hi := (List.getElem?_eq_some_iff.1 h).1
  rw [fewN_len] at hi
  rw [fewN_get l i l[i] (List.getElem?_eq_getElem (by omega)) (by omega)] at h
  simp only [Option.some.injEq] at h
  rw [← h]
  simp only [fewJ]
  omega
theorem plO_none {l : List Int} {c : Int} (hc : c < 0 ∨ 3 ≤ c) : plO c (fewN l) (fewN l).length = [] := by
  refine List.eq_nil_iff_forall_not_mem.2 fun p hp => ?_
  obtain ⟨i, hi⟩ := List.getElem?_of_mem hp
  obtain ⟨x, hx, ht⟩ := plO_get hi
  have := fewN_t l p x hx
  omega
theorem plO_le (c : Int) (js : List Fv) (k : Nat) : (plO c js k).length ≤ k := by
  have h1 : (plO c js k).length ≤ (List.range k).length := List.length_filter_le _ _
  rwa [List.length_range] at h1
theorem sumP_le (js : List Fv) (k : Nat) : ∀ j, sumP js k j ≤ j * k
  | 0 => by simp [sumP]
  | j + 1 => by
    have h1 := sumP_le js k j
    have h2 := plO_le ((j : Int) - 1) js k
    rw [sumP, Nat.succ_mul]
    omega
set_option maxRecDepth 100000 in
set_option maxHeartbeats 8000000 in
theorem sp_walk (A0 : Option Addr) (cap0 : Nat) (l0 : List Int) (a1 : Int) (w : World) (h : CRow w A0 cap0 l0) : Calls Try.prog 4 #[.slice A0 l0.length cap0, .int .i64 a1] w fun e w' => e = .returned (.bool true) ∧ Below w.heap.size w w' := by
  obtain ⟨n0, hn0⟩ : ∃ n, l0.length = n := ⟨_, rfl⟩
  have HA := Lib.hid awake_any
  have HF : Hid (∀ W, Below w.heap.size w W → Calls Try.prog 12 #[.slice A0 n0 cap0] W (JobsPost (fewN l0) W)) := Lib.hid (fun W hW => by rw [← hn0]; exact few_any A0 cap0 l0 W (h.later hW))
  have HSUM := Lib.hid (sumP_all (fewN_t l0) (fewN l0).length (Nat.le_refl _))
  have HNO := Lib.hid (fun c (hc : c < 0 ∨ 3 ≤ c) => plO_none (l := l0) hc)
  have HL16 : Hid ((fewN l0).length ≤ 16) := Lib.hid (by rw [fewN_len]; omega)
  rw [hn0]
  clear h hn0
  go_enter Try.func4, Try.ntmps4
  go_upto_region 4 with (first
    | (go_at_call 9; (with_reducible refine (HA.out _).mono ?_); rintro e w1 ⟨rfl, hB1⟩; have HB1 := Lib.hid hB1; clear hB1)
    | (go_at_call 12; (with_reducible refine (HF.out _ HB1.out).mono ?_); rintro e w2 ⟨v, gs, rfl, hO, hgs, hB2⟩; have HB2 := Lib.hid (HB1.out.trans (hB2.mono HB1.out.size)); obtain ⟨Aj, cj, rfl, hFR⟩ := hO.frow; rw [hgs] at hFR; have HFR := Lib.hid hFR; have HGS := Lib.hid hgs; clear hB2 hO hFR hgs))
  obtain ⟨js, hjs⟩ : ∃ js, fewN l0 = js := ⟨_, rfl⟩
  rw [hjs] at HSUM HNO HL16 HFR HGS
  have hgl : gs.length = js.length := by rw [← HGS.out, List.length_map]
  obtain ⟨n, hn⟩ : ∃ n, js.length = n := ⟨_, rfl⟩
  have HN := Lib.hid hn
  rw [hn] at HL16 hgl
  rw [hgl]
  have hn16 := HL16.out
  have HOF : Hid (∀ W c, Below w2.heap.size w2 W → Calls Try.prog 15 #[.slice Aj n cj, .int .i64 c] W (OfPost (plO c js js.length) W)) := Lib.hid (fun W c hW => by
    have := of_any Aj cj js c W (HFR.out.later hW) (by omega)
    rw [hn] at this ⊢
    exact this)
  clear hjs hgl hn HF HGS HB1
  go_wp2
  go_loopw [7, 8] (fun a c wr => ∃ j : Nat, j ≤ 5 ∧ c = .int .i64 ((j : Int) - 1) ∧ a = .int .i64 ((sumP js n j : Nat) : Int) ∧ Hid (Below w2.heap.size w2 wr)) (fun _ c _ => (4 - intOf c).toNat)
  case atStart => exact ⟨0, by omega, rfl, rfl, Lib.hid (Below.refl _ _)⟩
  case round =>
    generalize wr = W1 at *
    obtain ⟨j, hj, rfl, rfl, hB⟩ := hrel
    have hsl := sumP_le js n j
    have hsl2 : sumP js n j ≤ 80 := by
      have : j * n ≤ 5 * 16 := Nat.mul_le_mul hj hn16
      omega
    clear hsl
    by_cases hj5 : j < 5
    · obtain ⟨t, ht⟩ : ∃ t : Int, (j : Int) - 1 = t := ⟨_, rfl⟩
      have HT := Lib.hid ht
      have t4 : decide (t < 4) = true := decide_eq_true (by omega)
      have HO := Lib.hid (HOF.out W1 t hB.out)
      have HSS : Hid (sumP js n (j + 1) = sumP js n j + (plO t js n).length) := Lib.hid (by rw [sumP, ht])
      have hpl := plO_le t js n
      have htb : t + 1 = (j : Int) := by omega
      have htr : -1 ≤ t ∧ t ≤ 3 := by omega
      rw [ht]
      clear ht
      generalize sumP js n j = sj at *
      go_upto_region 8 with (go_at_call 15; (with_reducible refine HO.out.mono ?_); rintro e w3 ⟨v, rfl, hown, hB3⟩; have HB3 := Lib.hid hB3; obtain ⟨Av, cv, rfl, _, _⟩ := own_len hown; have HOW := Lib.hid hown; clear hown hB3)
      have HB23 := Lib.hid (hB.out.trans (HB3.out.mono hB.out.size))
      rw [HN.out] at HOW ⊢
      obtain ⟨m, hm⟩ : ∃ m, (plO t js n).length = m := ⟨_, rfl⟩
      have HM := Lib.hid hm
      rw [hm] at HOW HSS hpl ⊢
      clear hm
      go_wp2
      go_loopw [10] (fun i wr => ∃ k q : Nat, k ≤ m ∧ i = .int .i64 (k : Int) ∧ wr = w3.drewN q) (fun i _ => m - (intOf i).toNat)
      case atStart => exact ⟨0, 0, Nat.zero_le _, rfl, rfl⟩
      case round =>
        obtain ⟨k, q, hk, rfl, rfl⟩ := hrel
        by_cases hkm : k < m
        · obtain ⟨p, hp⟩ : ∃ p, (plO t js n)[k]? = some p := ⟨(plO t js n)[k]'(by rw [HM.out]; exact hkm), List.getElem?_eq_getElem _⟩
          obtain ⟨x, hx, hxt⟩ := plO_get (c := t) (js := js) (by rw [HN.out]; exact hp)
          have hpn : p < n := by rw [← HN.out]; exact (List.getElem?_eq_some_iff.1 hx).1
          obtain ⟨g, cg, hg, _, _, _, _, _⟩ := own_form HOW.out (by omega)
          simp only [Value.slice.injEq] at hg
          obtain ⟨rfl, _, rfl⟩ := hg
          have pc : w3.cell? ⟨g, k, none⟩ = some (.int .i64 (p : Int)) := own_cell HOW.out (g := g) rfl (by simp [numL, nL, hp])
          obtain ⟨b, o, C, cc, rfl, hF⟩ := HFR.out.at_ p x hx
          have jc : w3.cell? ⟨b, o + p * 5, none⟩ = some (.int .i64 t) := by
            have h1 := (hF.later HB23.out).c0
            rw [hxt] at h1
            exact h1
          have ik0 : (0 : Int) ≤ (k : Int) := by omega
          have ik1 : (k : Int) < (m : Int) := by omega
          have ip0 : (0 : Int) ≤ (p : Int) := by omega
          have ip1 : (p : Int) < (n : Int) := by omega
          have d1 : decide ((p : Int) < 0) = false := decide_eq_false (by omega)
          have d2 : decide ((p : Int) ≥ (n : Int)) = false := decide_eq_false (by omega)
          have d2' : decide (n ≤ p) = false := decide_eq_false (by omega)
          clear hx hxt hF
          by_cases hk0 : k = 0
          · have d3 : decide ((k : Int) > 0) = false := decide_eq_false (by omega)
            have d3' : decide (0 < k) = false := decide_eq_false (by omega)
            clear hp hk0
            go_wp2
            go_quiet (fail)
            go_wp2
            exact ⟨⟨k + 1, q + nq, by omega, by go_num, by first | rfl | trivial⟩, by first | (simp [intOf]; done) | (simp [intOf]; omega)⟩
          · obtain ⟨k', hk'⟩ : ∃ k', k = k' + 1 := ⟨k - 1, by omega⟩
            obtain ⟨p0, hp0⟩ : ∃ p, (plO t js n)[k']? = some p := ⟨(plO t js n)[k']'(by rw [HM.out]; omega), List.getElem?_eq_getElem _⟩
            have hlt := plO_lt (c := t) (js := js) (i := k') (by rw [HN.out]; exact hp0) (by rw [HN.out, ← hk']; exact hp)
            have pc0 : w3.cell? ⟨g, k', none⟩ = some (.int .i64 (p0 : Int)) := own_cell HOW.out (g := g) rfl (by simp [numL, nL, hp0])
            have d3 : decide ((k : Int) > 0) = true := decide_eq_true (by omega)
            have d3' : decide (0 < k) = true := decide_eq_true (by omega)
            have hkk : (k : Int) - 1 = (k' : Int) := by omega
            have ik2 : (0 : Int) ≤ (k' : Int) := by omega
            have ik3 : (k' : Int) < (m : Int) := by omega
            have d4 : decide ((p0 : Int) ≥ (p : Int)) = false := decide_eq_false (by omega)
            have d4' : decide (p ≤ p0) = false := decide_eq_false (by omega)
            clear hp hp0 hlt hk0 hk'
            go_wp2
            go_quiet (fail)
            go_wp2
            exact ⟨⟨k + 1, q + nq, by omega, by go_num, by first | rfl | trivial⟩, by first | (simp [intOf]; done) | (simp [intOf]; omega)⟩
        · obtain rfl : k = m := by omega
          go_wp2
          refine ⟨⟨j + 1, by omega, ?_, ?_, Lib.hid (HB23.out.trans (below_drewN (Below.refl _ _) q))⟩, ?_⟩
          · rw [show ((j + 1 : Nat) : Int) - 1 = (j : Int) by omega]
          · rw [HSS.out]; go_num
          · simp [intOf]; omega
    · obtain rfl : j = 5 := by omega
      have h5 : sumP js n 5 = n := by have := HSUM.out; rw [HN.out] at this; exact this
      rw [h5]
      have HB5 := Lib.hid (HB2.out.trans (hB.out.mono HB2.out.size))
      clear h5 hsl2
      by_cases h0 : 0 ≤ a1
      · have e0 : decide (a1 ≥ 0) = true := decide_eq_true h0
        by_cases h3 : a1 < 3
        · have e1 : decide (a1 < 3) = true := decide_eq_true h3
          go_wp2
          go_ret
          exact ⟨rfl, HB5.out⟩
        · have e1 : decide (a1 < 3) = false := decide_eq_false h3
          have HO := HOF.out W1 a1 hB.out
          rw [HNO.out a1 (.inr (by omega))] at HO
          have HO := Lib.hid HO
          clear h3
          go_wp2_with (go_at_call 15; (with_reducible refine HO.out.mono ?_); rintro e w3 ⟨v, rfl, hown, hB3⟩; have HB6 := Lib.hid (HB5.out.trans (hB3.mono HB5.out.size)); obtain ⟨Av, cv, rfl, _, _⟩ := own_len hown; clear hown hB3)
          go_ret
          exact ⟨rfl, HB6.out⟩
      · have e0 : decide (a1 ≥ 0) = false := decide_eq_false h0
        have e0' : decide (0 ≤ a1) = false := decide_eq_false h0
        have HO := HOF.out W1 a1 hB.out
        rw [HNO.out a1 (.inl (by omega))] at HO
        have HO := Lib.hid HO
        clear h0
        go_wp2_with (go_at_call 15; (with_reducible refine HO.out.mono ?_); rintro e w3 ⟨v, rfl, hown, hB3⟩; have HB6 := Lib.hid (HB5.out.trans (hB3.mono HB5.out.size)); obtain ⟨Av, cv, rfl, _, _⟩ := own_len hown; clear hown hB3)
        go_ret
        exact ⟨rfl, HB6.out⟩
end Go.Proofs.Ytnplbmbbocffbaa
/- The next release. -/
namespace Go.Proofs.Ytnplbmbbocffbaa
open Go.RowKit Go.Shelf
set_option linter.unusedVariables false
set_option linter.unusedSimpArgs false
attribute [local go_sem] Oper.semAt_some
def upO (a : Option Int) (r : Int) : Option Int := match a with
  | none => some r
  | some b => if r < b then some r else some b
def nx (js : List Fv) (t : Int) : Nat → Option Int
  | 0 => none
  | k + 1 => match js[k]? with
    | none => nx js t k
    | some x => if x.r > t then upO (nx js t k) x.r else nx js t k
def acc (js : List Fv) (pre : List Nat) : Option Int := pre.foldl (fun a p => upO a (kO (rls js) p)) none
theorem acc_snoc (js : List Fv) (pre : List Nat) (p : Nat) : acc js (pre ++ [p]) = upO (acc js pre) (kO (rls js) p) := by simp [acc]
theorem kO_rls {js : List Fv} {k : Nat} {x : Fv} (h : js[k]? = some x) : kO (rls js) k = x.r := by simp [kO, rls, h]
theorem acc_nx (js : List Fv) (t : Int) : ∀ k, k ≤ js.length → acc js (plN t js k) = nx js t k
  | 0, _ => rfl
  | k + 1, hk => by
    have ih := acc_nx js t k (by omega)
    have hx := List.getElem?_eq_getElem (l := js) (i := k) (by omega)
    rw [pl_succN t js k _ hx, nx, hx]
    simp only
    by_cases h : js[k].r > t
    · rw [if_pos (by simp [prN, h]), if_pos h, acc_snoc, ih, kO_rls hx]
    · rw [if_neg (by simp [prN, h]), if_neg h, ih]
structure Nx1 (w : World) (cj c6 c7 : Nat) (A : Option Addr) (cap n : Nat) (js : List Fv) (a : Option Int) (V : World) : Prop where
  bj : Boxed V cj 29 (.slice A n cap)
  b6 : Boxed V c6 2 (.int .i64 (a.getD 0))
  b7 : Boxed V c7 4 (.bool a.isSome)
  jobs : FRow V A cap js
  bel : Below w.heap.size w V
theorem frow_kept {A : Option Addr} {cap : Nat} {js : List Fv} {u W W' : World} (h : FRow u A cap js) (hb : Below u.heap.size u W') : FRow W' A cap js := h.later hb
def NextP (a : Option Int) (w : World) (e : Ending) (w' : World) : Prop := e = .returned (.tuple #[.int .i64 (a.getD 0), .bool a.isSome]) ∧ Below w.heap.size w w'
theorem Nx1.own {w : World} {cj c6 c7 : Nat} {A : Option Addr} {cap n : Nat} {js : List Fv} {a : Option Int} {W W' : World} {row : Option Nat} {B : Nat} (hj : FRow w A cap js) (h : Nx1 w cj c6 c7 A cap n js a W) (hB : w.heap.size ≤ B) (hg : W.grownBy W' row) (hr : ∀ r, row = some r → B ≤ r ∧ ∃ o : Obj, W.heap[r]? = some o ∧ o.isCells = false) : Nx1 w cj c6 c7 A cap n js a W' := by
  have hb : Below w.heap.size w W' := h.bel.grown hg h.bel.size (fun q e => by have := (hr q e).1; omega)
  exact ⟨boxed_kept h.bj hg (fun r e => (hr r e).2), boxed_kept h.b6 hg (fun r e => (hr r e).2), boxed_kept h.b7 hg (fun r e => (hr r e).2), hj.later hb, hb⟩
theorem Nx1.keptT {w : World} {cj c6 c7 : Nat} {A : Option Addr} {cap n : Nat} {js : List Fv} {a : Option Int} {W W' : World} {B : Nat} (hj : FRow w A cap js) (h : Nx1 w cj c6 c7 A cap n js a W) (hk : KeptT 56 B W W') (hB : w.heap.size ≤ B) : Nx1 w cj c6 c7 A cap n js a W' := by
  have hb : Below w.heap.size w W' := h.bel.trans ((hk.mono hB).bel h.bel.size)
  exact ⟨hk.box h.bj (by decide), hk.box h.b6 (by decide), hk.box h.b7 (by decide), hj.later hb, hb⟩
theorem Nx1.put {w : World} {cj c6 c7 : Nat} {A : Option Addr} {cap n : Nat} {js : List Fv} {a : Option Int} {W : World} {r : Int} (hj : FRow w A cap js) (h : Nx1 w cj c6 c7 A cap n js a W) (h1 : cj ≠ c6) (h2 : cj ≠ c7) (h3 : c6 ≠ c7) (h6 : w.heap.size ≤ c6) (h7 : w.heap.size ≤ c7) :
    Nx1 w cj c6 c7 A cap n js (some r) ((W.setCell ⟨c6, 0, none⟩ (.int .i64 r)).setCell ⟨c7, 0, none⟩ (.bool true)) := by
  have hb : Below w.heap.size w ((W.setCell ⟨c6, 0, none⟩ (.int .i64 r)).setCell ⟨c7, 0, none⟩ (.bool true)) := (h.bel.setCell (p := ⟨c6, 0, none⟩) h6 _).setCell (p := ⟨c7, 0, none⟩) h7 _
  exact ⟨box_set (box_set h.bj h1 _ _) h2 _ _, box_set (Boxed.set _ h.b6) h3 _ _, Boxed.set _ (box_set h.b7 (Ne.symm h3) _ _), hj.later hb, hb⟩
set_option maxRecDepth 100000 in
set_option maxHeartbeats 8000000 in
theorem next_any (A : Option Addr) (cap : Nat) (js : List Fv) (t : Int) (w : World) (hR : FRow w A cap js) (hlen : js.length ≤ 1000) :
    Calls Try.prog 17 #[.slice A js.length cap, .int .i64 t] w (NextP (nx js t js.length) w) := by
  have HACC := Lib.hid (acc_nx js t js.length (Nat.le_refl _))
  have hHR := Lib.hid hR
  obtain ⟨n, hn⟩ : ∃ n, js.length = n := ⟨_, rfl⟩
  have HN := Lib.hid hn
  obtain ⟨W1, hW1, d0, d1, d2, d3, hB1, hs1⟩ : ∃ W1, (((w.alloc (.cells #[.slice A n cap] 29)).alloc (.cells #[.int .i64 t] 2)).alloc (.cells #[.int .i64 0] 2)).alloc (.cells #[.bool false] 4) = W1 ∧ Boxed W1 w.heap.size 29 (.slice A n cap) ∧ Boxed W1 (w.heap.size + 1) 2 (.int .i64 t) ∧ Boxed W1 (w.heap.size + 1 + 1) 2 (.int .i64 0) ∧ Boxed W1 (w.heap.size + 1 + 1 + 1) 4 (.bool false) ∧ Below w.heap.size w W1 ∧ W1.heap.size = w.heap.size + 1 + 1 + 1 + 1 := by
    have n1 := Boxed.new (w.alloc (.cells #[.slice A n cap] 29)) 2 (.int .i64 t)
    have n2 := Boxed.new ((w.alloc (.cells #[.slice A n cap] 29)).alloc (.cells #[.int .i64 t] 2)) 2 (.int .i64 0)
    have n3 := Boxed.new (((w.alloc (.cells #[.slice A n cap] 29)).alloc (.cells #[.int .i64 t] 2)).alloc (.cells #[.int .i64 0] 2)) 4 (.bool false)
    simp only [World.size_alloc] at n1 n2 n3
    exact ⟨_, rfl, Boxed.alloc (Boxed.alloc (Boxed.alloc (Boxed.new _ _ _) _) _) _, Boxed.alloc (Boxed.alloc n1 _) _, Boxed.alloc n2 _, n3, ((((Below.refl _ w).alloc (Nat.le_refl _) _).alloc (by simp) _).alloc (by simp; omega) _).alloc (by simp; omega) _, by simp⟩
  obtain ⟨W2, hW2, f1, f2, hB2⟩ : ∃ W2, (W1.alloc (.cells #[.slice A n cap] 29)).alloc (.cells #[.func (.func 40) #[] #[.pointer (some ⟨w.heap.size + 1, 0, none⟩)]] 84) = W2 ∧ Boxed W2 W1.heap.size 29 (.slice A n cap) ∧ Boxed W2 (W1.heap.size + 1) 84 (.func (.func 40) #[] #[.pointer (some ⟨w.heap.size + 1, 0, none⟩)]) ∧ Below W1.heap.size W1 W2 := by
    have n2 := Boxed.new (W1.alloc (.cells #[.slice A n cap] 29)) 84 (.func (.func 40) #[] #[.pointer (some ⟨w.heap.size + 1, 0, none⟩)])
    simp only [World.size_alloc] at n2
    exact ⟨_, rfl, Boxed.alloc (Boxed.new _ _ _) _, n2, ((Below.refl _ _).alloc (Nat.le_refl _) _).alloc (by simp) _⟩
  have hBW2 : Below w.heap.size w W2 := hB1.trans (hB2.mono hB1.size)
  have hs2 : W2.heap.size = W1.heap.size + 1 + 1 := by rw [← hW2]; simp
  have hP : PcN (fun k => k < W2.heap.size ∧ k ≠ w.heap.size + 1 + 1 ∧ k ≠ w.heap.size + 1 + 1 + 1) W2 W1.heap.size (W1.heap.size + 1) (w.heap.size + 1) t js := by
    refine ⟨⟨W2, A, cap, ⟨⟨by omega, by omega, by omega⟩, ⟨by omega, by omega, by omega⟩, fun hne b o e => ?_⟩, Below.refl _ _, by rw [hn]; exact f1, hR.later hBW2, f2, (hB2.block _ d1.lt).trans d1⟩⟩
    obtain ⟨b', o', x, C, cc, e', _, hl, _⟩ := hR.get (k := 0) (by rcases Nat.eq_zero_or_pos js.length with h0 | h0; exact absurd (List.length_eq_zero_iff.1 h0) hne; exact h0)
    rw [e] at e'
    cases e'
    have := hBW2.size
    refine ⟨?_, ?_, ?_⟩ <;> omega
  have SQ := pcseqN (T := 56) (9 - 1) (by omega) hP hlen
  have HPL := Lib.hid (places_any A n cap (.func 40) #[] #[.pointer (some ⟨w.heap.size + 1, 0, none⟩)] W1)
  have I0 : Nx1 w w.heap.size (w.heap.size + 1 + 1) (w.heap.size + 1 + 1 + 1) A cap n js (acc js []) W2 := ⟨(hB2.block _ d0.lt).trans d0, (hB2.block _ d2.lt).trans d2, (hB2.block _ d3.lt).trans d3, hR.later hBW2, hBW2⟩
  have HW2 := Lib.hid hW2
  have HW1 := Lib.hid hW1
  have c0 := d0.cell
  rw [hn] at HACC SQ ⊢
  have hn1000 : n ≤ 1000 := by omega
  clear hR hP hW2 d0 d1 d2 d3 f1 f2 hB1 hB2 hn
  refine (callsIn_wide (n := 9)).1 ?_
  refine callsIn_of_wp_marks Try.func17 rfl trivial ?_ rfl
  simp only [Try.ntmps17, List.size_toArray, List.length_cons, List.length_nil, Nat.reduceAdd, Nat.reduceSub, Array.replicate_succ, Array.replicate_zero, List.push_toArray, List.append_toArray, List.nil_append, List.cons_append]
  clear hW1
  gi_upto_region 2 with (fail)
  rw [HW1.out]
  gi_wp2_with (refine ⟨trivial, ?_⟩; gi_at_call 36; go_loud ((with_reducible refine (callsIn_wide.2 HPL.out).mono ?_); rintro e w9 ⟨rfl, rfl⟩; rw [HW2.out]))
  have hMEM : ∀ p, p ∈ plN t js n → ∃ x, js[p]? = some x := fun p hp => by
    have h1 := List.mem_range.1 (List.mem_filter.1 hp).1
    exact ⟨js[p]'(by rw [HN.out]; exact h1), List.getElem?_eq_getElem _⟩
  have HMEM := Lib.hid hMEM
  generalize plN t js n = L at *
  clear hMEM HW1 HW2 HPL c0
  have hw2 := hBW2.size
  rw [hs1] at SQ
  refine wpIn_named fun frm hfr => ?_
  refine rangeN (vals := fun k : Nat => #[.int .i64 (k : Int)]) (gf := 59) (lb := #[.pointer (some ⟨w.heap.size + 1 + 1 + 1 + 1, 0, none⟩), .pointer (some ⟨w.heap.size + 1 + 1 + 1 + 1 + 1, 0, none⟩)]) (by rw [hfr]; rfl) (enters_of Try.func59 (by kernel_rfl) rfl) SQ (Below.refl _ _) (fun x => rfl)
    (fun pre V => Nx1 w w.heap.size (w.heap.size + 1 + 1) (w.heap.size + 1 + 1 + 1) A cap n js (acc js pre) V) (fun _ _ _ => False)
    (fun pre X Y row h hg hr => Nx1.own hHR.out h hw2 hg hr) (fun _ _ _ _ _ h _ _ => h) (fun pre W4 W5 h hk => Nx1.keptT hHR.out h hk hw2) I0
    (fun x a' V => a' = { tmps := ((frm.tmps.setIfInBounds 13 (.int .i64 (x : Int))).setIfInBounds 8 (.int .i64 (x : Int))), defers := [] })
    (fun p X Y row h hg hr => h)
    ?assign ?body ?done ?stop
  case assign =>
    intro l2 pre x V K hI hK
    subst hfr
    gi_wp2
    exact hK _ _ (KeepsFrom.refl _ _) (KeepN.refl _ _ _ _) hI rfl
  case body =>
    rintro l2 pre p r a' V hI rfl hL
    subst hfr
    obtain ⟨x, hx⟩ := HMEM.out p (by rw [hL]; simp)
    have hpn : p < n := by rw [← HN.out]; exact (List.getElem?_eq_some_iff.1 hx).1
    obtain ⟨b, o, C, cc, rfl, hF⟩ := hI.jobs.at_ p x hx
    have jc := hF.c2
    have cj := hI.bj.cell
    have c6 := hI.b6.cell
    have f6 := hI.b6.frozen
    have c7 := hI.b7.cell
    have f7 := hI.b7.frozen
    have HAS := Lib.hid (show acc js (pre ++ [p]) = upO (acc js pre) x.r by rw [acc_snoc, kO_rls hx])
    have ip0 : (0 : Int) ≤ (p : Int) := by omega
    have ip1 : (p : Int) < (n : Int) := by omega
    have HI := Lib.hid hI
    have HV := Lib.hid (show w.heap.size + 1 + 1 + 1 < V.heap.size from hI.b7.lt)
    have fin : ∀ rr : Int, upO (acc js pre) x.r = some rr → KeepsFrom W2.heap.size V ((V.setCell ⟨w.heap.size + 1 + 1, 0, none⟩ (.int .i64 rr)).setCell ⟨w.heap.size + 1 + 1 + 1, 0, none⟩ (.bool true)) ∧ KeepN (fun k => k < W2.heap.size ∧ k ≠ w.heap.size + 1 + 1 ∧ k ≠ w.heap.size + 1 + 1 + 1) 56 W2.heap.size V ((V.setCell ⟨w.heap.size + 1 + 1, 0, none⟩ (.int .i64 rr)).setCell ⟨w.heap.size + 1 + 1 + 1, 0, none⟩ (.bool true)) ∧ Nx1 w w.heap.size (w.heap.size + 1 + 1) (w.heap.size + 1 + 1 + 1) (some ⟨b, o, none⟩) cap n js (acc js (pre ++ [p])) ((V.setCell ⟨w.heap.size + 1 + 1, 0, none⟩ (.int .i64 rr)).setCell ⟨w.heap.size + 1 + 1 + 1, 0, none⟩ (.bool true)) := by
      intro rr hrr
      have hkk : Kept [w.heap.size + 1 + 1, w.heap.size + 1 + 1 + 1] V ((V.setCell ⟨w.heap.size + 1 + 1, 0, none⟩ (.int .i64 rr)).setCell ⟨w.heap.size + 1 + 1 + 1, 0, none⟩ (.bool true)) := ((Kept.refl _ V).set _ 0 _ (by simp)).set _ 0 _ (by simp)
      refine ⟨keepsFrom_kept _ hkk (fun k hk => ?_), KeepN.kept hkk (fun k hk => ?_), ?_⟩
      · simp only [List.mem_cons, List.not_mem_nil, or_false] at hk
        rcases hk with rfl | rfl
        · exact ⟨_, _, _, HI.out.b6⟩
        · exact ⟨_, _, _, HI.out.b7⟩
      · simp only [List.mem_cons, List.not_mem_nil, or_false] at hk
        exact ⟨fun h => by rcases hk with rfl | rfl; exact h.2.1 rfl; exact h.2.2 rfl, fun cs fr hc => by rcases hk with rfl | rfl <;> omega⟩
      · rw [HAS.out, hrr]
        exact Nx1.put hHR.out HI.out (by omega) (by omega) (by omega) (by omega) (by omega)
    have FIN := Lib.hid fin
    clear hI hL hx hF fin
    cases hacc : acc js pre with
    | none =>
      rw [hacc] at c6 c7 FIN
      have HAC := Lib.hid hacc
      clear hacc
      simp only [Option.getD_none, Option.isSome_none] at c6 c7
      gi_wp2
      exact FIN.out _ rfl
    | some b0 =>
      rw [hacc] at c6 c7 FIN
      have HAC := Lib.hid hacc
      clear hacc
      simp only [Option.getD_some, Option.isSome_some] at c6 c7
      by_cases hlt : x.r < b0
      · have t1 : decide (x.r < b0) = true := decide_eq_true hlt
        have hup : upO (some b0) x.r = some x.r := if_pos hlt
        have HUP := Lib.hid hup
        clear hup hlt
        gi_wp2
        exact FIN.out _ HUP.out
      · have t1 : decide (x.r < b0) = false := decide_eq_false hlt
        have hup : upO (some b0) x.r = some b0 := if_neg hlt
        have HUP := Lib.hid hup
        clear hup hlt
        gi_wp2
        refine ⟨KeepsFrom.refl _ _, KeepN.refl _ _ _ _, ?_⟩
        show Nx1 w w.heap.size (w.heap.size + 1 + 1) (w.heap.size + 1 + 1 + 1) (some ⟨b, o, none⟩) cap n js (acc js (pre ++ [p])) V
        rw [HAS.out, HAC.out, HUP.out, ← HAC.out]
        exact HI.out
  case done =>
    rintro D V hD hI hK
    subst hfr
    rw [HACC.out] at hI
    have c6 := hI.b6.cell
    have c7 := hI.b7.cell
    gi_upto_region 7 with (fail)
    refine (wpIn_wide (n := 9)).2 ?_
    go_quiet (fail)
    gi_wp2
    have hK2 : (V.drewN nq).heap[D]? = some (.deferred (some [])) := hK
    refine ⟨by simp, .inl ⟨_, _, rfl, run_takeDeferred hK2, ?_⟩⟩
    exact ⟨.tuple #[.int .i64 ((nx js t n).getD 0), .bool (nx js t n).isSome], by simp [results, Try.f17, go_sem], rfl, (below_drewN hI.bel nq).trans (belowK_b (w := w) (Nat.le_refl _) (V.drewN nq) D _ _ (by omega) hK2 rfl rfl)⟩
  case stop =>
    rintro D c pre x r V hD hL h hK
    exact h.elim
end Go.Proofs.Ytnplbmbbocffbaa
/- A range over a function that tells what it lays anew. -/
namespace Go.Proofs.Ytnplbmbbocffbaa
open Go.RowKit Go.Shelf
set_option linter.unusedVariables false
/-- An iterator's word. -/
def SeqW {E : Type} (T : TypeId) (Vals : E → Array Value → World → Prop) (n g : Nat) (lb : Array Value) (N : Nat → Prop) (L : List E) (w0 : World) : Prop :=
  ∀ (l : Nat) (J Jx : List E → World → Prop) (W : World), Below w0.heap.size w0 W → (∀ pre W1 W2, J pre W1 → KeptT T W.heap.size W1 W2 → J pre W2) →
    (∀ pre x r args W1, J pre W1 → L = pre ++ x :: r → Vals x args W1 → YieldAt Fence.wide (n - 1) Try.prog l args W1 fun e W' =>
      (e = .returned (.bool true) ∧ J (pre ++ [x]) W' ∧ KeepN N T W.heap.size W1 W') ∨ (e = .returned (.bool false) ∧ Jx (pre ++ [x]) W')) →
    J [] W →
    CallsIn Fence.wide n Try.prog g (#[.func (.yield l) #[] #[]] ++ lb) W fun e W' => (∃ v, e = .returned v) ∧ (J L W' ∨ (∃ pre x r, L = pre ++ x :: r ∧ Jx (pre ++ [x]) W'))
set_option maxHeartbeats 1000000 in
/-- The law for a caller. fr: what the assignment to the loop's variables leaves. -/
theorem rangeW {E : Type} {T : TypeId} {Vals : E → Array Value → World → Prop} {g : Operand} {ps : Array Tmp} {assign body : Code} {Q : Exit → Act → World → Prop} {a : Act} {w : World} {n gf : Nat} {lb : Array Value} {N : Nat → Prop} {L : List E} {w0 : World}
    (hg : a.eval g = .func (.func gf) #[] lb) (eg : ∀ args w, (callFunc gf args).run Try.prog w = .ok (.enter gf args) w)
    (hseq : SeqW T Vals (n - 1) gf lb N L w0) (hb0 : Below w0.heap.size w0 w) (hps : ∀ x args W, Vals x args W → args.size = ps.size)
    (I : List E → World → Prop) (Ix : Code → List E → World → Prop) (hI : OwnFrom w.heap.size I) (hIx : ∀ c, OwnFrom w.heap.size (Ix c)) (hIT : ∀ pre W1 W2, I pre W1 → KeptT T w.heap.size W1 W2 → I pre W2) (h0 : I [] w)
    (fr : E → Act → World → Prop) (hfr : OwnFrom w.heap.size (fun (p : E × Act) W => fr p.1 p.2 W))
    (hassign : ∀ (l : Nat) (pre : List E) (x : E) (args : Array Value) (W : World) (K : Act → World → Prop), I pre W → Vals x args W → (∀ a' W', KeepsFrom w.heap.size W W' → KeepN N T w.heap.size W W' → I pre W' → fr x a' W' → K a' W') →
      assign.wpIn (Fence.wide.inRound l) (n - 1 - 1) Try.prog (Exit.then K (fun _ _ _ => False)) { tmps := (ps.zip args).foldl (fun t (p, v) => t.setIfInBounds p v) a.tmps, defers := [] } W)
    (hbody : ∀ (l : Nat) (pre : List E) (x : E) (r : List E) (a' : Act) (W : World), I pre W → fr x a' W → L = pre ++ x :: r →
      body.wpIn (Fence.wide.inRound l) (n - 1 - 1) Try.prog (postN w.heap.size N T I Ix (pre ++ [x]) W) a' W)
    (hdone : ∀ (D : Nat) (W : World), w.heap.size ≤ D → I L W → W.heap[D]? = some (.deferred (some [])) → Q .normal { a with defers := { target := .collected D, args := #[] } :: a.defers } W)
    (hstop : ∀ (D : Nat) (c : Code) (pre : List E) (x : E) (r : List E) (W : World), w.heap.size ≤ D → L = pre ++ x :: r → Ix c (pre ++ [x]) W → W.heap[D]? = some (.deferred (some [])) → c.wpIn Fence.wide n Try.prog Q { a with defers := { target := .collected D, args := #[] } :: a.defers } W) :
    (Code.rangeFunc g ps assign body).wpIn Fence.wide n Try.prog Q a w := by
  refine wpIn_rangeFunc fun fn hfn => ?_
  obtain ⟨D, hD⟩ : ∃ D, D = w.heap.size := ⟨_, rfl⟩
  obtain ⟨rc, hrc⟩ : ∃ rc : LoopState → Option Code → Loop, rc = fun st pe => { state := st, pending := pe, fn, tmps := a.tmps, params := ps, assign, body, defers := D } := ⟨_, rfl⟩
  obtain ⟨V, hV⟩ : ∃ V, (w.alloc (.deferred (some []))).alloc (.loop (rc .ready none)) = V := ⟨_, rfl⟩
  have hV2 : Two D (rc .ready none) V := by
    rw [← hV, hD]
    refine ⟨(Below.heap_alloc _ _ _ (by simp)).trans (World.alloc_heap_new w _), ?_⟩
    have := World.alloc_heap_new (w.alloc (.deferred (some []))) (.loop (rc .ready none))
    rwa [World.size_alloc] at this
  have hVI : I [] V := by rw [← hV]; exact hI.alloc _ (hI.alloc _ h0)
  have hVb : Below w.heap.size w V := by
    rw [← hV]
    exact (((Below.refl _ w).alloc (Nat.le_refl _) _).alloc (by simp) _)
  have put : ∀ {pre : List E} {W : World} {r : Loop} (r' : Loop), I pre W → Two D r W → I pre (W.putObj (D + 1) (.loop r')) := fun r' hi h2 => hI.putObj _ hi (by omega) h2.l rfl
  have putx : ∀ {c : Code} {pre : List E} {W : World} {r : Loop} (r' : Loop), Ix c pre W → Two D r W → Ix c pre (W.putObj (D + 1) (.loop r')) := fun r' hi h2 => (hIx _).putObj _ hi (by omega) h2.l rfl
  refine ⟨D + 1, [{ target := .collected D, args := #[] }], V, { target := .fn (.func gf) lb, args := #[.func (.yield (D + 1)) #[] #[]] }, V, gf, #[.func (.yield (D + 1)) #[] #[]] ++ lb, V, ?_, ?_, ?_, ?_, ?_, ?_⟩
  · rw [← hV, hrc, hD]; exact run_enterLoop_outer _ _ _ _ _
  · simp only [resolve, hg]
    simp [go_sem]
  · intro f' _; trivial
  · simp [invoke, go_sem, eg]
  · intro h; cases h
  · refine (hseq (D + 1) (fun pre W => I pre W ∧ Two D (rc .ready none) W) (fun pre W => ∃ c, Ix c pre W ∧ Two D (rc .done (some c)) W) V (hb0.trans (hVb.mono hb0.size))
      (fun s X Z hs hk => ⟨hIT s X Z hs.1 (hk.mono hVb.size), hs.2.keptT hk⟩)
      ?_ ⟨hVI, hV2⟩).mono ?_
    · rintro pre x r args W ⟨hi, h2⟩ hL hv
      have hy := run_yield (P := Try.prog) (args := args) h2.l (by rw [hrc]; exact hps x args W hv)
      rw [hrc] at hy
      refine ⟨fn, _, assign, body, hy, roundIn_of_wpIn trivial (hassign _ pre x args W _ hi hv fun a2 W2 hk2 hc2 hi2 hf2 => ?_)⟩
      clear hy
      have h22 := h2.from (by rw [hD]; exact hk2)
      refine ⟨_, run_beginRound h22.l (by rw [hrc]), ?_⟩
      have h2b := h22.put { rc .ready none with state := .busy }
      have kc := hc2.trans (KeepN.put (N := N) (T := T) (B := w.heap.size) (.loop { rc .ready none with state := .busy }) h22.l rfl)
      have hf3 : fr x a2 (W2.putObj (D + 1) (.loop { rc .ready none with state := .busy })) := hfr.putObj (s := (x, a2)) _ hf2 (by omega) h22.l rfl
      refine wpIn_mono (hbody _ pre x r a2 _ (put _ hi2 h22) hf3 hL) ?_
      generalize W2.putObj (D + 1) (.loop { rc .ready none with state := .busy }) = Wb at *
      rw [← hD]
      have fin : ∀ (jump : Option Code) (W3 : World), KeepsFrom D Wb W3 →
          (Instr.endRound (D + 1) jump).run Try.prog W3 = .ok (.bool jump.isNone) (W3.putObj (D + 1) (.loop (rc (if jump.isNone then .ready else .done) jump))) ∧ Two D { rc .ready none with state := .busy } W3 := fun jump W3 hk3 => by
        have h3 := h2b.from hk3
        have := run_endRound (P := Try.prog) jump h3.l
        rw [hrc] at this h3 ⊢
        exact ⟨this, h3⟩
      rintro e a3 W3 hp
      cases e with
      | normal =>
        obtain ⟨hk3, hc3, hi3⟩ := hp
        obtain ⟨hr, h3⟩ := fin none W3 hk3
        exact ⟨_, _, hr, .inl ⟨rfl, ⟨put _ hi3 h3, h3.put _⟩, ((kc.trans (by rw [hD] at hc3; exact hc3)).trans (KeepN.put _ h3.l rfl)).mono hVb.size⟩⟩
      | ret =>
        obtain ⟨hk3, hi3⟩ := hp
        obtain ⟨hr, h3⟩ := fin (some .ret) W3 hk3
        exact ⟨_, _, hr, .inr ⟨rfl, ⟨.ret, putx _ hi3 h3, h3.put _⟩⟩⟩
      | exit id =>
        obtain ⟨hk3, hi3⟩ := hp
        obtain ⟨hr, h3⟩ := fin (some (.exit id)) W3 hk3
        exact ⟨_, _, hr, .inr ⟨rfl, ⟨.exit id, putx _ hi3 h3, h3.put _⟩⟩⟩
      | goto t =>
        obtain ⟨hk3, hi3⟩ := hp
        obtain ⟨hr, h3⟩ := fin (some (.goto t)) W3 hk3
        exact ⟨_, _, hr, .inr ⟨rfl, ⟨.goto t, putx _ hi3 h3, h3.put _⟩⟩⟩
      | panic ch => exact hp.elim
      | outgrown => exact hp.elim
    · rintro e W2 ⟨⟨v, rfl⟩, (⟨hi, h2⟩ | ⟨pre, x, r, hL, ⟨c, hi, h2⟩⟩)⟩
      · have he := run_endLoop (P := Try.prog) h2.l (by rw [hrc]; simp)
        rw [hrc] at he
        exact ⟨none, _, he, hdone D _ (Nat.le_of_eq hD.symm) (put _ hi h2) ((World.putObj_heap_other (by omega)).trans h2.d)⟩
      · have he := run_endLoop (P := Try.prog) h2.l (by rw [hrc]; simp)
        rw [hrc] at he
        exact ⟨some c, _, he, hstop D c pre x r _ (Nat.le_of_eq hD.symm) hL (putx _ hi h2) ((World.putObj_heap_other (by omega)).trans h2.d)⟩
end Go.Proofs.Ytnplbmbbocffbaa
/- Releases with their places: what is held. -/
namespace Go.Proofs.Ytnplbmbbocffbaa
open Go.RowKit Go.Shelf
set_option linter.unusedVariables false
set_option linter.unusedSimpArgs false
attribute [local go_sem ↓] Go.wp_at_zero Go.wp_at_succ
theorem make_64 (n : Nat) (hn : n ≤ 1000) (W : World) : (Instr.makeSlice 22 (.int .i64 (n : Int)) (.int .i64 (n : Int))).run Try.prog W = .ok (.slice (some ⟨W.heap.size, 0, none⟩) n n) (W.alloc (.cells (madeCells #[.int .i64 0] n) 2)) := by
  obtain ⟨i0, hi, hz0, hz1, hz2⟩ := info_parts info64
  have h := run_make (P := Try.prog) W 22 2 i0 _ Try.underlying22 hi hz0 .i64 .i64 n n (by omega) (Int.le_refl _) (by rw [hz2]; omega) (by omega)
  rw [hz1, Nat.mul_one] at h
  simp only [Int.toNat_natCast] at h
  exact h
/-- A row that is being filled. -/
def IR (w : World) (g n : Nat) (vs : List Int) (k : Nat) : Prop := ∃ cur : Array Value, w.heap[g]? = some (.cells cur 2 (0, 0)) ∧ cur.size = n ∧ ∀ j x, j < k → vs[j]? = some x → cur[j]? = some (.int .i64 x)
theorem IR.cell {w : World} {g n k : Nat} {vs : List Int} (h : IR w g n vs k) {i : Nat} (hi : i < n) : (∃ v, w.cell? ⟨g, i, none⟩ = some v) ∧ w.frozen? ⟨g, i, none⟩ = false := by
  obtain ⟨cur, h1, h2, h3⟩ := h
  exact ⟨⟨cur[i], by rw [cell_of_row w g i _ _ _ h1]; exact Array.getElem?_eq_getElem (by omega)⟩, frozen_of_row w g i _ _ h1⟩
theorem IR.step {w : World} {g n k : Nat} {vs : List Int} {x : Int} (h : IR w g n vs k) (hk : k < n) (hx : vs[k]? = some x) : IR (w.setCell ⟨g, k, none⟩ (.int .i64 x)) g n vs (k + 1) := by
  obtain ⟨cur, h1, h2, h3⟩ := h
  refine ⟨cur.setIfInBounds k (.int .i64 x), heap_setCell_same _ _ _ _ _ _ h1, by simp [h2], fun j y hj hy => ?_⟩
  by_cases e : k = j
  · subst e
    rw [hx] at hy
    cases hy
    simp [h2, hk]
  · rw [Array.getElem?_setIfInBounds_ne e]; exact h3 j y (by omega) hy
theorem IR.own {w : World} {g n B : Nat} {vs : List Int} (h : IR w g n vs n) (hv : vs.length = n) (hB : B ≤ g) (hn : n ≤ 1000) : w.ownsRow B 2 1 (.slice (some ⟨g, 0, none⟩) n n) n (numL vs) := by
  obtain ⟨cur, h1, h2, h3⟩ := h
  refine ⟨by simp [numL, hv], .inr ⟨g, n, cur, rfl, hB, h1, Nat.le_refl _, by unfold maxLen; omega, by omega, ?_⟩⟩
  refine List.ext_getElem? fun j => ?_
  rw [List.getElem?_take]
  by_cases hj : j < n
  · rw [if_pos (by omega), Array.getElem?_toList]
    have hx := List.getElem?_eq_getElem (l := vs) (i := j) (by omega)
    rw [h3 j _ hj hx]
    simp [numL, hx]
  · rw [if_neg (by omega), List.getElem?_eq_none]
    simp [numL]; omega
/-- What the iterator holds. -/
structure Ec (N : Nat) (w : World) (b1 b2 : Nat) (ks : List Int) (o : List Nat) : Prop where
  ex : ∃ w1 v1 v2, N = w1.heap.size ∧ Below N w1 w ∧ Boxed w1 b1 34 v1 ∧ Boxed w1 b2 22 v2 ∧ w1.ownsRow 0 3 1 v1 ks.length (numL (nL o)) ∧ w1.ownsRow 0 2 1 v2 ks.length (numL (o.map (kO ks)))
  ord : IsOrd ks o
theorem Ec.later {N : Nat} {w w' : World} {b1 b2 : Nat} {ks : List Int} {o : List Nat} (h : Ec N w b1 b2 ks o) (hb : Below w.heap.size w w') : Ec N w' b1 b2 ks o := by
  obtain ⟨w1, v1, v2, e1, e2, e3⟩ := h.ex
  exact ⟨⟨w1, v1, v2, e1, e2.trans (hb.mono (by rw [e1] at e2 ⊢; exact e2.size)), e3⟩, h.ord⟩
structure EcI (w : World) (b1 gr n : Nat) (Ao : Option Addr) (co : Nat) (o : List Nat) (vs : List Int) (k : Nat) (V : World) : Prop where
  ir : IR V gr n vs k
  d1 : Boxed V b1 34 (.slice Ao n co)
  d2 : Boxed V (gr + 1) 22 (.slice (some ⟨gr, 0, none⟩) n n)
  row : V.ownsRow w.heap.size 3 1 (.slice Ao n co) n (numL (nL o))
  bel : Below w.heap.size w V
theorem EcI.step {w V : World} {b1 gr n co k : Nat} {Ao : Option Addr} {o : List Nat} {vs : List Int} {x : Int} (h : EcI w b1 gr n Ao co o vs k V) (hk : k < n) (hx : vs[k]? = some x) (h1 : b1 ≠ gr) (hg : w.heap.size ≤ gr) (m : Nat) : EcI w b1 gr n Ao co o vs (k + 1) ((V.drewN m).setCell ⟨gr, k, none⟩ (.int .i64 x)) := by
  obtain ⟨cur, hc, _⟩ := h.ir
  have hb := below_drewN (Below.refl V.heap.size V) m
  have hir : IR (V.drewN m) gr n vs k := h.ir
  have hr := (Kept.of [] hb).row h.row (by simp)
  refine ⟨hir.step hk hx, box_set (show Boxed (V.drewN m) b1 _ _ from h.d1) h1 _ _, box_set (show Boxed (V.drewN m) (gr + 1) _ _ from h.d2) (by omega) _ _, ((Kept.refl [gr] (V.drewN m)).set gr k _ (by simp)).row hr (fun g hgo hm => ?_), (below_drewN h.bel m).setCell (p := ⟨gr, k, none⟩) hg _⟩
  simp only [List.mem_singleton] at hm
  subst hm
  exact own_ne hr (show (V.drewN m).heap[g]? = _ from hc) (by decide) hgo
def EcPost (ks : List Int) (w : World) (e : Ending) (w' : World) : Prop := ∃ b1 b2 o, e = .returned (.func (.func 38) #[] #[.pointer (some ⟨b1, 0, none⟩), .pointer (some ⟨b2, 0, none⟩)]) ∧ Ec w'.heap.size w' b1 b2 ks o ∧ Below w.heap.size w w'
set_option maxRecDepth 100000 in
set_option maxHeartbeats 8000000 in
theorem each_any (A : Option Addr) (cap : Nat) (js : List Fv) (w : World) (hR : FRow w A cap js) (hlen : js.length ≤ 1000) :
    Calls Try.prog 16 #[.slice A js.length cap] w (EcPost (rls js) w) := by
  have HO := Lib.hid (order_any A cap js w hR hlen)
  have HR := Lib.hid hR
  have HKL := Lib.hid (show (rls js).length = js.length by simp)
  obtain ⟨n, hn⟩ : ∃ n, js.length = n := ⟨_, rfl⟩
  have HN := Lib.hid hn
  rw [hn] at HO HKL hlen ⊢
  have HMK := Lib.hid (fun W => make_64 n hlen W)
  clear hR hn
  go_enter Try.func16, Try.ntmps16
  go_upto_region 2 with (go_at_call 25; (with_reducible refine HO.out.mono ?_); rintro e w1 ⟨v, o, rfl, ho, hown, hB1⟩; have HB1 := Lib.hid hB1; have HOR := Lib.hid ho; rw [HKL.out] at hown; obtain ⟨Ao, co, rfl, hco, _⟩ := own_len hown; have HOW := Lib.hid hown; clear ho hown hB1)
  obtain ⟨W1, hW1, d1, hb1⟩ : ∃ W1, w1.alloc (.cells #[.slice Ao n co] 34) = W1 ∧ Boxed W1 w1.heap.size 34 (.slice Ao n co) ∧ Below w1.heap.size w1 W1 := ⟨_, rfl, Boxed.new _ _ _, (Below.refl _ _).alloc (Nat.le_refl _) _⟩
  rw [hW1]
  have c1 := d1.cell
  have hmk := HMK.out W1
  clear hW1
  go_upto_region 3 with (fail)
  obtain ⟨W2, hW2, I0⟩ : ∃ W2, (W1.alloc (.cells (madeCells #[.int .i64 0] n) 2)).alloc (.cells #[.slice (some ⟨W1.heap.size, 0, none⟩) n n] 22) = W2 ∧ EcI w w1.heap.size W1.heap.size n Ao co o (o.map (kO (rls js))) 0 W2 := by
    have hb2 : Below W1.heap.size W1 ((W1.alloc (.cells (madeCells #[.int .i64 0] n) 2)).alloc (.cells #[.slice (some ⟨W1.heap.size, 0, none⟩) n n] 22)) := ((Below.refl _ _).alloc (Nat.le_refl _) _).alloc (by simp) _
    have n2 := Boxed.new (W1.alloc (.cells (madeCells #[.int .i64 0] n) 2)) 22 (.slice (some ⟨W1.heap.size, 0, none⟩) n n)
    simp only [World.size_alloc] at n2
    refine ⟨_, rfl, ⟨madeCells #[.int .i64 0] n, ?_, by rw [size_madeCells], fun j x hj => by omega⟩, (hb2.block _ d1.lt).trans d1, n2, (Kept.of [] (hb1.trans (hb2.mono hb1.size))).row HOW.out (by simp), HB1.out.trans ((hb1.trans (hb2.mono hb1.size)).mono HB1.out.size)⟩
    rw [Below.heap_alloc _ _ _ (by simp)]
    exact heap_alloc_new _ _
  rw [hW2]
  have hg1 : w1.heap.size < W1.heap.size := d1.lt
  have hgw : w.heap.size ≤ W1.heap.size := Nat.le_trans HB1.out.size (Nat.le_of_lt hg1)
  have cc1 := I0.d1.cell
  have HI0 := Lib.hid I0
  clear hmk HMK hW2 hb1 d1 c1 HOW HB1 I0
  generalize w1.heap.size = b1 at *
  generalize W1.heap.size = gr at *
  go_wp2
  go_loopw [14] (fun i wr => ∃ k : Nat, k ≤ n ∧ i = .int .i64 (k : Int) ∧ Hid (EcI w b1 gr n Ao co o (o.map (kO (rls js))) k wr)) (fun i _ => n - (intOf i).toNat)
  case atStart => exact ⟨0, Nat.zero_le _, rfl, HI0⟩
  case round =>
    obtain ⟨k, hk, rfl, hI⟩ := hrel
    clear cc1 HI0
    have hol : o.length = n := by rw [HOR.out.len, HKL.out]
    by_cases hkn : k < n
    · obtain ⟨p, hp⟩ : ∃ p, o[k]? = some p := ⟨o[k]'(by omega), List.getElem?_eq_getElem _⟩
      have hpn : p < n := by have := HOR.out.lt hp; rw [HKL.out] at this; exact this
      obtain ⟨x, hx⟩ : ∃ x, js[p]? = some x := ⟨js[p]'(by rw [HN.out]; exact hpn), List.getElem?_eq_getElem _⟩
      obtain ⟨b, oo, C, cc, rfl, hF⟩ := HR.out.at_ p x hx
      have jc := (hF.later hI.out.bel).c2
      obtain ⟨g, cg, hg, _, _, _, _, _⟩ := own_form hI.out.row (by omega)
      simp only [Value.slice.injEq] at hg
      obtain ⟨rfl, _, rfl⟩ := hg
      have oc : wr.cell? ⟨g, k, none⟩ = some (.int .i64 (p : Int)) := own_cell hI.out.row (g := g) rfl (by simp [numL, nL, hp])
      obtain ⟨⟨u, uc⟩, uf⟩ := hI.out.ir.cell hkn
      have c1 := hI.out.d1.cell
      have c2 := hI.out.d2.cell
      have HVX : Hid ((o.map (kO (rls js)))[k]? = some x.r) := Lib.hid (by simp [hp, kO_rls hx])
      have ik0 : (0 : Int) ≤ (k : Int) := by omega
      have ik1 : (k : Int) < (n : Int) := by omega
      have ip0 : (0 : Int) ≤ (p : Int) := by omega
      have ip1 : (p : Int) < (n : Int) := by omega
      clear hp hx hF hol
      go_upto_region 6 with (fail)
      go_still_tail 8, (by kernel_rfl)
      repeat still_step
      change wpList _ _ _ _ _ wr.drew
      have uc' : wr.drew.cell? ⟨gr, k, none⟩ = some u := uc
      have uf' : wr.drew.frozen? ⟨gr, k, none⟩ = false := uf
      clear uc uf
      go_wp2
      refine ⟨⟨k + 1, by omega, by go_num, Lib.hid (hI.out.step hkn HVX.out (by omega) hgw 1)⟩, by first | (simp [intOf]; done) | (simp [intOf]; omega)⟩
    · obtain rfl : k = n := by omega
      go_wp2
      go_ret
      refine ⟨b1, gr + 1, o, rfl, ⟨⟨wr, _, _, rfl, Below.refl _ _, hI.out.d1, hI.out.d2, ?_, ?_⟩, HOR.out⟩, hI.out.bel⟩
      · rw [HKL.out]; exact own_mono hI.out.row (Nat.zero_le _)
      · rw [HKL.out]; exact hI.out.ir.own (by simp [hol]) (Nat.zero_le _) hlen
end Go.Proofs.Ytnplbmbbocffbaa
/- Releases with their places, told one by one. -/
namespace Go.Proofs.Ytnplbmbbocffbaa
open Go.RowKit Go.Shelf
set_option linter.unusedVariables false
set_option linter.unusedSimpArgs false
attribute [local go_sem] Oper.semAt_some
def ValsE (x : Int × List Nat) (args : Array Value) (W : World) : Prop := ∃ v, args = #[.int .i64 x.1, v] ∧ W.ownsRow 0 3 1 v x.2.length (numL (nL x.2))
theorem row_keepN {N : Nat} {T : TypeId} {B base e size k : Nat} {W W' : World} {v : Value} {xs : List Value} (h : KeepN (· < N) T B W W') (hr : W.ownsRow base e size v k xs) (hv : ∀ g, v.ownBlock = some g → g < N) : W'.ownsRow base e size v k xs := by
  obtain ⟨h1, h2⟩ := hr
  refine ⟨h1, ?_⟩
  rcases h2 with h2 | ⟨g, cap, cur, hv', hg, hh, r⟩
  · exact .inl h2
  · exact .inr ⟨g, cap, cur, hv', hg, h.block g _ _ _ (.inl (hv g (by rw [hv']; rfl))) hh, r⟩
/-- While it goes. -/
structure Eg (N : Nat) (b1 b2 : Nat) (v1 v2 : Value) (ks : List Int) (o : List Nat) (W : World) : Prop where
  d1 : Boxed W b1 34 v1
  d2 : Boxed W b2 22 v2
  r1 : W.ownsRow 0 3 1 v1 ks.length (numL (nL o))
  r2 : W.ownsRow 0 2 1 v2 ks.length (numL (o.map (kO ks)))
  n1 : b1 < N ∧ b2 < N ∧ (∀ g, v1.ownBlock = some g → g < N) ∧ (∀ g, v2.ownBlock = some g → g < N)
theorem Eg.keepN {N b1 b2 B : Nat} {T : TypeId} {v1 v2 : Value} {ks : List Int} {o : List Nat} {W W' : World} (h : Eg N b1 b2 v1 v2 ks o W) (hk : KeepN (· < N) T B W W') : Eg N b1 b2 v1 v2 ks o W' :=
  ⟨hk.box h.d1 h.n1.1, hk.box h.d2 h.n1.2.1, row_keepN hk h.r1 h.n1.2.2.1, row_keepN hk h.r2 h.n1.2.2.2, h.n1⟩
theorem Eg.later {N b1 b2 : Nat} {v1 v2 : Value} {ks : List Int} {o : List Nat} {W W' : World} (h : Eg N b1 b2 v1 v2 ks o W) (hk : Below W.heap.size W W') : Eg N b1 b2 v1 v2 ks o W' := h.keepN (T := 0) (B := 0) (KeepN.kept (Kept.of [] hk) (by simp))
set_option maxRecDepth 100000 in
set_option maxHeartbeats 8000000 in
theorem eachseq {T : TypeId} (n : Nat) (hn1 : 1 ≤ n) {N b1 b2 : Nat} {ks : List Int} {o : List Nat} {w0 : World} (hM : Ec N w0 b1 b2 ks o) (hlen : ks.length ≤ 1000) :
    SeqW T ValsE n 38 #[.pointer (some ⟨b1, 0, none⟩), .pointer (some ⟨b2, 0, none⟩)] (· < N) (grp ks o) w0 := by
  intro l J Jx W hW hJB hY hJ
  obtain ⟨w1, v1, v2, hNw, hB1, x1, x2, r1, r2⟩ := (hM.later hW).ex
  have hB1' : Below w1.heap.size w1 W := by rw [← hNw]; exact hB1
  have E0 : Eg N b1 b2 v1 v2 ks o W := ⟨(hB1'.block b1 x1.lt).trans x1, (hB1'.block b2 x2.lt).trans x2, (Kept.of [] hB1').row r1 (by simp), (Kept.of [] hB1').row r2 (by simp), by rw [hNw]; exact x1.lt, by rw [hNw]; exact x2.lt, fun g hg => by rw [hNw]; exact (r1.lt g hg).2, fun g hg => by rw [hNw]; exact (r2.lt g hg).2⟩
  obtain ⟨A1, c1, rfl, _, _⟩ := own_len r1
  obtain ⟨A2, c2, rfl, _, _⟩ := own_len r2
  have HOL := Lib.hid hM.ord.len
  have HE := Lib.hid E0
  have HY := Lib.hid hY
  have HJ := Lib.hid hJ
  have HB := Lib.hid hJB
  obtain ⟨m, hm⟩ : ∃ m, ks.length = m := ⟨_, rfl⟩
  have HM := Lib.hid hm
  rw [hm] at hlen HOL HE
  have HKS : Hid (∀ W, Eg N b1 b2 (.slice A1 m c1) (.slice A2 m c2) ks o W → W.cell? ⟨b1, 0, none⟩ = some (.slice A1 m c1) ∧ W.cell? ⟨b2, 0, none⟩ = some (.slice A2 m c2) ∧ ∀ (k i : Nat), o[k]? = some i → (∃ g, A1 = some ⟨g, 0, none⟩ ∧ W.cell? ⟨g, k, none⟩ = some (.int .i64 (i : Int))) ∧ ∃ g, A2 = some ⟨g, 0, none⟩ ∧ W.cell? ⟨g, k, none⟩ = some (.int .i64 (kO ks i))) := Lib.hid (fun W hE => by
    refine ⟨hE.d1.cell, hE.d2.cell, fun k i hk => ?_⟩
    have hkm : 0 < ks.length := by have := (List.getElem?_eq_some_iff.1 hk).1; have := HOL.out; omega
    obtain ⟨g, cg, hg, _⟩ := own_form hE.r1 hkm
    obtain ⟨g2, cg2, hg2, _⟩ := own_form hE.r2 hkm
    have e1 := own_cell hE.r1 (g := g) (by rw [hg]; rfl) (i := k) (u := .int .i64 (i : Int)) (by simp [numL, nL, hk])
    have e2 := own_cell hE.r2 (g := g2) (by rw [hg2]; rfl) (i := k) (u := .int .i64 (kO ks i)) (by simp [numL, hk])
    simp only [Value.slice.injEq] at hg hg2
    exact ⟨⟨g, hg.1, e1⟩, g2, hg2.1, e2⟩)
  have HCM : Hid (m ≤ c1 ∧ c1 ≤ 9223372036854775807) := Lib.hid (by
    obtain ⟨A, cc, e, h1, h2⟩ := own_len r1
    simp only [Value.slice.injEq] at e
    obtain ⟨_, _, rfl⟩ := e
    unfold maxLen at h2
    omega)
  clear hW hJB hY hJ hM hNw hB1 hB1' x1 x2 r1 r2 E0 hm
  refine callsIn_of_wp Try.func38 rfl trivial ?_ rfl
  simp only [Try.ntmps38, List.size_toArray, List.length_cons, List.length_nil, Nat.reduceAdd, Nat.reduceSub, Array.replicate_succ, Array.replicate_zero, List.push_toArray, List.append_toArray, List.nil_append, List.cons_append]
  gi_wp2
  gi_loopg [4, 5] (m + 1) (fun mm s4 s5 wr => ∃ (f : Nat) (pre : List (Int × List Nat)), f ≤ m ∧ m - f < mm ∧ s4 = .int .i64 (f : Int) ∧ s5 = .int .i64 (f : Int) ∧ Hid (grp ks o = pre ++ grp ks (o.drop f)) ∧ Hid (J pre wr) ∧ Hid (Eg N b1 b2 (.slice A1 m c1) (.slice A2 m c2) ks o wr) ∧ Hid (W.heap.size ≤ wr.heap.size))
  case atStart => exact ⟨0, [], Nat.zero_le _, by omega, rfl, rfl, Lib.hid rfl, HJ, HE, Lib.hid (Nat.le_refl _)⟩
  case round =>
    generalize wr = W1 at *
    obtain ⟨f, pre, hf, hmm, rfl, rfl, hL, hJ1, hE, hSz⟩ := hrel
    clear HJ HE
    obtain ⟨k1, k2, kk⟩ := HKS.out W1 hE.out
    by_cases hfm : f < m
    · obtain ⟨i, hi⟩ : ∃ i, o[f]? = some i := ⟨o[f]'(by rw [HOL.out]; exact hfm), List.getElem?_eq_getElem _⟩
      obtain ⟨⟨g1, rfl, o1⟩, g2, rfl, o2⟩ := kk f i hi
      obtain ⟨r, hr⟩ : ∃ r, kO ks i = r := ⟨_, rfl⟩
      have HR := Lib.hid hr
      have HI := Lib.hid hi
      have HKK := Lib.hid kk
      rw [hr] at o2
      have if0 : (0 : Int) ≤ (f : Int) := by omega
      have if1 : (f : Int) < (m : Int) := by omega
      clear hr hi kk
      gi_wp2
      gi_loopw [5] (fun s5 wr => ∃ q : Nat, f ≤ q ∧ q ≤ m ∧ s5 = .int .i64 (q : Int) ∧ wr = W1 ∧ Hid (∀ j a, f ≤ j → j < q → o[j]? = some a → kO ks a = r)) (fun s5 _ => m - (intOf s5).toNat)
      case atStart => exact ⟨f, Nat.le_refl _, hf, rfl, rfl, Lib.hid (fun j a h1 h2 => by omega)⟩
      case round =>
        obtain ⟨q, hfq, hqm, rfl, rfl, hall⟩ := hrel
        by_cases hqlt : q < m
        · obtain ⟨a, ha⟩ : ∃ a, o[q]? = some a := ⟨o[q]'(by rw [HOL.out]; exact hqlt), List.getElem?_eq_getElem _⟩
          obtain ⟨_, g2', e2', oq⟩ := HKK.out q a ha
          cases e2'
          have iq0 : (0 : Int) ≤ (q : Int) := by omega
          have iqm : (q : Int) < (m : Int) := by omega
          have tq : decide ((q : Int) < (m : Int)) = true := decide_eq_true iqm
          obtain ⟨ka, hka⟩ : ∃ ka, kO ks a = ka := ⟨_, rfl⟩
          have HA := Lib.hid ha
          have HKA := Lib.hid hka
          rw [hka] at oq
          clear ha hka
          by_cases hke : ka = r
          · have te : (ka == r) = true := by rw [hke]; simp
            have HKE := Lib.hid hke
            clear hke
            gi_wp2
            refine ⟨⟨q + 1, by omega, by omega, by go_num, by first | rfl | trivial, Lib.hid (fun j a' h1 h2 h3 => ?_)⟩, by first | (simp [intOf]; done) | (simp [intOf]; omega)⟩
            rcases Nat.lt_or_ge j q with h | h
            · exact hall.out j a' h1 h h3
            · obtain rfl : j = q := by omega
              rw [HA.out] at h3
              cases h3
              rw [HKA.out, HKE.out]
          · have te : (ka == r) = false := by simpa using hke
            have HKE := Lib.hid hke
            clear hke
            have hqf : f < q := by
              rcases Nat.lt_or_ge f q with h | h
              · exact h
              · obtain rfl : f = q := by omega
                have h9 := HI.out
                rw [HA.out] at h9
                cases h9
                exact absurd (HKA.out.symm.trans HR.out) HKE.out
            have hrun : runE ks (o.drop f) r = q - f := runE_eq (by rw [List.length_drop, HOL.out]; omega) (fun j a hj ha => by rw [List.getElem?_drop] at ha; exact hall.out (f + j) a (by omega) (by omega) ha) (fun a ha => by rw [List.getElem?_drop, show f + (q - f) = q by omega] at ha; rw [HA.out] at ha; cases ha; rw [HKA.out]; exact HKE.out)
            have hdf : o.drop f = i :: o.drop (f + 1) := by
              have hfo : f < o.length := by rw [HOL.out]; exact hfm
              rw [List.drop_eq_getElem_cons hfo]
              have h9 := HI.out
              rw [List.getElem?_eq_getElem hfo] at h9
              rw [Option.some.inj h9]
            have hgrp : grp ks (o.drop f) = (r, (o.drop f).take (q - f)) :: grp ks (o.drop q) := by
              have h9 := grp_cons ks i (o.drop (f + 1))
              rw [← hdf, HR.out, hrun, List.drop_drop, show f + (q - f) = q by omega] at h9
              exact h9
            obtain ⟨pl, hpl⟩ : ∃ pl, (o.drop f).take (q - f) = pl := ⟨_, rfl⟩
            obtain ⟨d, hd⟩ : ∃ d, q - f = d := ⟨_, rfl⟩
            have hpll : pl.length = d := by rw [← hpl, List.length_take, List.length_drop, HOL.out]; omega
            have HLE : Hid (grp ks o = pre ++ (r, pl) :: grp ks (o.drop q)) := Lib.hid (by rw [hL.out, hgrp, hpl])
            have CL := cloneI g1 f d (c1 - f) (numL (nL pl)) wr (fun j u hu => by
              simp only [numL, nL, List.getElem?_map, Option.map_map] at hu
              cases hpj : pl[j]? with
              | none => rw [hpj] at hu; simp at hu
              | some a =>
                rw [hpj] at hu
                simp at hu
                have hoa : o[f + j]? = some a := by
                  rw [← hpl, List.getElem?_take] at hpj
                  split at hpj
                  · rw [List.getElem?_drop] at hpj; exact hpj
                  · cases hpj
                obtain ⟨⟨g', e', h'⟩, _⟩ := HKK.out (f + j) a hoa
                cases e'
                rw [h', ← hu]) (by simp [numL, nL, hpll]) (numL_one _) (by omega) (World.block_lt_of_cell? wr _ o1)
            have HCL := Lib.hid CL
            have HPLL := Lib.hid hpll
            have hcm1 := HCM.out.1
            have hcm2 := HCM.out.2
            have hcf : ¬ c1 = f := by omega
            have iq1 : (f : Int) ≤ (q : Int) := by omega
            have iq2 : (q : Int) ≤ (c1 : Int) := by omega
            have hdI : (q : Int) - (f : Int) = (d : Int) := by omega
            clear CL hpl hrun hdf hgrp hpll HKK
            gi_wp2_with (refine ⟨trivial, ?_⟩; gi_at_call 39; go_loud ((with_reducible refine (callsIn_wide.2 HCL.out).mono ?_); rintro e w3 ⟨v', rfl, hO, hB3⟩; have HB3 := Lib.hid hB3; have HJ3 := Lib.hid (HB.out _ _ _ hJ1.out (KeptT.below hB3)); obtain ⟨fn, tmps, assign, body, hy, hRd⟩ := HY.out pre (r, pl) (grp ks (o.drop q)) #[.int .i64 r, v'] w3 HJ3.out HLE.out ⟨v', rfl, by rw [HPLL.out]; exact own_mono hO (Nat.zero_le _)⟩; try dsimp only at hy))
            refine hRd.mono ?_
            rintro e W5 (⟨rfl, hJ5, hk5⟩ | ⟨rfl, hJx5⟩)
            · have HE5 := Lib.hid ((hE.out.later HB3.out).keepN hk5)
              have HSZ5 := Lib.hid (Nat.le_trans (Nat.le_trans hSz.out HB3.out.size) hk5.size)
              have HJ5 := Lib.hid hJ5
              clear hJ5 hk5 hy hRd
              gi_wp2
              gi_roundg (m - q + 1)
              case measure => omega
              case rel => exact ⟨q, pre ++ [(r, pl)], by omega, by omega, rfl, rfl, Lib.hid (by rw [HLE.out]; simp), HJ5, HE5, HSZ5⟩
            · clear hy hRd
              gi_wp2
              refine bodyPost_ret (results_none rfl _ _ _) rfl ?_
              exact ⟨⟨_, rfl⟩, .inr ⟨pre, _, _, HLE.out, hJx5⟩⟩
        · obtain rfl : q = m := by omega
          have tq : decide ((q : Int) < (q : Int)) = false := decide_eq_false (by omega)
          have hqf : f < q := hfm
          have hrun : runE ks (o.drop f) r = q - f := runE_eq (by rw [List.length_drop, HOL.out]; omega) (fun j a hj ha => by rw [List.getElem?_drop] at ha; exact hall.out (f + j) a (by omega) (by omega) ha) (fun a ha => by rw [List.getElem?_drop, show f + (q - f) = q by omega] at ha; have h9 := (List.getElem?_eq_some_iff.1 ha).1; rw [HOL.out] at h9; omega)
          have hdf : o.drop f = i :: o.drop (f + 1) := by
            have hfo : f < o.length := by rw [HOL.out]; exact hfm
            rw [List.drop_eq_getElem_cons hfo]
            have h9 := HI.out
            rw [List.getElem?_eq_getElem hfo] at h9
            rw [Option.some.inj h9]
          have hgrp : grp ks (o.drop f) = (r, (o.drop f).take (q - f)) :: grp ks (o.drop q) := by
            have h9 := grp_cons ks i (o.drop (f + 1))
            rw [← hdf, HR.out, hrun, List.drop_drop, show f + (q - f) = q by omega] at h9
            exact h9
          obtain ⟨pl, hpl⟩ : ∃ pl, (o.drop f).take (q - f) = pl := ⟨_, rfl⟩
          obtain ⟨d, hd⟩ : ∃ d, q - f = d := ⟨_, rfl⟩
          have hpll : pl.length = d := by rw [← hpl, List.length_take, List.length_drop, HOL.out]; omega
          have HLE : Hid (grp ks o = pre ++ (r, pl) :: grp ks (o.drop q)) := Lib.hid (by rw [hL.out, hgrp, hpl])
          have CL := cloneI g1 f d (c1 - f) (numL (nL pl)) wr (fun j u hu => by
            simp only [numL, nL, List.getElem?_map, Option.map_map] at hu
            cases hpj : pl[j]? with
            | none => rw [hpj] at hu; simp at hu
            | some a =>
              rw [hpj] at hu
              simp at hu
              have hoa : o[f + j]? = some a := by
                rw [← hpl, List.getElem?_take] at hpj
                split at hpj
                · rw [List.getElem?_drop] at hpj; exact hpj
                · cases hpj
              obtain ⟨⟨g', e', h'⟩, _⟩ := HKK.out (f + j) a hoa
              cases e'
              rw [h', ← hu]) (by simp [numL, nL, hpll]) (numL_one _) (by omega) (World.block_lt_of_cell? wr _ o1)
          have HCL := Lib.hid CL
          have HPLL := Lib.hid hpll
          have hcm1 := HCM.out.1
          have hcm2 := HCM.out.2
          have hcf : ¬ c1 = f := by omega
          have iq1 : (f : Int) ≤ (q : Int) := by omega
          have iq2 : (q : Int) ≤ (c1 : Int) := by omega
          have hdI : (q : Int) - (f : Int) = (d : Int) := by omega
          clear CL hpl hrun hdf hgrp hpll HKK
          gi_wp2_with (refine ⟨trivial, ?_⟩; gi_at_call 39; go_loud ((with_reducible refine (callsIn_wide.2 HCL.out).mono ?_); rintro e w3 ⟨v', rfl, hO, hB3⟩; have HB3 := Lib.hid hB3; have HJ3 := Lib.hid (HB.out _ _ _ hJ1.out (KeptT.below hB3)); obtain ⟨fn, tmps, assign, body, hy, hRd⟩ := HY.out pre (r, pl) (grp ks (o.drop q)) #[.int .i64 r, v'] w3 HJ3.out HLE.out ⟨v', rfl, by rw [HPLL.out]; exact own_mono hO (Nat.zero_le _)⟩; try dsimp only at hy))
          refine hRd.mono ?_
          rintro e W5 (⟨rfl, hJ5, hk5⟩ | ⟨rfl, hJx5⟩)
          · have HE5 := Lib.hid ((hE.out.later HB3.out).keepN hk5)
            have HSZ5 := Lib.hid (Nat.le_trans (Nat.le_trans hSz.out HB3.out.size) hk5.size)
            have HJ5 := Lib.hid hJ5
            clear hJ5 hk5 hy hRd
            gi_wp2
            gi_roundg (q - q + 1)
            case measure => omega
            case rel => exact ⟨q, pre ++ [(r, pl)], by omega, by omega, rfl, rfl, Lib.hid (by rw [HLE.out]; simp), HJ5, HE5, HSZ5⟩
          · clear hy hRd
            gi_wp2
            refine bodyPost_ret (results_none rfl _ _ _) rfl ?_
            exact ⟨⟨_, rfl⟩, .inr ⟨pre, _, _, HLE.out, hJx5⟩⟩
    · obtain rfl : f = m := by omega
      gi_wp2
      go_end0
      refine ⟨⟨_, rfl⟩, .inl ?_⟩
      have e := hL.out
      rw [List.drop_eq_nil_of_le (by rw [HOL.out]; exact Nat.le_refl _), grp_nil, List.append_nil] at e
      rw [e]
      exact hJ1.out
end Go.Proofs.Ytnplbmbbocffbaa
