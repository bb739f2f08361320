/- Texts about the program, one after the other: Ro, Od, SOw. -/
import Derived.Test.YtnplbmbbocffbaaG13
import Derived.Deep.RegionHeld3
import Derived.Test.YtnplbmbbocffbaaG5
/- The document's order, places and next one: the program's helpers of the law. -/
namespace Go.Proofs.Ytnplbmbbocffbaa
open Go.RowKit Go.Shelf
set_option linter.unusedVariables false
set_option linter.unusedSimpArgs false
attribute [local go_sem ↓] Go.wp_at_zero Go.wp_at_succ
set_option maxRecDepth 100000 in
set_option maxHeartbeats 4000000 in
theorem same_eq (o : List Nat) (n : Nat) (hn : o.length = n) (hl : n ≤ 1000) (B1 B2 : Nat) (v1 v2 : Value) (w : World) (h1 : w.ownsRow B1 3 1 v1 n (numL (nL o))) (h2 : w.ownsRow B2 3 1 v2 n (numL (nL o))) :
    Calls Try.prog 28 #[v1, v2] w fun e w' => e = .returned (.bool true) ∧ Below w.heap.size w w' := by
  obtain ⟨A1, c1, rfl, _, _⟩ := own_len h1
  obtain ⟨A2, c2, rfl, _, _⟩ := own_len h2
  have H1 := Lib.hid h1
  have H2 := Lib.hid h2
  have HN := Lib.hid hn
  clear h1 h2 hn
  go_enter Try.func28, Try.ntmps28
  go_wp2
  go_loopw [5] (fun i wr => ∃ k q : Nat, k ≤ n ∧ i = .int .i64 (k : Int) ∧ wr = w.drewN q) (fun i _ => n - (intOf i).toNat)
  case atStart => exact ⟨0, 0, Nat.zero_le _, rfl, rfl⟩
  case round =>
    obtain ⟨k, q, hk, rfl, rfl⟩ := hrel
    by_cases hkn : k < n
    · obtain ⟨p, hp⟩ : ∃ p, o[k]? = some p := ⟨o[k]'(by rw [HN.out]; exact hkn), List.getElem?_eq_getElem _⟩
      obtain ⟨g1, cg1, hg1, _, _, _, _, _⟩ := own_form H1.out (by omega)
      obtain ⟨g2, cg2, hg2, _, _, _, _, _⟩ := own_form H2.out (by omega)
      simp only [Value.slice.injEq] at hg1 hg2
      obtain ⟨rfl, _, rfl⟩ := hg1
      obtain ⟨rfl, _, rfl⟩ := hg2
      have e1 : w.cell? ⟨g1, k, none⟩ = some (.int .i64 (p : Int)) := own_cell H1.out (g := g1) rfl (by simp [numL, nL, hp])
      have e2 : w.cell? ⟨g2, k, none⟩ = some (.int .i64 (p : Int)) := own_cell H2.out (g := g2) rfl (by simp [numL, nL, hp])
      have ik0 : (0 : Int) ≤ (k : Int) := by omega
      have ik1 : (k : Int) < (n : Int) := by omega
      clear hp
      go_wp2
      go_quiet (fail)
      go_wp2
      exact ⟨⟨k + 1, q + nq, by omega, by go_num, by first | rfl | trivial⟩, by first | (simp [intOf]; done) | (simp [intOf]; omega)⟩
    · obtain rfl : k = n := by omega
      go_wp2
      go_ret
      exact ⟨rfl, below_drewN (Below.refl _ _) q⟩
/-- A row in which places are being laid by their rank. -/
def OR (w : World) (g n k : Nat) (ks : List Int) : Prop := ∃ cur : Array Value, w.heap[g]? = some (.cells cur 3 (0, 0)) ∧ cur.size = n ∧ ∀ j, j < k → cur[cntTo (aheadB ks j) n]? = some (.int .i64 (j : Int))
theorem rank_lt {ks : List Int} {k : Nat} (hk : k < ks.length) : cntTo (aheadB ks k) ks.length < ks.length := by
  obtain ⟨o, ho⟩ := ord_ex ks
  have h := (List.getElem?_eq_some_iff.1 (ho.at_ hk)).1
  rwa [ho.len] at h
theorem rank_inj {ks : List Int} {j k : Nat} (hj : j < ks.length) (hk : k < ks.length) (h : cntTo (aheadB ks j) ks.length = cntTo (aheadB ks k) ks.length) : j = k := by
  obtain ⟨o, ho⟩ := ord_ex ks
  have h1 := ho.at_ hj
  have h2 := ho.at_ hk
  rw [h, h2] at h1
  exact (Option.some.inj h1).symm
theorem OR.cell {w : World} {g n k : Nat} {ks : List Int} (h : OR w g n k ks) {i : Nat} (hi : i < n) : (∃ v, w.cell? ⟨g, i, none⟩ = some v) ∧ w.frozen? ⟨g, i, none⟩ = false := by
  obtain ⟨cur, h1, h2, h3⟩ := h
  exact ⟨⟨cur[i], by rw [cell_of_row w g i _ _ _ h1]; exact Array.getElem?_eq_getElem (by omega)⟩, frozen_of_row w g i _ _ h1⟩
theorem OR.step {w : World} {g n k p : Nat} {ks : List Int} (h : OR w g n k ks) (hn : ks.length = n) (hk : k < n) (hp : cntTo (aheadB ks k) n = p) : OR (w.setCell ⟨g, p, none⟩ (.int .i64 (k : Int))) g n (k + 1) ks := by
  obtain ⟨cur, h1, h2, h3⟩ := h
  subst hn
  refine ⟨cur.setIfInBounds p (.int .i64 (k : Int)), heap_setCell_same _ _ _ _ _ _ h1, by simp [h2], fun j hj => ?_⟩
  by_cases e : j = k
  · subst e
    have h9 := rank_lt hk
    rw [hp] at h9 ⊢
    rw [Array.getElem?_setIfInBounds_self_of_lt (by omega)]
  · rw [Array.getElem?_setIfInBounds_ne (fun e2 => e (rank_inj (by omega) hk (by rw [hp, e2])))]
    exact h3 j (by omega)
theorem OR.own {w : World} {g n B : Nat} {ks : List Int} {o : List Nat} (h : OR w g n n ks) (hn : ks.length = n) (ho : IsOrd ks o) (hB : B ≤ g) (hl : n ≤ 1000) : w.ownsRow B 3 1 (.slice (some ⟨g, 0, none⟩) n n) n (numL (nL o)) := by
  obtain ⟨cur, h1, h2, h3⟩ := h
  subst hn
  have hol := ho.len
  refine ⟨by simp [numL, nL]; omega, .inr ⟨g, ks.length, cur, rfl, hB, h1, Nat.le_refl _, by unfold maxLen; omega, by omega, ?_⟩⟩
  refine List.ext_getElem? fun q => ?_
  rw [List.getElem?_take]
  by_cases hq : q < ks.length
  · rw [if_pos (by omega), Array.getElem?_toList]
    have hx := List.getElem?_eq_getElem (l := o) (i := q) (by omega)
    have hr := ho.rank hx
    have h9 := h3 o[q] (by have := ho.lt hx; omega)
    rw [hr] at h9
    refine h9.trans ?_
    simp [numL, nL, hx]
  · rw [if_neg (by omega), List.getElem?_eq_none]
    simp [numL, nL]; omega
theorem ahead_at {ks : List Int} {k i : Nat} : aheadB ks i k = decide (kO ks k < kO ks i ∨ (kO ks k = kO ks i ∧ k < i)) := rfl
set_option maxRecDepth 100000 in
set_option maxHeartbeats 8000000 in
theorem rorder_any (A : Option Addr) (cap : Nat) (js : List Fv) (w : World) (hR : FRow w A cap js) (hlen : js.length ≤ 1000) :
    Calls Try.prog 29 #[.slice A js.length cap] w (OrdPost (rls js) w) := by
  have HR := Lib.hid hR
  have HKL := Lib.hid (show (rls js).length = js.length by simp [rls])
  obtain ⟨n, hn⟩ : ∃ n, js.length = n := ⟨_, rfl⟩
  have HN := Lib.hid hn
  have hle := hR.le
  have hmx := hR.mx
  rw [hn] at HKL hlen hle ⊢
  obtain ⟨c, hc, hmkA⟩ := make_ints n hlen w
  have hmk := hmkA w
  clear hmkA
  obtain ⟨W0, hW0, I0, hB0⟩ : ∃ W0, w.alloc (.cells c 3) = W0 ∧ OR W0 w.heap.size n 0 (rls js) ∧ Below w.heap.size w W0 := ⟨_, rfl, ⟨c, heap_alloc_new _ _, hc, fun j hj => absurd hj (by omega)⟩, (Below.refl _ _).alloc (Nat.le_refl _) _⟩
  rw [hW0] at hmk
  have HI0 := Lib.hid I0
  have HB0 := Lib.hid hB0
  clear hR hn hW0 I0 hB0 hc
  go_enter Try.func29, Try.ntmps29
  go_wp2
  go_loopw [4] (fun i wr => ∃ k : Nat, k ≤ n ∧ i = .int .i64 (k : Int) ∧ Hid (OR wr w.heap.size n k (rls js)) ∧ Hid (Below w.heap.size w wr)) (fun i _ => n - (intOf i).toNat)
  case atStart => exact ⟨0, Nat.zero_le _, rfl, HI0, HB0⟩
  case round =>
    generalize wr = W1 at *
    obtain ⟨i, hi, rfl, hO, hB⟩ := hrel
    clear HI0 HB0 hmk
    by_cases hin : i < n
    · obtain ⟨xi, hxi⟩ : ∃ x, js[i]? = some x := ⟨js[i]'(by rw [HN.out]; exact hin), List.getElem?_eq_getElem _⟩
      obtain ⟨b, oo, C, cc, rfl, hFi⟩ := HR.out.at_ i xi hxi
      have ji := (hFi.later hB.out).c2
      have HKI := Lib.hid (kO_rls hxi)
      have hi0 : (0 : Int) ≤ (i : Int) := by omega
      have hi1 : (i : Int) < (n : Int) := by omega
      obtain ⟨ri, hri⟩ : ∃ ri, xi.r = ri := ⟨_, rfl⟩
      rw [hri] at HKI ji
      clear hxi hFi hri
      obtain ⟨f, hf⟩ : ∃ f, aheadB (rls js) i = f := ⟨_, rfl⟩
      have HF : Hid (∀ k, f k = decide (kO (rls js) k < ri ∨ (kO (rls js) k = ri ∧ k < i))) := Lib.hid (fun k => by rw [← hf, ahead_at, HKI.out])
      have HP : Hid (cntTo f n < n) := Lib.hid (by rw [← hf]; have := rank_lt (ks := rls js) (k := i) (by rw [HKL.out]; exact hin); rwa [HKL.out] at this)
      have HFF := Lib.hid hf
      clear hf
      go_wp2
      go_loopw [5, 6] (fun c s wr => ∃ k q : Nat, k ≤ n ∧ s = .int .i64 (k : Int) ∧ c = .int .i64 (cntTo f k : Int) ∧ wr = W1.drewN q) (fun _ s _ => n - (intOf s).toNat)
      case atStart => exact ⟨0, 0, Nat.zero_le _, rfl, rfl, rfl⟩
      case round =>
        obtain ⟨k, q, hk, rfl, rfl, rfl⟩ := hrel
        by_cases hlt : k < n
        · obtain ⟨x, hx⟩ : ∃ x, js[k]? = some x := ⟨js[k]'(by rw [HN.out]; exact hlt), List.getElem?_eq_getElem _⟩
          obtain ⟨b', oo', C', cc', e', hF⟩ := HR.out.at_ k x hx
          simp only [Option.some.injEq, Addr.mk.injEq] at e'
          obtain ⟨rfl, rfl, -⟩ := e'
          have jk := (hF.later hB.out).c2
          have HFK := HF.out k
          rw [kO_rls hx] at HFK
          have HFK := Lib.hid HFK
          obtain ⟨r, hr⟩ : ∃ r, x.r = r := ⟨_, rfl⟩
          rw [hr] at HFK jk
          have hk0 : (0 : Int) ≤ (k : Int) := by omega
          have hk1 : (k : Int) < (n : Int) := by omega
          have hcl := cntTo_le f k
          have hc0 : (0 : Int) ≤ (cntTo f k : Int) := by omega
          have hc1 : (cntTo f k : Int) ≤ 1000 := by omega
          clear hx hcl hF hr
          by_cases h1 : r < ri
          · have h1' : decide (r < ri) = true := decide_eq_true h1
            have HNN := Lib.hid (cntTo_yes (f := f) (k := k) (by rw [HFK.out]; exact decide_eq_true (.inl h1)))
            go_wp2
            go_quiet (fail)
            go_wp2
            refine ⟨⟨k + 1, q + nq, by omega, by go_num, by rw [HNN.out]; go_num, by first | rfl | trivial⟩, by first | (simp [intOf]; done) | (simp [intOf]; omega)⟩
          · have h1' : decide (r < ri) = false := decide_eq_false h1
            have HN1 := Lib.hid h1
            clear h1
            by_cases h2 : r = ri
            · have h2' : (r == ri) = true := by simpa using h2
              have HN2 := Lib.hid h2
              clear h2
              by_cases h3 : k < i
              · have h3' : decide ((k : Int) < (i : Int)) = true := decide_eq_true (by omega)
                have h3'' : decide (k < i) = true := decide_eq_true h3
                have HNN := Lib.hid (cntTo_yes (f := f) (k := k) (by rw [HFK.out]; exact decide_eq_true (.inr ⟨HN2.out, h3⟩)))
                go_wp2
                go_quiet (fail)
                go_wp2
                refine ⟨⟨k + 1, q + nq, by omega, by go_num, by rw [HNN.out]; go_num, by first | rfl | trivial⟩, by first | (simp [intOf]; done) | (simp [intOf]; omega)⟩
              · have h3' : decide ((k : Int) < (i : Int)) = false := decide_eq_false (by omega)
                have h3'' : decide (k < i) = false := decide_eq_false h3
                have HNN := Lib.hid (cntTo_no (f := f) (k := k) (by rw [HFK.out]; exact decide_eq_false (fun h => h.elim HN1.out (fun h => h3 h.2))))
                go_wp2
                go_quiet (fail)
                go_wp2
                refine ⟨⟨k + 1, q + nq, by omega, by go_num, by rw [HNN.out], by first | rfl | trivial⟩, by first | (simp [intOf]; done) | (simp [intOf]; omega)⟩
            · have h2' : (r == ri) = false := by simpa using h2
              have HNN := Lib.hid (cntTo_no (f := f) (k := k) (by rw [HFK.out]; exact decide_eq_false (fun h => h.elim HN1.out (fun h => h2 h.1))))
              go_wp2
              go_quiet (fail)
              go_wp2
              refine ⟨⟨k + 1, q + nq, by omega, by go_num, by rw [HNN.out], by first | rfl | trivial⟩, by first | (simp [intOf]; done) | (simp [intOf]; omega)⟩
        · obtain rfl : k = n := by omega
          obtain ⟨p, hp⟩ : ∃ p, cntTo f k = p := ⟨_, rfl⟩
          have hpn := HP.out
          have HPP := Lib.hid hp
          rw [hp] at hpn ⊢
          have hOd : OR (W1.drewN q) w.heap.size k i (rls js) := hO.out
          obtain ⟨⟨u, uc⟩, uf⟩ := hOd.cell hpn
          have HOD := Lib.hid hOd
          have HBD := Lib.hid (below_drewN hB.out q)
          have ip0 : (0 : Int) ≤ (p : Int) := by omega
          have ip1 : (p : Int) < (k : Int) := by omega
          clear hp hOd
          generalize W1.drewN q = W2 at *
          go_wp2
          refine ⟨⟨i + 1, by omega, by go_num, Lib.hid (HOD.out.step HKL.out hin (by rw [HFF.out, HPP.out])), Lib.hid (HBD.out.setCell (p := ⟨w.heap.size, p, none⟩) (Nat.le_refl _) _)⟩, by first | (simp [intOf]; done) | (simp [intOf]; omega)⟩
    · obtain rfl : i = n := by omega
      obtain ⟨o, ho⟩ := ord_ex (rls js)
      have HO := Lib.hid ho
      clear ho
      go_wp2
      go_ret
      exact ⟨_, o, rfl, HO.out, by rw [HKL.out]; exact hO.out.own HKL.out HO.out (Nat.le_refl _) hlen, hB.out⟩
/-! ### The places of one number -/
def plcTo (ks : List Int) (r : Int) (k : Nat) : List Nat := (List.range k).filter (fun i => kO ks i == r)
theorem plcTo_succ (ks : List Int) (r : Int) (k : Nat) : plcTo ks r (k + 1) = if kO ks k = r then plcTo ks r k ++ [k] else plcTo ks r k := by
  rw [plcTo, List.range_succ, List.filter_append]
  by_cases h : kO ks k = r
  · rw [if_pos h, List.filter_cons_of_pos (by simpa using h)]; rfl
  · rw [if_neg h, List.filter_cons_of_neg (by simpa using h), List.filter_nil, List.append_nil]; rfl
theorem plcTo_le (ks : List Int) (r : Int) (k : Nat) : (plcTo ks r k).length ≤ k := by
  have h1 : (plcTo ks r k).length ≤ (List.range k).length := List.length_filter_le _ _
  rwa [List.length_range] at h1
structure PlI (w wr : World) (v : Value) (L : List Nat) : Prop where
  own : wr.ownsRow w.heap.size 3 1 v L.length (numL (nL L))
  bel : Below w.heap.size w wr
def AtP (L : List Nat) (w : World) (e : Ending) (w' : World) : Prop := ∃ v, e = .returned v ∧ w'.ownsRow w.heap.size 3 1 v L.length (numL (nL L)) ∧ Below w.heap.size w w'
set_option maxRecDepth 100000 in
set_option maxHeartbeats 8000000 in
theorem rat_any (A : Option Addr) (cap : Nat) (js : List Fv) (r : Int) (w : World) (hR : FRow w A cap js) (hlen : js.length ≤ 1000) :
    Calls Try.prog 30 #[.slice A js.length cap, .int .i64 r] w (AtP (plc (rls js) r) w) := by
  obtain ⟨i0, hi, hz0, hz1, hz2⟩ := info_parts infoI
  have HR := Lib.hid hR
  have HPL := Lib.hid (show plcTo (rls js) r js.length = plc (rls js) r by rw [plcTo, plc]; simp [rls])
  obtain ⟨n, hn⟩ : ∃ n, js.length = n := ⟨_, rfl⟩
  have HN := Lib.hid hn
  have hle := hR.le
  have hmx := hR.mx
  rw [hn] at HPL hlen hle ⊢
  clear hR hn
  go_enter Try.func30, Try.ntmps30
  go_wp2
  go_loopw [5, 6] (fun v i wr => ∃ k : Nat, k ≤ n ∧ i = .int .i64 (k : Int) ∧ Hid (PlI w wr v (plcTo (rls js) r k))) (fun _ i _ => n - (intOf i).toNat)
  case atStart => exact ⟨0, Nat.zero_le _, rfl, Lib.hid ⟨World.ownsRow_nil _ _ _ _, Below.refl _ _⟩⟩
  case round =>
    obtain ⟨k, hk, rfl, hI⟩ := hrel
    obtain ⟨Av, cv, rfl, _, _⟩ := own_len hI.out.own
    by_cases hkn : k < n
    · obtain ⟨x, hx⟩ : ∃ x, js[k]? = some x := ⟨js[k]'(by rw [HN.out]; exact hkn), List.getElem?_eq_getElem _⟩
      obtain ⟨b, o, C, cc, rfl, hF⟩ := HR.out.at_ k x hx
      have jc := (hF.later hI.out.bel).c2
      have HS := plcTo_succ (rls js) r k
      rw [kO_rls hx] at HS
      have HS := Lib.hid HS
      obtain ⟨rx, hrx⟩ : ∃ rx, x.r = rx := ⟨_, rfl⟩
      rw [hrx] at HS jc
      have hk0 : (0 : Int) ≤ (k : Int) := by omega
      have hk1 : (k : Int) < (n : Int) := by omega
      have hpl := plcTo_le (rls js) r k
      clear hx hF hrx
      obtain ⟨L, hL⟩ : ∃ L, plcTo (rls js) r k = L := ⟨_, rfl⟩
      rw [hL] at hI HS hpl ⊢
      have HPLL := Lib.hid hpl
      clear hL hpl
      by_cases he : rx = r
      · have te : (rx == r) = true := by simpa using he
        have HE := Lib.hid he
        clear he
        have HP := Lib.hid (one_new wr 3 (.int .i64 (k : Int)))
        go_wp2_with (refine wpList_append_own _ rfl _ _ 34 rfl w.heap.size 3 i0 _ 1 8 Try.underlying34 hi hz0 hz1 hz2 rfl (by decide) _ L.length (numL (nL L)) rfl (hI.out.own.alloc _) ⟨wr.heap.size, 0, none⟩ 1 1 [.int .i64 (k : Int)] rfl rfl HP.out (by intro v hv; simp only [List.mem_singleton] at hv; subst hv; rfl) (by have := HPLL.out; unfold maxLen; omega) (by have := HPLL.out; omega) (by have := hI.out.bel.size; simp; omega) ?_; intro v' w8 hown' hgrow hnil')
        refine ⟨⟨k + 1, by omega, by go_num, ?_⟩, by first | (simp [intOf]; done) | (simp [intOf]; omega)⟩
        rw [HS.out, if_pos HE.out]
        refine Lib.hid (show PlI w w8 v' (L ++ [k]) from ⟨?_, ((hI.out.bel).alloc hI.out.bel.size _).grown hgrow (by have := hI.out.bel.size; simp; omega) (fun q hq => (hI.out.own.lt q hq).1)⟩)
        have e9 : numL (nL (L ++ [k])) = numL (nL L) ++ [.int .i64 (k : Int)] := by simp [numL, nL]
        rw [e9, List.length_append]
        exact hown'
      · have te : (rx == r) = false := by simpa using he
        have HE := Lib.hid he
        clear he
        go_wp2
        refine ⟨⟨k + 1, by omega, by go_num, ?_⟩, by first | (simp [intOf]; done) | (simp [intOf]; omega)⟩
        rw [HS.out, if_neg HE.out]
        exact hI
    · obtain rfl : k = n := by omega
      rw [HPL.out] at hI ⊢
      have HI := hI
      clear hI
      go_wp2
      go_ret
      exact ⟨_, rfl, HI.out.own, HI.out.bel⟩
/-! ### The next one -/
structure GtI (w : World) (c4 c5 : Nat) (a : Option Int) (V : World) : Prop where
  g4 : V.heap[c4]? = some (.cells #[.int .i64 0, .bool false] 72 (0, 0))
  g5 : V.heap[c5]? = some (.cells #[.int .i64 (a.getD 0), .bool a.isSome] 72 (0, 0))
  bel : Below w.heap.size w V
theorem GtI.put {w V : World} {c4 c5 : Nat} {a : Option Int} (h : GtI w c4 c5 a V) (h45 : c4 ≠ c5) (h5 : w.heap.size ≤ c5) (a' : Option Int) : GtI w c4 c5 a' ((V.setCell ⟨c5, 0, none⟩ (.int .i64 (a'.getD 0))).setCell ⟨c5, 1, none⟩ (.bool a'.isSome)) := by
  refine ⟨?_, ?_, (h.bel.setCell (p := ⟨c5, 0, none⟩) h5 _).setCell (p := ⟨c5, 1, none⟩) h5 _⟩
  · rw [Below.heap_setCell _ _ _ _ (by simp; omega), Below.heap_setCell _ _ _ _ (by simp; omega)]
    exact h.g4
  · exact heap_setCell_same _ _ _ _ _ _ (heap_setCell_same _ _ _ _ _ _ h.g5)
def RNx (a : Option Int) (w : World) (e : Ending) (w' : World) : Prop := e = .returned (.agg #[.int .i64 (a.getD 0), .bool a.isSome]) ∧ Below w.heap.size w w'
theorem infoG9 : (Try.prog.info? 72).map (·.size) = some 2 := by kernel_rfl
theorem results_got9 {fn : Func} {p : Tmp} (h : fn.results = #[.cell p 72]) (tmps : Array Value) (w : World) (b : Nat) {x y : Value} (hp : tmps.getD p undef = .pointer (some ⟨b, 0, none⟩)) (hb : w.heap[b]? = some (.cells #[x, y] 72 (0, 0))) :
    (results fn tmps).run Try.prog w = .ok (.agg #[x, y]) w :=
  results_cell_row h tmps w b _ _ _ _ hp hb Try.underlying72 rfl infoG9
set_option maxRecDepth 100000 in
set_option maxHeartbeats 8000000 in
theorem rnext_any (A : Option Addr) (cap : Nat) (js : List Fv) (t : Int) (w : World) (hR : FRow w A cap js) (hlen : js.length ≤ 1000) :
    Calls Try.prog 31 #[.slice A js.length cap, .int .i64 t] w (RNx (nx js t js.length) w) := by
  have HR := Lib.hid hR
  obtain ⟨n, hn⟩ : ∃ n, js.length = n := ⟨_, rfl⟩
  have HN := Lib.hid hn
  have hle := hR.le
  have hmx := hR.mx
  rw [hn] at hlen hle ⊢
  obtain ⟨W0, hW0, I0⟩ : ∃ W0, (w.alloc (.cells #[.int .i64 0, .bool false] 72)).alloc (.cells #[.int .i64 0, .bool false] 72) = W0 ∧ GtI w w.heap.size (w.heap.size + 1) (nx js t 0) W0 := by
    have n1 := heap_alloc_new (w.alloc (.cells #[.int .i64 0, .bool false] 72)) (.cells #[.int .i64 0, .bool false] 72)
    simp only [World.size_alloc] at n1
    exact ⟨_, rfl, ⟨(Below.heap_alloc _ _ _ (by simp)).trans (heap_alloc_new _ _), n1, ((Below.refl _ _).alloc (Nat.le_refl _) _).alloc (by simp) _⟩⟩
  have HI0 := Lib.hid (I0.put (by omega) (by omega) none)
  have y0 : W0.cell? ⟨w.heap.size + 1, 0, none⟩ = some (.int .i64 0) := by rw [cell_of_row _ _ 0 _ _ _ I0.g5]; rfl
  have y1 : W0.cell? ⟨w.heap.size + 1, 1, none⟩ = some (.bool false) := by rw [cell_of_row _ _ 1 _ _ _ I0.g5]; rfl
  have yf0 : W0.frozen? ⟨w.heap.size + 1, 0, none⟩ = false := frozen_of_row _ _ 0 _ _ I0.g5
  have yf1 : W0.frozen? ⟨w.heap.size + 1, 1, none⟩ = false := frozen_of_row _ _ 1 _ _ I0.g5
  clear hR hn I0
  go_enter Try.func31, Try.ntmps31
  go_wp2
  go_loopw [6] (fun i wr => ∃ k : Nat, k ≤ n ∧ i = .int .i64 (k : Int) ∧ Hid (GtI w w.heap.size (w.heap.size + 1) (nx js t k) wr)) (fun i _ => n - (intOf i).toNat)
  case atStart => exact ⟨0, Nat.zero_le _, rfl, HI0⟩
  case round =>
    obtain ⟨k, hk, rfl, hI⟩ := hrel
    clear HI0
    have y0 : wr.cell? ⟨w.heap.size + 1, 0, none⟩ = some (.int .i64 ((nx js t k).getD 0)) := by rw [cell_of_row _ _ 0 _ _ _ hI.out.g5]; rfl
    have y1 : wr.cell? ⟨w.heap.size + 1, 1, none⟩ = some (.bool (nx js t k).isSome) := by rw [cell_of_row _ _ 1 _ _ _ hI.out.g5]; rfl
    have yf0 : wr.frozen? ⟨w.heap.size + 1, 0, none⟩ = false := frozen_of_row _ _ 0 _ _ hI.out.g5
    have yf1 : wr.frozen? ⟨w.heap.size + 1, 1, none⟩ = false := frozen_of_row _ _ 1 _ _ hI.out.g5
    by_cases hkn : k < n
    · obtain ⟨x, hx⟩ : ∃ x, js[k]? = some x := ⟨js[k]'(by rw [HN.out]; exact hkn), List.getElem?_eq_getElem _⟩
      obtain ⟨b, o, C, cc, rfl, hF⟩ := HR.out.at_ k x hx
      have jc := (hF.later hI.out.bel).c2
      have HS : Hid (nx js t (k + 1) = if x.r > t then upO (nx js t k) x.r else nx js t k) := Lib.hid (by rw [nx, hx])
      obtain ⟨rx, hrx⟩ : ∃ rx, x.r = rx := ⟨_, rfl⟩
      rw [hrx] at HS jc
      have hk0 : (0 : Int) ≤ (k : Int) := by omega
      have hk1 : (k : Int) < (n : Int) := by omega
      clear hx hF hrx
      obtain ⟨a, ha⟩ : ∃ a, nx js t k = a := ⟨_, rfl⟩
      rw [ha] at hI HS y0 y1
      clear ha
      by_cases hgt : rx > t
      · have t1 : decide (rx > t) = true := decide_eq_true hgt
        have t1' : decide (t < rx) = true := decide_eq_true hgt
        have HG := Lib.hid hgt
        clear hgt
        cases a with
        | none =>
          simp only [Option.getD_none, Option.isSome_none] at y0 y1
          go_wp2
          refine ⟨⟨k + 1, by omega, by go_num, ?_⟩, by first | (simp [intOf]; done) | (simp [intOf]; omega)⟩
          rw [HS.out, if_pos HG.out]
          exact Lib.hid (hI.out.put (by omega) (by omega) (some rx))
        | some b0 =>
          simp only [Option.getD_some, Option.isSome_some] at y0 y1
          by_cases hlt : rx < b0
          · have t2 : decide (rx < b0) = true := decide_eq_true hlt
            have HL := Lib.hid hlt
            clear hlt
            go_wp2
            refine ⟨⟨k + 1, by omega, by go_num, ?_⟩, by first | (simp [intOf]; done) | (simp [intOf]; omega)⟩
            rw [HS.out, if_pos HG.out, upO, if_pos HL.out]
            exact Lib.hid (hI.out.put (by omega) (by omega) (some rx))
          · have t2 : decide (rx < b0) = false := decide_eq_false hlt
            have HL := Lib.hid hlt
            clear hlt
            go_wp2
            refine ⟨⟨k + 1, by omega, by go_num, ?_⟩, by first | (simp [intOf]; done) | (simp [intOf]; omega)⟩
            rw [HS.out, if_pos HG.out, upO, if_neg HL.out]
            exact hI
      · have t1 : decide (rx > t) = false := decide_eq_false hgt
        have t1' : decide (t < rx) = false := decide_eq_false hgt
        have HG := Lib.hid hgt
        clear hgt
        go_wp2
        refine ⟨⟨k + 1, by omega, by go_num, ?_⟩, by first | (simp [intOf]; done) | (simp [intOf]; omega)⟩
        rw [HS.out, if_neg HG.out]
        exact hI
    · obtain rfl : k = n := by omega
      have z0 : wr.cell? ⟨w.heap.size, 0, none⟩ = some (.int .i64 0) := by rw [cell_of_row _ _ 0 _ _ _ hI.out.g4]; rfl
      have z1 : wr.cell? ⟨w.heap.size, 1, none⟩ = some (.bool false) := by rw [cell_of_row _ _ 1 _ _ _ hI.out.g4]; rfl
      have zf0 : wr.frozen? ⟨w.heap.size, 0, none⟩ = false := frozen_of_row _ _ 0 _ _ hI.out.g4
      have zf1 : wr.frozen? ⟨w.heap.size, 1, none⟩ = false := frozen_of_row _ _ 1 _ _ hI.out.g4
      have R9 : Hid (((wr.setCell ⟨w.heap.size, 0, none⟩ (.int .i64 ((nx js t k).getD 0))).setCell ⟨w.heap.size, 1, none⟩ (.bool (nx js t k).isSome)).heap[w.heap.size]? = some (.cells #[.int .i64 ((nx js t k).getD 0), .bool (nx js t k).isSome] 72 (0, 0))) := Lib.hid (heap_setCell_same _ _ 1 _ _ (.bool (nx js t k).isSome) (heap_setCell_same _ _ 0 _ _ (.int .i64 ((nx js t k).getD 0)) hI.out.g4))
      have B9 := Lib.hid ((hI.out.bel.setCell (p := ⟨w.heap.size, 0, none⟩) (Nat.le_refl _) (.int .i64 ((nx js t k).getD 0))).setCell (p := ⟨w.heap.size, 1, none⟩) (Nat.le_refl _) (.bool (nx js t k).isSome))
      go_wp2
      (try simp only [Exit.inBlock, Exit.then])
      exact bodyPost_ret (v := .agg #[.int .i64 ((nx js t k).getD 0), .bool (nx js t k).isSome]) (results_got9 rfl _ _ _ rfl R9.out) rfl ⟨rfl, B9.out⟩
end Go.Proofs.Ytnplbmbbocffbaa
/- The law's helper: order, places and next ones are as the document tells. -/
namespace Go.Proofs.Ytnplbmbbocffbaa
open Go.RowKit Go.Shelf
set_option linter.unusedVariables false
set_option linter.unusedSimpArgs false
attribute [local go_sem] Oper.semAt_some
theorem row_grown {B base e size k : Nat} {W W' : World} {row : Option Nat} {v : Value} {xs : List Value} (h : W.ownsRow base e size v k xs) (hg : W.grownBy W' row) (hr : ∀ r, row = some r → B ≤ r ∧ ∃ o : Obj, W.heap[r]? = some o ∧ o.isCells = false) : W'.ownsRow base e size v k xs :=
  (kept_grown (X := row.toList) hg (fun q e => by simp [e])).row h (fun g hgo hm => by
    rw [Option.mem_toList] at hm
    obtain ⟨_, o, ho, hc⟩ := hr g hm
    rcases h.2 with ⟨h1, _⟩ | ⟨g', cp, cur, h1, _, hh, _⟩
    · rw [h1] at hgo; simp [Value.ownBlock] at hgo
    · rw [h1] at hgo
      simp only [Value.ownBlock, Option.some.injEq] at hgo
      subst hgo
      rw [hh] at ho
      cases ho
      simp [Obj.isCells] at hc)
def sumL (pre : List (Int × List Nat)) : Nat := (pre.map (·.2.length)).sum
def lst (pre : List (Int × List Nat)) : Int := (pre.getLast?.map (·.1)).getD (-9223372036854775808)
theorem sumL_snoc (pre : List (Int × List Nat)) (x : Int × List Nat) : sumL (pre ++ [x]) = sumL pre + x.2.length := by simp [sumL]
theorem lst_snoc (pre : List (Int × List Nat)) (x : Int × List Nat) : lst (pre ++ [x]) = x.1 := by simp [lst]
theorem grp_step {ks : List Int} {o : List Nat} {L pre r : List (Int × List Nat)} {x : Int × List Nat} (h : GrpOk ks o L) (ho : IsOrd ks o) (hL : L = pre ++ x :: r) :
    x.2 = plc ks x.1 ∧ x.2 ≠ [] ∧ (sumL pre = 0 ∨ lst pre < x.1) ∧ sumL pre + x.2.length ≤ ks.length := by
  have hx : x ∈ L := by rw [hL]; simp
  refine ⟨h.places ho hx, (h.each x hx).1, ?_, ?_⟩
  · rcases List.eq_nil_or_concat pre with rfl | ⟨q, y, rfl⟩
    · exact .inl rfl
    · rw [List.concat_eq_append] at hL ⊢
      rw [lst_snoc]
      have hinc := h.inc
      rw [hL] at hinc
      exact .inr ((List.pairwise_append.1 hinc).2.2 y (by simp) x (by simp))
  · have ht := h.total
    rw [ho.len, hL, List.map_append, List.map_cons, List.sum_append, List.sum_cons] at ht
    unfold sumL
    omega
structure OsI (w2 : World) (c7 c8 : Nat) (m : Int) (t : Int) (V : World) : Prop where
  b7 : Boxed V c7 3 (.int .i64 m)
  b8 : Boxed V c8 2 (.int .i64 t)
  bel : Below w2.heap.size w2 V
theorem OsI.own {w : World} {c7 c8 : Nat} {m t : Int} {W W' : World} {row : Option Nat} {B : Nat} (h : OsI w c7 c8 m t W) (hB : w.heap.size ≤ B) (hg : W.grownBy W' row) (hr : ∀ r, row = some r → B ≤ r ∧ ∃ o : Obj, W.heap[r]? = some o ∧ o.isCells = false) : OsI w c7 c8 m t W' :=
  ⟨boxed_kept h.b7 hg (fun r e => (hr r e).2), boxed_kept h.b8 hg (fun r e => (hr r e).2), h.bel.grown hg h.bel.size (fun q e => by have := (hr q e).1; omega)⟩
theorem OsI.keptT {w : World} {c7 c8 : Nat} {m t : Int} {W W' : World} {B : Nat} (h : OsI w c7 c8 m t W) (hk : KeptT 56 B W W') (hB : w.heap.size ≤ B) : OsI w c7 c8 m t W' :=
  ⟨hk.box h.b7 (by decide), hk.box h.b8 (by decide), h.bel.trans ((hk.mono hB).bel h.bel.size)⟩
theorem OsI.later {w : World} {c7 c8 : Nat} {m t : Int} {W W' : World} (h : OsI w c7 c8 m t W) (hb : Below W.heap.size W W') : OsI w c7 c8 m t W' :=
  ⟨(hb.block _ h.b7.lt).trans h.b7, (hb.block _ h.b8.lt).trans h.b8, h.bel.trans (hb.mono h.bel.size)⟩
theorem OsI.put {w : World} {c7 c8 : Nat} {m t : Int} {W : World} (h : OsI w c7 c8 m t W) (hne : c7 ≠ c8) (h7 : w.heap.size ≤ c7) (h8 : w.heap.size ≤ c8) (m' r : Int) : OsI w c7 c8 m' r ((W.setCell ⟨c8, 0, none⟩ (.int .i64 r)).setCell ⟨c7, 0, none⟩ (.int .i64 m')) :=
  ⟨Boxed.set _ (h.b7.other hne _), (Boxed.set _ h.b8).other (Ne.symm hne) _, (h.bel.setCell (p := ⟨c8, 0, none⟩) h8 _).setCell (p := ⟨c7, 0, none⟩) h7 _⟩
def NxV (qv : Int) (qb : Bool) (w : World) (e : Ending) (w' : World) : Prop := e = .returned (.tuple #[.int .i64 qv, .bool qb]) ∧ Below w.heap.size w w'
def RNxV (qv : Int) (qb : Bool) (w : World) (e : Ending) (w' : World) : Prop := e = .returned (.agg #[.int .i64 qv, .bool qb]) ∧ Below w.heap.size w w'
theorem next_two {A : Option Addr} {cap : Nat} {js : List Fv} (W0 : World) (hR : FRow W0 A cap js) (hlen : js.length ≤ 1000) (t : Int) :
    ∃ qv qb, (∀ W, Below W0.heap.size W0 W → Calls Try.prog 17 #[.slice A js.length cap, .int .i64 t] W (NxV qv qb W)) ∧ ∀ W, Below W0.heap.size W0 W → Calls Try.prog 31 #[.slice A js.length cap, .int .i64 t] W (RNxV qv qb W) :=
  ⟨(nx js t js.length).getD 0, (nx js t js.length).isSome, fun W hW => next_any A cap js t W (hR.later hW) hlen, fun W hW => rnext_any A cap js t W (hR.later hW) hlen⟩
theorem same_ex (o : List Nat) (n B1 B2 : Nat) (v1 v2 : Value) (w : World) (hn : o.length = n) (hl : n ≤ 1000) (h1 : w.ownsRow B1 3 1 v1 n (numL (nL o))) (h2 : w.ownsRow B2 3 1 v2 n (numL (nL o))) : Calls Try.prog 28 #[v1, v2] w (OkB w) := same_eq o n hn hl B1 B2 v1 v2 w h1 h2
set_option maxRecDepth 100000 in
set_option maxHeartbeats 8000000 in
theorem orders_any (A : Option Addr) (cap : Nat) (js : List Fv) (t : Int) (w : World) (hR : FRow w A cap js) (hlen : js.length ≤ 1000) :
    Calls Try.prog 11 #[.slice A js.length cap, .int .i64 t] w (OkB w) := by
  have hfn := run_eql_nilE
  obtain ⟨W0, hW0, b0, b1, hB0⟩ : ∃ W0, (w.alloc (.cells #[.slice A js.length cap] 29)).alloc (.cells #[.bool false] 4) = W0 ∧ Boxed W0 w.heap.size 29 (.slice A js.length cap) ∧ Boxed W0 (w.heap.size + 1) 4 (.bool false) ∧ Below w.heap.size w W0 := by
    have n1 := Boxed.new (w.alloc (.cells #[.slice A js.length cap] 29)) 4 (.bool false)
    simp only [World.size_alloc] at n1
    exact ⟨_, rfl, Boxed.alloc (Boxed.new _ _ _) _, n1, ((Below.refl _ _).alloc (Nat.le_refl _) _).alloc (by simp) _⟩
  have hR0 := hR.later hB0
  have HOR := Lib.hid (fun W (hW : Below W0.heap.size W0 W) => order_any A cap js W (hR0.later hW) hlen)
  have HRO := Lib.hid (fun W (hW : Below W0.heap.size W0 W) => rorder_any A cap js W (hR0.later hW) hlen)
  have HEA := Lib.hid (fun W (hW : Below W0.heap.size W0 W) => each_any A cap js W (hR0.later hW) hlen)
  have HAT := Lib.hid (fun W r (hW : Below W0.heap.size W0 W) => rat_any A cap js r W (hR0.later hW) hlen)
  have HNX := Lib.hid (next_two W0 hR0 hlen)
  have HKL := Lib.hid (show (rls js).length = js.length by simp [rls])
  have HLR : Hid ((rls js).length ≤ 1000) := Lib.hid (by rw [HKL.out]; exact hlen)
  have HX0 := Lib.hid b0
  have HX1 := Lib.hid b1
  have HB0 := Lib.hid hB0
  obtain ⟨n, hn⟩ : ∃ n, js.length = n := ⟨_, rfl⟩
  rw [hn] at hW0 HOR HRO HEA HAT HNX HKL HX0 hlen ⊢
  clear hR hR0 b0 b1 hB0 hn
  refine (callsIn_wide (n := 9)).1 ?_
  refine callsIn_of_wp_marks Try.func11 rfl trivial ?_ rfl
  simp only [Try.ntmps11, List.size_toArray, List.length_cons, List.length_nil, Nat.reduceAdd, Nat.reduceSub, Array.replicate_succ, Array.replicate_zero, List.push_toArray, List.append_toArray, List.nil_append, List.cons_append]
  gi_upto_region 1 with (fail)
  try rw [hW0]
  have HBD := Lib.hid (below_drew W0)
  have c0d : W0.drew.cell? ⟨w.heap.size, 0, none⟩ = some (.slice A n cap) := HX0.out.cell
  have HKEEP : Hid (∀ W, Below W0.heap.size W0 W → W.cell? ⟨w.heap.size, 0, none⟩ = some (.slice A n cap)) := Lib.hid (fun W hW => (show Boxed W w.heap.size 29 (.slice A n cap) from (hW.block _ HX0.out.lt).trans HX0.out).cell)
  clear hW0
  refine (wpIn_wide (n := 9)).2 ?_
  refine wp_norm ?_
  go_region_held3 (fun W => W.cell? ⟨w.heap.size, 0, none⟩ = some (.slice A n cap))
    (first | (with_reducible assumption) | fail)
    (first
    | (go_at_call 25; (with_reducible refine (HOR.out _ HBD.out).mono ?_); rintro e w1 ⟨v1, o1, rfl, ho1, hr1, hB1⟩; have HO1 := Lib.hid ho1; have HR1 := Lib.hid hr1; have HB1 := Lib.hid (HBD.out.trans (hB1.mono HBD.out.size)); have k1 := HKEEP.out w1 HB1.out; clear ho1 hr1 hB1)
    | (go_at_call 29; (with_reducible refine (HRO.out _ HB1.out).mono ?_); rintro e w2 ⟨v2, o2, rfl, ho2, hr2, hB2⟩; obtain rfl := HO1.out.eq ho2; have HR2 := Lib.hid hr2; have HR1' := Lib.hid ((Kept.of [] hB2).row HR1.out (by simp)); have HB2 := Lib.hid (HB1.out.trans (hB2.mono HB1.out.size)); have k2 := HKEEP.out w2 HB2.out; have HSM := Lib.hid (same_ex o1 _ _ _ v1 v2 w2 HO1.out.len (by rw [HKL.out]; omega) HR1'.out HR2.out); clear ho2 hr2 hB2)
    | (go_at_call 28; (with_reducible refine HSM.out.mono ?_); rintro e w3 ⟨rfl, hB3⟩; have HB3 := Lib.hid (HB2.out.trans (hB3.mono HB2.out.size)); have k3 := HKEEP.out w3 HB3.out; clear hB3)
    | fail)
  dsimp only
  simp only [Exit.then]
  apply_assumption
  rename_i hHeld
  clear HSM HR1' HR2 HR1 HO1 HB2 HB1 hHeld k1 k2 c0d HBD HOR HRO
  have HEAw := Lib.hid (HEA.out w3 HB3.out)
  gi_upto_region 3 with (refine ⟨trivial, ?_⟩; gi_at_call 16; go_loud ((with_reducible refine (callsIn_wide.2 HEAw.out).mono ?_); rintro e w2 ⟨b1, b2, o, rfl, hE, hB2⟩; have HE := Lib.hid hE; have HB2 := Lib.hid (HB3.out.trans (hB2.mono HB3.out.size)); clear hE hB2))
  gi_wp2
  clear hfn HEA HEAw k3
  obtain ⟨W3, hW3, b7, b8, hb3⟩ : ∃ W3, (w2.alloc (.cells #[.int .i64 0] 3)).alloc (.cells #[.int .i64 (-9223372036854775808)] 2) = W3 ∧ Boxed W3 w2.heap.size 3 (.int .i64 0) ∧ Boxed W3 (w2.heap.size + 1) 2 (.int .i64 (-9223372036854775808)) ∧ Below w2.heap.size w2 W3 := by
    have n1 := Boxed.new (w2.alloc (.cells #[.int .i64 0] 3)) 2 (.int .i64 (-9223372036854775808))
    simp only [World.size_alloc] at n1
    exact ⟨_, rfl, Boxed.alloc (Boxed.new _ _ _) _, n1, ((Below.refl _ _).alloc (Nat.le_refl _) _).alloc (by simp) _⟩
  rw [hW3]
  have SQ := eachseq (T := 56) (9 - 1) (by omega) (HE.out.later hb3) HLR.out
  have HGO := Lib.hid HE.out.ord.grp
  have HST : Hid (∀ pre x r, grp (rls js) o = pre ++ x :: r → x.2 = plc (rls js) x.1 ∧ x.2 ≠ [] ∧ (sumL pre = 0 ∨ lst pre < x.1) ∧ sumL pre + x.2.length ≤ n) := Lib.hid (fun pre x r hL => by
    have h9 := grp_step HGO.out HE.out.ord hL
    rwa [HKL.out] at h9)
  have HTOT : Hid (sumL (grp (rls js) o) = n) := Lib.hid (by rw [sumL, HGO.out.total, HE.out.ord.len, HKL.out])
  have I3 : OsI w2 w2.heap.size (w2.heap.size + 1) (sumL [] : Nat) (lst []) W3 := ⟨b7, b8, hb3⟩
  have HC0 : Hid (∀ W, Below w2.heap.size w2 W → Boxed W w.heap.size 29 (.slice A n cap)) := Lib.hid (fun W hW => by
    have h9 := HB2.out.trans (hW.mono HB2.out.size)
    exact (h9.block _ HX0.out.lt).trans HX0.out)
  have HC1 : Hid (∀ W, Below w2.heap.size w2 W → Boxed W (w.heap.size + 1) 4 (.bool false)) := Lib.hid (fun W hW => by
    have h9 := HB2.out.trans (hW.mono HB2.out.size)
    exact (h9.block _ HX1.out.lt).trans HX1.out)
  have h1w := Nat.lt_of_lt_of_le HX1.out.lt HB2.out.size
  have h23 := hb3.size
  have hs8 := b8.lt
  have HB02 := Lib.hid (HB0.out.trans (HB2.out.mono HB0.out.size))
  have HUP : Hid (∀ W, Below w2.heap.size w2 W → Below W0.heap.size W0 W) := Lib.hid (fun W hW => HB2.out.trans (hW.mono HB2.out.size))
  generalize grp (rls js) o = L at *
  clear hW3 b7 b8 hb3 HE HGO HLR HB3 HB2 HB0 HX0 HX1 HKEEP
  refine wpIn_named fun frm hfr => ?_
  refine rangeW (Vals := ValsE) (gf := 38) (lb := #[.pointer (some ⟨b1, 0, none⟩), .pointer (some ⟨b2, 0, none⟩)]) (by rw [hfr]; rfl) (enters_of Try.func38 (by kernel_rfl) rfl) SQ (Below.refl _ _) (fun x args W h => by obtain ⟨v, rfl, _⟩ := h; rfl)
    (fun pre V => OsI w2 w2.heap.size (w2.heap.size + 1) (sumL pre : Nat) (lst pre) V) (fun _ _ _ => False)
    (fun pre X Y row h hg hr => OsI.own h h23 hg hr) (fun _ _ _ _ _ h _ _ => h) (fun pre W4 W5 h hk => OsI.keptT h hk h23) I3
    (fun x a' V => ∃ v, a' = { tmps := ((((frm.tmps.setIfInBounds 32 (.int .i64 x.1)).setIfInBounds 33 v).setIfInBounds 9 (.int .i64 x.1)).setIfInBounds 10 v), defers := [] } ∧ V.ownsRow 0 3 1 v x.2.length (numL (nL x.2)))
    (fun p X Y row h hg hr => by
      obtain ⟨v, h1, h2⟩ := h
      exact ⟨v, h1, row_grown h2 hg hr⟩)
    ?assign ?body ?done ?stop
  case assign =>
    rintro l2 pre x args V K hI ⟨v, rfl, hv⟩ hK
    subst hfr
    gi_wp2
    exact hK _ _ (KeepsFrom.refl _ _) (KeepN.refl _ _ _ _) hI ⟨v, rfl, hv⟩
  case body =>
    rintro l2 pre ⟨r, pl⟩ rr a' V hI ⟨v, rfl, hv⟩ hL
    subst hfr
    obtain ⟨hpl, hne, hgt, hsum⟩ := HST.out pre (r, pl) rr hL
    have HPL : Hid (plc (rls js) r = pl) := Lib.hid hpl.symm
    have hd : 0 < pl.length := List.length_pos_iff.2 hne
    simp only at hgt hsum hv
    have HSN : Hid (sumL (pre ++ [(r, pl)]) = sumL pre + pl.length) := Lib.hid (sumL_snoc pre (r, pl))
    have HLN : Hid (lst (pre ++ [(r, pl)]) = r) := Lib.hid (lst_snoc pre (r, pl))
    obtain ⟨m, hm⟩ : ∃ m, sumL pre = m := ⟨_, rfl⟩
    obtain ⟨d, hdd⟩ : ∃ d, pl.length = d := ⟨_, rfl⟩
    obtain ⟨ls, hls⟩ : ∃ ls, lst pre = ls := ⟨_, rfl⟩
    rw [hm] at hI hgt hsum HSN
    rw [hdd] at hd hsum HSN hv
    rw [hls] at hI hgt
    have HDD := Lib.hid hdd
    have HV := Lib.hid hv
    have HI := Lib.hid hI
    have HA1 : Hid (Calls Try.prog 30 #[.slice A n cap, .int .i64 r] V (AtP pl V)) := Lib.hid (by have := HAT.out V r (HUP.out V hI.bel); rwa [HPL.out] at this)
    obtain ⟨qv, qb, hq1, hq2⟩ := HNX.out r
    have HQ1 := Lib.hid hq1
    have HQ2 := Lib.hid hq2
    have c0c := (HC0.out V hI.bel).cell
    have c7c := hI.b7.cell
    have c8c := hI.b8.cell
    obtain ⟨Av, cv, rfl, _, _⟩ := own_len hv
    have td : ((d : Int) == 0) = false := by rw [beq_eq_false_iff_ne]; omega
    have td2 : (d == 0) = false := by rw [beq_eq_false_iff_ne]; omega
    have td3 : ¬ d = 0 := by omega
    clear hpl hne hm hdd hls hv hI hL hq1 hq2
    by_cases hm0 : m = 0
    · subst hm0
      gi_upto_region 15 with (first
        | (refine ⟨trivial, ?_⟩; gi_at_call 30; go_loud ((with_reducible refine (CallsIn.inRound _ (callsIn_wide.2 HA1.out)).mono ?_); rintro e w4 ⟨v4, rfl, hO4, hB4⟩; have HI4 := Lib.hid (HI.out.later hB4); have HB4 := Lib.hid hB4; have HV4 := Lib.hid ((Kept.of [] hB4).row HV.out (by simp)); rw [HDD.out] at hO4; have HSM := Lib.hid (same_ex pl d _ _ _ v4 w4 HDD.out (by omega) HV4.out hO4); clear hO4 hB4))
        | (refine ⟨trivial, ?_⟩; gi_at_call 28; go_loud ((with_reducible refine (CallsIn.inRound _ (callsIn_wide.2 HSM.out)).mono ?_); rintro e w5 ⟨rfl, hB5⟩; have HI5 := Lib.hid (HI4.out.later hB5); have HB5 := Lib.hid (HB4.out.trans (hB5.mono HB4.out.size)); have c0c := (HC0.out w5 HI5.out.bel).cell; have c7c := HI5.out.b7.cell; have c7f := HI5.out.b7.frozen; have c8c := HI5.out.b8.cell; have c8f := HI5.out.b8.frozen; clear hB5)))
      obtain ⟨X, hX, HIX, HKX⟩ : ∃ X, (w5.setCell ⟨w2.heap.size + 1, 0, none⟩ (.int .i64 r)).setCell ⟨w2.heap.size, 0, none⟩ (.int .i64 (d : Int)) = X ∧ Hid (OsI w2 w2.heap.size (w2.heap.size + 1) (d : Int) r X) ∧ Hid (Kept [w2.heap.size, w2.heap.size + 1] V X) :=
        ⟨_, rfl, Lib.hid (HI5.out.put (by omega) (Nat.le_refl _) (by omega) _ r), Lib.hid (((Kept.of _ HB5.out).set _ 0 _ (by simp)).set _ 0 _ (by simp))⟩
      rw [hX]
      have HQ3 := Lib.hid (HQ1.out X (HUP.out X HIX.out.bel))
      have c0c := (HC0.out X HIX.out.bel).cell
      clear hX
      gi_wp2_with (first
        | (refine ⟨trivial, ?_⟩; gi_at_call 17; go_loud ((with_reducible refine (CallsIn.inRound _ (callsIn_wide.2 HQ3.out)).mono ?_); rintro e w6 ⟨rfl, hB6⟩; have HI6 := Lib.hid (HIX.out.later hB6); have HB6 := Lib.hid hB6; have c0c := (HC0.out w6 HI6.out.bel).cell; have HQ4 := Lib.hid (HQ2.out w6 (HUP.out w6 HI6.out.bel)); clear hB6))
        | (refine ⟨trivial, ?_⟩; gi_at_call 31; go_loud ((with_reducible refine (CallsIn.inRound _ (callsIn_wide.2 HQ4.out)).mono ?_); rintro e w7 ⟨rfl, hB7⟩; have HI7 := Lib.hid (HI6.out.later hB7); have HB7 := Lib.hid (HB6.out.trans (hB7.mono HB6.out.size)); clear hB7)))
      have ba9 : Below w7.heap.size w7 (w7.alloc (.cells #[.int .i64 qv, .bool qb] 72)) := (Below.refl _ _).alloc (Nat.le_refl _) _
      have hI9 := HI7.out.later ba9
      have hkk : Kept [w2.heap.size, w2.heap.size + 1] V (w7.alloc (.cells #[.int .i64 qv, .bool qb] 72)) := HKX.out.trans (Kept.of _ (HB7.out.trans (ba9.mono HB7.out.size)))
      refine ⟨keepsFrom_kept _ hkk (fun j hj => ?_), KeepN.kept hkk (fun j hj => ?_), ?_⟩
      · simp only [List.mem_cons, List.not_mem_nil, or_false] at hj
        rcases hj with rfl | rfl
        · exact ⟨_, _, _, HI.out.b7⟩
        · exact ⟨_, _, _, HI.out.b8⟩
      · simp only [List.mem_cons, List.not_mem_nil, or_false] at hj
        exact ⟨fun h => by rcases hj with rfl | rfl <;> omega, fun cs fr hc => by rcases hj with rfl | rfl <;> omega⟩
      · show OsI w2 w2.heap.size (w2.heap.size + 1) (sumL (pre ++ [(r, pl)]) : Nat) (lst (pre ++ [(r, pl)])) _
        have e9 : ((0 + d : Nat) : Int) = (d : Int) := by omega
        rw [HSN.out, HLN.out, e9]
        exact hI9
    · have tm1 : decide ((m : Int) > 0) = true := decide_eq_true (by omega)
      have tm2 : decide (0 < (m : Int)) = true := decide_eq_true (by omega)
      have tm3 : decide (0 < m) = true := decide_eq_true (by omega)
      have tr : decide (r ≤ ls) = false := decide_eq_false (by omega)
      gi_upto_region 15 with (first
        | (refine ⟨trivial, ?_⟩; gi_at_call 30; go_loud ((with_reducible refine (CallsIn.inRound _ (callsIn_wide.2 HA1.out)).mono ?_); rintro e w4 ⟨v4, rfl, hO4, hB4⟩; have HI4 := Lib.hid (HI.out.later hB4); have HB4 := Lib.hid hB4; have HV4 := Lib.hid ((Kept.of [] hB4).row HV.out (by simp)); rw [HDD.out] at hO4; have HSM := Lib.hid (same_ex pl d _ _ _ v4 w4 HDD.out (by omega) HV4.out hO4); clear hO4 hB4))
        | (refine ⟨trivial, ?_⟩; gi_at_call 28; go_loud ((with_reducible refine (CallsIn.inRound _ (callsIn_wide.2 HSM.out)).mono ?_); rintro e w5 ⟨rfl, hB5⟩; have HI5 := Lib.hid (HI4.out.later hB5); have HB5 := Lib.hid (HB4.out.trans (hB5.mono HB4.out.size)); have c0c := (HC0.out w5 HI5.out.bel).cell; have c7c := HI5.out.b7.cell; have c7f := HI5.out.b7.frozen; have c8c := HI5.out.b8.cell; have c8f := HI5.out.b8.frozen; clear hB5)))
      obtain ⟨X, hX, HIX, HKX⟩ : ∃ X, (w5.setCell ⟨w2.heap.size + 1, 0, none⟩ (.int .i64 r)).setCell ⟨w2.heap.size, 0, none⟩ (.int .i64 ((m : Int) + (d : Int))) = X ∧ Hid (OsI w2 w2.heap.size (w2.heap.size + 1) ((m : Int) + (d : Int)) r X) ∧ Hid (Kept [w2.heap.size, w2.heap.size + 1] V X) :=
        ⟨_, rfl, Lib.hid (HI5.out.put (by omega) (Nat.le_refl _) (by omega) _ r), Lib.hid (((Kept.of _ HB5.out).set _ 0 _ (by simp)).set _ 0 _ (by simp))⟩
      rw [hX]
      have HQ3 := Lib.hid (HQ1.out X (HUP.out X HIX.out.bel))
      have c0c := (HC0.out X HIX.out.bel).cell
      clear hX
      gi_wp2_with (first
        | (refine ⟨trivial, ?_⟩; gi_at_call 17; go_loud ((with_reducible refine (CallsIn.inRound _ (callsIn_wide.2 HQ3.out)).mono ?_); rintro e w6 ⟨rfl, hB6⟩; have HI6 := Lib.hid (HIX.out.later hB6); have HB6 := Lib.hid hB6; have c0c := (HC0.out w6 HI6.out.bel).cell; have HQ4 := Lib.hid (HQ2.out w6 (HUP.out w6 HI6.out.bel)); clear hB6))
        | (refine ⟨trivial, ?_⟩; gi_at_call 31; go_loud ((with_reducible refine (CallsIn.inRound _ (callsIn_wide.2 HQ4.out)).mono ?_); rintro e w7 ⟨rfl, hB7⟩; have HI7 := Lib.hid (HI6.out.later hB7); have HB7 := Lib.hid (HB6.out.trans (hB7.mono HB6.out.size)); clear hB7)))
      have ba9 : Below w7.heap.size w7 (w7.alloc (.cells #[.int .i64 qv, .bool qb] 72)) := (Below.refl _ _).alloc (Nat.le_refl _) _
      have hI9 := HI7.out.later ba9
      have hkk : Kept [w2.heap.size, w2.heap.size + 1] V (w7.alloc (.cells #[.int .i64 qv, .bool qb] 72)) := HKX.out.trans (Kept.of _ (HB7.out.trans (ba9.mono HB7.out.size)))
      refine ⟨keepsFrom_kept _ hkk (fun j hj => ?_), KeepN.kept hkk (fun j hj => ?_), ?_⟩
      · simp only [List.mem_cons, List.not_mem_nil, or_false] at hj
        rcases hj with rfl | rfl
        · exact ⟨_, _, _, HI.out.b7⟩
        · exact ⟨_, _, _, HI.out.b8⟩
      · simp only [List.mem_cons, List.not_mem_nil, or_false] at hj
        exact ⟨fun h => by rcases hj with rfl | rfl <;> omega, fun cs fr hc => by rcases hj with rfl | rfl <;> omega⟩
      · show OsI w2 w2.heap.size (w2.heap.size + 1) (sumL (pre ++ [(r, pl)]) : Nat) (lst (pre ++ [(r, pl)])) _
        have e9 : ((m + d : Nat) : Int) = ((m : Int) + (d : Int)) := by omega
        rw [HSN.out, HLN.out, e9]
        exact hI9
  case done =>
    rintro D V hD hI hK
    subst hfr
    rw [HTOT.out] at hI
    have HI := Lib.hid hI
    have c0c := (HC0.out V hI.bel).cell
    have c7c := hI.b7.cell
    have c8c := hI.b8.cell
    obtain ⟨qv, qb, hq1, hq2⟩ := HNX.out t
    have HQ1 := Lib.hid (hq1 V (HUP.out V hI.bel))
    have HQ2 := Lib.hid hq2
    have HK := Lib.hid hK
    clear hI hK hq1 hq2
    gi_wp2_with (first
      | (refine ⟨trivial, ?_⟩; gi_at_call 17; go_loud ((with_reducible refine (callsIn_wide.2 HQ1.out).mono ?_); rintro e w4 ⟨rfl, hB4⟩; have HI4 := Lib.hid (HI.out.later hB4); have HB4 := Lib.hid hB4; have c0c4 := (HC0.out w4 HI4.out.bel).cell; have HQ3 := Lib.hid (HQ2.out w4 (HUP.out w4 HI4.out.bel)); clear hB4))
      | (refine ⟨trivial, ?_⟩; gi_at_call 31; go_loud ((with_reducible refine (callsIn_wide.2 HQ3.out).mono ?_); rintro e w5 ⟨rfl, hB5⟩; have HI5 := Lib.hid (HI4.out.later hB5); have HB5 := Lib.hid hB5; have c0c5 := (HC0.out w5 HI5.out.bel).cell; have c0l5 := (HC0.out w5 HI5.out.bel).lt; have c7c5 := HI5.out.b7.cell; have c7l5 := HI5.out.b7.lt; have HC15 := Lib.hid (HC1.out w5 HI5.out.bel); have c1c5 := HC15.out.cell; have c1f5 := HC15.out.frozen; have c1l5 := HC15.out.lt; clear hB5)))
    have hb9 : Boxed ((w5.setCell ⟨w.heap.size + 1, 0, none⟩ (.bool true)).alloc (.cells #[.int .i64 qv, .bool qb] 72)) (w.heap.size + 1) 4 (.bool true) := Boxed.alloc (Boxed.set (.bool true) HC15.out) _
    have hDV := (Array.getElem?_eq_some_iff.1 HK.out).1
    have hs4 := HB4.out.size
    have hs5 := HB5.out.size
    have hbV := HB02.out.trans (HI.out.bel.mono HB02.out.size)
    have hb5 := (hbV.trans (HB4.out.mono hbV.size)).trans (HB5.out.mono (Nat.le_trans hbV.size hs4))
    have hB9 : Below w.heap.size w ((w5.setCell ⟨w.heap.size + 1, 0, none⟩ (.bool true)).alloc (.cells #[.int .i64 qv, .bool qb] 72)) := (hb5.setCell (p := ⟨w.heap.size + 1, 0, none⟩) (Nat.le_succ _) (.bool true)).alloc (by have := hb5.size; simp; omega) _
    have hwD : w.heap.size + 1 < D := by omega
    have hK9 : ((w5.setCell ⟨w.heap.size + 1, 0, none⟩ (.bool true)).alloc (.cells #[.int .i64 qv, .bool qb] 72)).heap[D]? = some (.deferred (some [])) := by
      rw [Below.heap_alloc _ _ _ (by simp; omega), Below.heap_setCell _ _ _ _ (by simp; omega)]
      exact (HB5.out.block D (by omega)).trans ((HB4.out.block D hDV).trans HK.out)
    generalize (w5.setCell ⟨w.heap.size + 1, 0, none⟩ (.bool true)).alloc (.cells #[.int .i64 qv, .bool qb] 72) = V9 at *
    refine ⟨by simp, .inl ⟨_, _, rfl, run_takeDeferred hK9, ?_⟩⟩
    have hc2 : (V9.putObj D (.deferred none)).cell? ⟨w.heap.size + 1, 0, none⟩ = some (.bool true) := by
      rw [← hb9.cell]; simp [World.cell?, World.putObj_heap_other (show w.heap.size + 1 ≠ D by omega)]
    refine ⟨.bool true, by simp [results, Try.f11, go_sem, hc2], rfl, hB9.trans (belowK_b (w := w) (Nat.le_refl _) V9 D _ _ (by omega) hK9 rfl rfl)⟩
  case stop =>
    rintro D c pre x r V hD hL h hK
    exact h.elim
end Go.Proofs.Ytnplbmbbocffbaa
/- StreamOrders: the walk. -/
namespace Go.Proofs.Ytnplbmbbocffbaa
open Go.RowKit Go.Shelf
set_option linter.unusedVariables false
set_option linter.unusedSimpArgs false
attribute [local go_sem ↓] Go.wp_at_zero Go.wp_at_succ
theorem rdec_any (A R : Option Addr) (cap rc : Nat) (ts : List Ts) (rs : List Fv) (w : World) (hT : Row w A cap ts) (hR : FRow w R rc rs) (hl : rs.length ≤ 1000) :
    Calls Try.prog 13 #[.slice A ts.length cap, .slice R rs.length rc] w fun e w' => ∃ js, js.length ≤ 1000 ∧ DecodePost js w e w' := by
  by_cases h0 : (chkAll ts).2 = 0
  · exact (rdecode_good A R cap rc ts rs w hT hR h0).mono fun e w' h => ⟨_, by rw [decS, decF_len, List.length_take, List.length_nil]; omega, h⟩
  · exact (rdecode_bad A R cap rc ts rs w hT h0).mono fun e w' h => ⟨[], by simp, h⟩
theorem orders_own {v : Value} {gs : List Gv} {B : Nat} {W : World} (h : FOwn 37 B W v gs) (hl : gs.length ≤ 1000) (t : Int) : Calls Try.prog 11 #[v, .int .i64 t] W (OkB W) := by
  obtain ⟨A, cap, rfl, hF⟩ := h.frow
  have h9 := orders_any A cap (gs.map (·.x)) t W hF (by rw [List.length_map]; exact hl)
  rwa [List.length_map] at h9
theorem fewRS_len (rs : List Fv) : (fewRS rs).length ≤ 12 := by simp [fewRS]; omega
set_option maxRecDepth 100000 in
set_option maxHeartbeats 4000000 in
theorem so_walk3 (A0 : Option Addr) (cap0 : Nat) (l0 : List Int) (A1 : Option Addr) (cap1 : Nat) (l1 : List Sp) (A2 : Option Addr) (cap2 : Nat) (l2 : List Fv) (w : World) (w0 : CRow w A0 cap0 l0) (w1 : SRow w A1 cap1 l1) (w2 : FRow w A2 cap2 l2) :
    Calls Try.prog 3 #[.slice A0 l0.length cap0, .slice A1 l1.length cap1, .slice A2 l2.length cap2] w fun e w' => e = .returned (.bool true) ∧ Below w.heap.size w w' := by
  have h20 := w2.le
  have h21 := w2.mx
  have HA := Lib.hid awake_any
  have HSE := Lib.hid (fun W (hW : Below w.heap.size w W) => set_any 4 (by omega) (by omega) A1 cap1 l1 (l2.length : Int) W (w1.later hW) ⟨by omega, by omega⟩)
  have HFE := Lib.hid (fun W (hW : Below w.heap.size w W) => few_any A0 cap0 l0 W (w0.later hW))
  have HFR := Lib.hid (fun W (hW : Below w.heap.size w W) => fewR_any A2 cap2 l2 W (w2.later hW))
  have hfl : (fewN l0).length ≤ 16 := by rw [fewN_len]; omega
  have hrl := fewRS_len l2
  have HFL := Lib.hid hfl
  have HRL := Lib.hid hrl
  clear w0 w1 w2 hfl hrl
  generalize l0.length = n0 at *
  generalize l1.length = n1 at *
  generalize l2.length = n2 at *
  go_enter Try.func3, Try.ntmps3
  go_wp2_with (first
    | (go_at_call 9; (with_reducible refine (HA.out _).mono ?_); rintro e w1 ⟨rfl, hB1⟩; have HB1 := Lib.hid hB1; clear hB1)
    | (go_at_call 10; (with_reducible refine (HSE.out _ HB1.out).mono ?_); rintro e w2 ⟨As, cs, ss, rfl, hRs, _, _, _, _, _, hB2⟩; have HRS := Lib.hid hRs; have HB2 := Lib.hid (HB1.out.trans (hB2.mono HB1.out.size)); clear hRs hB2)
    | (go_at_call 12; (with_reducible refine (HFE.out _ HB2.out).mono ?_); rintro e w3 ⟨v3, gs3, rfl, hO3, hg3, hB3⟩; have HB3 := Lib.hid (HB2.out.trans (hB3.mono HB2.out.size)); have HRS3 := Lib.hid (HRS.out.later hB3); have HOA := Lib.hid (orders_own hO3 (by have := HFL.out; rw [← hg3, List.length_map] at this; omega) 5); clear hO3 hg3 hB3)
    | (go_at_call 11; (with_reducible refine HOA.out.mono ?_); rintro e w4 ⟨rfl, hB4⟩; have HB4 := Lib.hid (HB3.out.trans (hB4.mono HB3.out.size)); have HRS4 := Lib.hid (HRS3.out.later hB4); clear hB4)
    | (go_at_call 14; (with_reducible refine (HFR.out _ HB4.out).mono ?_); rintro e w5 ⟨v5, gs5, rfl, hO5, hg5, hB5⟩; obtain ⟨A5, c5, rfl, hF5⟩ := hO5.frow; have HB5 := Lib.hid (HB4.out.trans (hB5.mono HB4.out.size)); have HDE := Lib.hid (rdec_any As A5 cs c5 ss (gs5.map (·.x)) w5 (HRS4.out.later hB5) hF5 (by rw [hg5]; have := HRL.out; omega)); rw [List.length_map] at HDE; clear hO5 hg5 hB5 hF5)
    | (go_at_call 13; (with_reducible refine HDE.out.mono ?_); rintro e w6 ⟨js, hjl, v6, gs6, rfl, hO6, hg6, hB6⟩; have HB6 := Lib.hid (HB5.out.trans (hB6.mono HB5.out.size)); have HOB := Lib.hid (orders_own hO6 (by rw [← hg6, List.length_map] at hjl; exact hjl) (n0 : Int)); clear hO6 hg6 hjl hB6)
    | (go_at_call 11; (with_reducible refine HOB.out.mono ?_); rintro e w7 ⟨rfl, hB7⟩; have HB7 := Lib.hid (HB6.out.trans (hB7.mono HB6.out.size)); have HOC := Lib.hid (orders_any none 0 [] 0 w7 (FRow.nil _ _ (by omega)) (by simp)); rw [List.length_nil] at HOC; clear hB7)
    | (go_at_call 11; (with_reducible refine HOC.out.mono ?_); rintro e w8 ⟨rfl, hB8⟩; have HB8 := Lib.hid (HB7.out.trans (hB8.mono HB7.out.size)); clear hB8))
  go_ret
  exact ⟨rfl, HB8.out⟩
end Go.Proofs.Ytnplbmbbocffbaa
