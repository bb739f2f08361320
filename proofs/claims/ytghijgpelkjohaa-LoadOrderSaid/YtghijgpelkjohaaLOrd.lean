/- order: forwards, and backwards. -/
import Derived.Test.YtghijgpelkjohaaLMath
import Derived.Test.YtghijgpelkjohaaLTak
namespace Go.Proofs.Ytghijgpelkjohaa
open Go.RowKit
set_option linter.unusedVariables false
set_option linter.unusedSimpArgs false
theorem order_cases (l : List Ts) (hw : ∀ x ∈ l, TsW x) : (sumE l = 0 ∧ sumE l.reverse = 0 ∧ sumF l = sumF l.reverse) ∨ (sumE l = 1 ∧ sumE l.reverse = 1) ∨ (sumE l = 17 ∧ sumE l.reverse = 17) ∨ (sumE l = 0 ∧ sumE l.reverse = 17) ∨ (sumE l = 17 ∧ sumE l.reverse = 0) := by
  have hv : ∀ x ∈ l.reverse, TsW x := fun x hx => hw x (List.mem_reverse.1 hx)
  obtain ⟨h1, h2⟩ := order_pure l hw
  rcases sum_cases l hw with a | a | a <;> rcases sum_cases l.reverse hv with b | b | b
  · exact .inl ⟨a.1, b.1, h1 a.1 b.1⟩
  · rw [a.1, b.1] at h2; simp at h2
  · exact .inr (.inr (.inr (.inl ⟨a.1, b.1⟩)))
  · rw [a.1, b.1] at h2; simp at h2
  · exact .inr (.inl ⟨a.1, b.1⟩)
  · rw [a.1, b.1] at h2; simp at h2
  · exact .inr (.inr (.inr (.inr ⟨a.1, b.1⟩)))
  · rw [a.1, b.1] at h2; simp at h2
  · exact .inr (.inr (.inl ⟨a.1, b.1⟩))
theorem rev_get {l : List Ts} {k : Nat} (hk : k < l.length) {x : Ts} (hx : l[l.length - 1 - k]? = some x) : l.reverse.take (k + 1) = l.reverse.take k ++ [x] := by
  have hr : l.reverse[k]? = some x := by rw [List.getElem?_reverse hk]; exact hx
  obtain ⟨h1, h2⟩ := List.getElem?_eq_some_iff.1 hr
  rw [List.take_succ_eq_append_getElem h1, h2]
set_option maxRecDepth 100000 in
set_option maxHeartbeats 8000000 in
theorem order_any (A : Option Addr) (cap : Nat) (l : List Ts) (w : World) (hR : Row w A cap l) (h8 : l.length ≤ 8) :
    Calls Try.prog 16 #[.slice A l.length cap] w fun e w' => e = .returned (.bool true) ∧ Below w.heap.size w w' := by
  obtain ⟨i0, hi, hz0, hz1, hz2⟩ := info_parts infoTs
  have hle := hR.le
  have hmx := hR.mx
  have ROW := Lib.hid hR
  have hw := hR.wf
  have KS := Lib.hid (fun W (h : Lt w W) => sum_any A cap l W (hR.later h))
  have KP := Lib.hid (fun W (h : Lt w W) => period_any A cap l W (hR.later h))
  have KS2 := Lib.hid (fun W A cap (h : Row W A cap l.reverse) => sum_any A cap l.reverse W h)
  have KP2 := Lib.hid (fun W A cap (h : Row W A cap l.reverse) => period_any A cap l.reverse W h)
  have hpr := pd_rev l
  rw [← hpr.1, ← hpr.2] at KP2
  have HC := Lib.hid (order_cases l hw)
  have HRL : Hid (l.reverse.length = l.length) := Lib.hid List.length_reverse
  clear hR hw hpr
  rw [HRL.out] at KS2 KP2
  generalize hN : l.length = N at *
  have HN := Lib.hid hN
  clear hN
  go_enter Try.func16, Try.ntmps16
  go_wp2
  go_loopw [3, 4] (fun v i wr => ∃ (k : Nat) (j : Int), k ≤ N ∧ j = (N : Int) - 1 - k ∧ i = .int .i64 j ∧ Hid (SetIn w.heap.size wr v k (l.reverse.take k)) ∧ Hid (Lt w wr)) (fun _ i _ => (intOf i + 1).toNat)
  case atStart => exact ⟨0, (N : Int) - 1, Nat.zero_le _, by omega, rfl, Lib.hid (SetIn.nil _ _), Lib.hid (Below.refl _ _)⟩
  case round =>
    obtain ⟨k, j, hk, hj, rfl, HI, HL⟩ := hrel
    obtain ⟨A0, cap0, hv0, hl0, hm0⟩ := own_len HI.out.row
    subst hv0
    by_cases hlt : k < N
    · obtain ⟨p, hp⟩ : ∃ p : Nat, p = N - 1 - k := ⟨_, rfl⟩
      obtain rfl : j = (p : Int) := by omega
      obtain ⟨b', o, x, rfl, hx, hxw, hbl, hT⟩ := ROW.out.get (k := p) (by rw [HN.out]; omega)
      have hTr := hT.later HL.out
      have c0 := hTr.c0
      have c1 := hTr.c1
      have c2 := hTr.c2
      have c3 := hTr.c3
      have c4 := hTr.c4
      have c5 := hTr.c5
      have c6 := hTr.c6
      have hi0 : (0 : Int) ≤ (p : Int) := by omega
      have hi1 : (p : Int) < ((N : Nat) : Int) := by omega
      have HTK : Hid (l.reverse.take (k + 1) = l.reverse.take k ++ [x]) := Lib.hid (rev_get (by rw [HN.out]; exact hlt) (by rw [HN.out, ← hp]; exact hx))
      have H7 := Lib.hid (seven_new wr x)
      have HXW := Lib.hid hxw
      have HPP := Lib.hid hp
      clear hT hTr hx hxw hj hp
      go_wp2_with (at_builtin; refine wpList_append_own _ rfl _ _ 26 rfl w.heap.size 40 i0 _ 7 64 Try.underlying26 hi hz0 hz1 hz2 rfl (by decide) _ _ _ rfl (HI.out.row.alloc _) ⟨wr.heap.size, 0, none⟩ 1 1 (tsL x) rfl rfl H7.out (tsL_one _) (by unfold maxLen; omega) (by omega) (by have := Below.size HL.out; simp; omega) ?_; intro v' w4 hown' hgrow hnil')
      go_roundw
      case rel =>
        have hb0 := Below.size HL.out
        exact ⟨k + 1, (p : Int) - 1, by omega, by have := HPP.out; omega, rfl, Lib.hid (by rw [HTK.out]; exact HI.out.snoc HXW.out hown'), Lib.hid (((Below.refl w.heap.size w).trans HL.out).alloc hb0 _ |>.grown hgrow (by simp; omega) (fun q hq => (HI.out.row.lt q hq).1))⟩
      case measure => first | (simp [intOf]; done) | (simp [intOf]; omega)
    · obtain rfl : k = N := by omega
      have hfull : l.reverse.take k = l.reverse := List.take_of_length_le (by rw [HRL.out]; exact Nat.le_refl _)
      rw [hfull] at HI
      obtain ⟨A1, cap1, hv1, hF⟩ := HI.out.rowR
      rw [HRL.out] at hv1
      simp only [Value.slice.injEq] at hv1
      obtain ⟨rfl, -, rfl⟩ := hv1
      have HF := Lib.hid hF
      obtain rfl : j = -1 := by omega
      generalize pdN 1 l = pn at *
      generalize pdB 1 l = pb at *
      generalize sumF l = sf at *
      generalize sumE l = se at *
      generalize sumF l.reverse = sg at *
      generalize sumE l.reverse = sh at *
      clear hF hj hfull HI
      go_upto_region 7 with (go_at_call 17; (with_reducible refine (KS.out _ HL.out).mono ?_); rintro e w1 ⟨rfl, h1⟩)
      obtain ⟨V1, hV1, F1, L1, R1⟩ : ∃ V1, w1.alloc (.cells #[.int .u64 sf.n, .int .u64 sf.d] 32) = V1 ∧ Hid (FB V1 w1.heap.size sf) ∧ Hid (Lt w V1) ∧ Hid (Row V1 A0 cap0 l.reverse) :=
        ⟨_, rfl, Lib.hid (FB.new w1 sf), Lib.hid (lt_step _ _ (lt_step _ _ HL.out h1) ((Below.refl _ _).alloc (Nat.le_refl _) _)), Lib.hid ((HF.out.later h1).later ((Below.refl _ _).alloc (Nat.le_refl _) _))⟩
      rw [hV1]
      clear hV1 h1
      generalize w1.heap.size = b5 at *
      go_upto_region 8 with (go_at_call 17; (with_reducible refine (KS2.out _ _ _ R1.out).mono ?_); rintro e w2 ⟨rfl, h2⟩)
      obtain ⟨V2, hV2, F2, G2, L2, R2⟩ : ∃ V2, w2.alloc (.cells #[.int .u64 sg.n, .int .u64 sg.d] 32) = V2 ∧ Hid (FB V2 b5 sf) ∧ Hid (FB V2 w2.heap.size sg) ∧ Hid (Lt w V2) ∧ Hid (Row V2 A0 cap0 l.reverse) :=
        ⟨_, rfl, Lib.hid ((F1.out.later h2).later ((Below.refl _ _).alloc (Nat.le_refl _) _)), Lib.hid (FB.new w2 sg), Lib.hid (lt_step _ _ (lt_step _ _ L1.out h2) ((Below.refl _ _).alloc (Nat.le_refl _) _)), Lib.hid ((R1.out.later h2).later ((Below.refl _ _).alloc (Nat.le_refl _) _))⟩
      rw [hV2]
      clear hV2 h2
      generalize w2.heap.size = b7 at *
      go_upto_region 9 with (go_at_call 19; (with_reducible refine (KP.out _ L2.out).mono ?_); rintro e w3 ⟨rfl, h3⟩; have R3 := Lib.hid (R2.out.later h3))
      go_upto_region 10 with (go_at_call 19; (with_reducible refine (KP2.out _ _ _ R3.out).mono ?_); rintro e w4 ⟨rfl, h4⟩)
      have F4 := Lib.hid ((F2.out.later h3).later h4)
      have G4 := Lib.hid ((G2.out.later h3).later h4)
      have L4 := Lib.hid (lt_step _ _ (lt_step _ _ L2.out h3) h4)
      have f0 := F4.out.c0
      have f1 := F4.out.c1
      have g0 := G4.out.c0
      have g1 := G4.out.c1
      clear h3 h4
      rcases HC.out with ⟨rfl, rfl, rfl⟩ | ⟨rfl, rfl⟩ | ⟨rfl, rfl⟩ | ⟨rfl, rfl⟩ | ⟨rfl, rfl⟩
      all_goals
        clear HC
        go_wp2
        go_ret
        exact ⟨rfl, L4.out⟩
end Go.Proofs.Ytghijgpelkjohaa
