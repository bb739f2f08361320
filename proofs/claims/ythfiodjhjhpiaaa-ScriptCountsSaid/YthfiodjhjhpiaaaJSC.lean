/- ScriptCounts: the walk. -/
import Derived.Test.YthfiodjhjhpiaaaJSL
import Derived.Test.YthfiodjhjhpiaaaJCnt
namespace Go.Proofs.Ythfiodjhjhpiaaa
open Go.RowKit
set_option linter.unusedVariables false
set_option linter.unusedSimpArgs false

def sumC (xs : List Fv) : Nat → Nat
  | 0 => 0
  | p + 1 => sumC xs p + cnt xs (p : Int)
theorem sumC_cons (x : Fv) (xs : List Fv) : ∀ p, sumC (x :: xs) p = sumC xs p + if 0 ≤ x.t ∧ x.t < p then 1 else 0
  | 0 => by simp [sumC]
  | p + 1 => by
    rw [sumC, sumC_cons x xs p, sumC]
    have hc : cnt (x :: xs) (p : Int) = cnt xs (p : Int) + if x.t = (p : Int) then 1 else 0 := by simp [cnt, List.countP_cons]
    rw [hc]
    split <;> split <;> split <;> omega
theorem sumC_le (p : Nat) : ∀ xs : List Fv, sumC xs p ≤ xs.length
  | [] => by
    have : ∀ p, sumC [] p = 0 := by intro p; induction p with | zero => rfl | succ p ih => rw [sumC, ih]; rfl
    rw [this]; exact Nat.zero_le _
  | x :: xs => by
    rw [sumC_cons]
    have := sumC_le p xs
    simp only [List.length_cons]
    split <;> omega
theorem sumC_all (p : Nat) : ∀ xs : List Fv, (∀ x ∈ xs, 0 ≤ x.t ∧ x.t < p) → sumC xs p = xs.length
  | [], _ => Nat.le_zero.1 (sumC_le p [])
  | x :: xs, h => by
    rw [sumC_cons, sumC_all p xs (fun y hy => h y (by simp [hy])), if_pos (h x (by simp))]
    rfl
theorem legF_t {ts : List Ts} : ∀ (r js : List Fv), legF ts js r = true → ∀ x ∈ r, 0 ≤ x.t ∧ x.t < ts.length
  | [], _, _, x, hx => by simp at hx
  | j :: r, js, h, x, hx => by
    rw [legF, Bool.and_eq_true] at h
    rcases List.mem_cons.1 hx with rfl | hx
    · have h1 := h.1
      rw [legJ, Bool.and_eq_true] at h1
      have := inB_iff.1 h1.1
      omega
    · exact legF_t r _ h.2 x hx
set_option maxRecDepth 100000 in
set_option maxHeartbeats 8000000 in
theorem sc_walk (A0 : Option Addr) (cap0 : Nat) (l0 : List Sp) (A1 : Option Addr) (cap1 : Nat) (l1 : List Fv) (x0 x1 x2 : Int) (w : World) (h0 : SRow w A0 cap0 l0) (h1 : FRow w A1 cap1 l1) (i0 : in64 x0) (i1 : in64 x1) (i2 : in64 x2) :
    Calls Try.prog 6 #[.slice A0 l0.length cap0, .slice A1 l1.length cap1, .agg #[.int .i64 x0, .int .i64 x1, .int .i64 x2]] w fun e w' => e = .returned (.bool true) ∧ Below w.heap.size w w' := by
  have AW := Lib.hid (fun W => awake_any W)
  have KF := Lib.hid (fun (W : World) (hb : Below w.heap.size w W) => few_any A1 cap1 l1 W (h1.later hb))
  have KS := Lib.hid (fun (W : World) (hb : Below w.heap.size w W) => set_any 5 (by omega) (by omega) A0 cap0 l0 x0 W (h0.later hb) i0)
  have i3 : in64 (x2.tmod 4) := by
    have h1 := Int.lt_tmod_of_pos x2 (show (0 : Int) < 4 by omega)
    have h2 := Int.tmod_lt_of_pos x2 (show (0 : Int) < 4 by omega)
    unfold in64; omega
  have I0 := Lib.hid i0
  have I1 := Lib.hid i1
  have I3 := Lib.hid i3
  clear h0 h1 i0 i1 i2 i3
  go_enter Try.func6, Try.ntmps6
  go_upto_region 2 with (go_at_call 10; (with_reducible refine (AW.out _).mono ?_); rintro e w1 ⟨rfl, hb1⟩)
  obtain ⟨hq1, hB1⟩ := arr3 hb1
  obtain ⟨k0, k1, k2⟩ := hq1
  have HQ1 : Hid (Q3 w.heap.size x0 x1 x2 w1) := Lib.hid ⟨k0, k1, k2⟩
  have B1 := Lib.hid hB1
  clear hb1 hB1
  go_upto_region 3 with (go_at_call 12; (with_reducible refine (KS.out _ B1.out).mono ?_); rintro e w2 ⟨As, cs, ss, rfl, hRs, hs1, hs5, hsd, hsf, hsp, h2⟩; have RS := Lib.hid hRs; have HOK := Lib.hid (set_ok hs1 (by omega) hsd hsf hsp); have B2 := Lib.hid (B1.out.trans (h2.mono B1.out.size)); have HQ2 := Lib.hid (HQ1.out.step h2); clear hRs hs1 hs5 hsd hsf hsp h2)
  clear k0 k1 k2
  have B4 := B2
  have HQ4 := HQ2
  have RS4 := RS
  clear HQ2 HQ1 RS B2
  have HQ := HQ4.out
  have HQ4 := Lib.hid (HQ4.out.step (below_drew w2))
  have B4 := Lib.hid (B4.out.trans ((below_drew w2).mono B4.out.size))
  have RS4 := Lib.hid (RS4.out.later (below_drew w2))
  go_region_held_law (fun W => Q3 w.heap.size x0 x1 x2 W)
    (first | (with_reducible assumption) | (with_reducible exact HQ4.out) | (with_reducible exact HQ7.out) | (with_reducible exact HQ6.out) | (with_reducible exact HQ5.out) | fail)
    (first
    | (go_at_call 11; (with_reducible refine (KF.out _ B4.out).mono ?_); rintro e w5 ⟨vr5, gr5, rfl, hGr, hgr, h5⟩; obtain ⟨Ar5, cr5, rfl, FR⟩ := hGr.frow; rw [hgr] at FR; have hgl : (fewS l1).length = gr5.length := (by rw [← hgr, List.length_map]); have KD := Lib.hid (decode_len As Ar5 cs cr5 ss (fewS l1) ss.length gr5.length _ rfl hgl (RS4.out.later h5) FR); have H5 := Lib.hid h5; have HQ5 := Lib.hid (HQ4.out.step h5); clear hGr hgr h5 FR hgl)
    | (go_at_call 14; (with_reducible refine KD.out.mono ?_); rintro e w6 ⟨v6, g6, rfl, hG6, hg6, h6⟩; have HQ6 := Lib.hid (HQ5.out.step h6); have H46 := Lib.hid (H5.out.trans (h6.mono H5.out.size)); have KT := Lib.hid (turned_any _ v6 g6 x0 x1 (x2.tmod 4) _ hG6 (by have := congrArg List.length hg6; rw [List.length_map] at this; have := decR_len ss l1; omega) (fun g hg => by have := decR_cut ss l1 g.x (by rw [← hg6]; exact List.mem_map_of_mem hg); omega) I0.out I1.out I3.out); clear hG6 hg6 h6)
    | (go_at_call 16; (with_reducible refine KT.out.mono ?_); rintro e w7 ⟨v7, g7, rfl, hG7, hg7, h7⟩; have HQ7 := Lib.hid (HQ6.out.step h7); have H47 := Lib.hid (H46.out.trans (h7.mono H46.out.size)); have HG7 := Lib.hid hG7; clear hG7 hg7 h7)
    | fail)
  obtain ⟨A7, c7, rfl, F7⟩ := HG7.out.frow
  have e7 : g7.length = (g7.map (·.x)).length := (List.length_map _).symm
  rw [e7]
  obtain ⟨xs, hxs⟩ : ∃ xs, g7.map (·.x) = xs := ⟨_, rfl⟩
  rw [hxs] at F7 ⊢
  have HB7 := Lib.hid (B4.out.trans (H47.out.mono B4.out.size))
  have RS7 := RS4.out.later H47.out
  have hxl := F7.le
  have hxm := F7.mx
  have hsl := RS7.le
  have hsm := RS7.mx
  by_cases hb : legS ss xs = true
  · have hle : xs.length ≤ 4096 := by
      rw [legS, Bool.and_eq_true, decide_eq_true_eq] at hb
      exact hb.1.2
    have hlf : legF ss [] xs = true := by
      rw [legS, Bool.and_eq_true] at hb
      exact hb.2
    have HALL := Lib.hid (sumC_all ss.length xs (legF_t xs [] hlf))
    have K1 := Lib.hid (count_good As A7 cs c7 ss xs w7 RS7 F7 hb)
    have K2 := Lib.hid (fun (W : World) (h : Below w7.heap.size w7 W) => legal_len As A7 cs c7 ss xs ss.length xs.length true W rfl rfl hb (RS7.later h) (F7.later h))
    have FX := Lib.hid F7
    clear F7 e7 RS7 HG7 hxs KT H46 HQ7 HQ6 HQ5 HQ4 HQ RS4 B4 H47 H5 KD HOK hb hlf
    go_upto_region 7 with (first
      | (go_at_call 20; (with_reducible refine K1.out.mono ?_); rintro e w8 ⟨r, rfl, hm, h8⟩; have H8 := Lib.hid h8; have HM := Lib.hid hm; clear h8 hm)
      | (go_at_call 17; (with_reducible refine (K2.out _ H8.out).mono ?_); rintro e w9 ⟨rfl, h9⟩; have HM9 := Lib.hid (HM.out.later h9); have H9 := Lib.hid (bel_step H8.out h9); clear h9))
    have FX9 := Lib.hid (FX.out.later H9.out)
    have HB9 := Lib.hid (HB7.out.trans (H9.out.mono HB7.out.size))
    clear K1 K2 FX H8 H9 HM HB7
    go_wp2
    go_loopw [11, 12] (fun a i wr => ∃ p : Nat, p ≤ ss.length ∧ a = .int .i64 (sumC xs p) ∧ i = .int .i64 p ∧ Hid (Below w9.heap.size w9 wr)) (fun a i _ => ss.length - (intOf i).toNat)
    case atStart => exact ⟨0, Nat.zero_le _, rfl, rfl, Lib.hid (Below.refl _ _)⟩
    case round =>
      obtain ⟨p, hp, rfl, rfl, hB⟩ := hrel
      by_cases hlt : p < ss.length
      · have hp0 : (0 : Int) ≤ (p : Int) := by omega
        have hp1 : (p : Int) < (ss.length : Int) := by omega
        go_wp2
        go_loopw [13, 14] (fun n k wr2 => ∃ m : Nat, m ≤ xs.length ∧ n = .int .i64 (cnt (xs.take m) (p : Int)) ∧ k = .int .i64 m ∧ Hid (Below w9.heap.size w9 wr2)) (fun n k _ => xs.length - (intOf k).toNat)
        case atStart => exact ⟨0, Nat.zero_le _, rfl, rfl, hB⟩
        case round =>
          obtain ⟨m, hm, rfl, rfl, hB2⟩ := hrel
          by_cases hml : m < xs.length
          · obtain ⟨b, o, x, C, cc, rfl, hx, hbl, hF0⟩ := FX9.out.get hml
            have c0 := (hF0.later hB2.out).c0
            have m0 : (0 : Int) ≤ (m : Int) := by omega
            have m1 : (m : Int) < (xs.length : Int) := by omega
            have htk := take_one hx
            have hcl := cnt_le (xs.take m) (p : Int)
            have htl : (xs.take m).length ≤ 4096 := by rw [List.length_take]; omega
            by_cases ht : x.t = (p : Int)
            · have hcn : cnt (xs.take (m + 1)) (p : Int) = cnt (xs.take m) (p : Int) + 1 := by rw [htk, cnt, cnt, List.countP_append]; simp [ht]
              rw [ht] at c0
              have HCN := Lib.hid hcn
              generalize cnt (xs.take m) (p : Int) = c at *
              have hc1 : (c : Int) ≤ 4096 := by omega
              have hc0 : (0 : Int) ≤ (c : Int) := by omega
              clear hcn ht htk hx hF0 hcl htl
              go_wp2
              go_roundw
              case rel => exact ⟨m + 1, by omega, by rw [HCN.out]; go_num, by go_num, hB2⟩
              case measure => simp [intOf]; omega
            · have hcn : cnt (xs.take (m + 1)) (p : Int) = cnt (xs.take m) (p : Int) := by rw [htk, cnt, cnt, List.countP_append]; simp [ht]
              have HCN := Lib.hid hcn
              have hbf : (x.t == (p : Int)) = false := by rw [beq_eq_false_iff_ne]; exact ht
              clear hcn ht htk hx hF0 hcl htl
              go_wp2
              go_roundw
              case rel => exact ⟨m + 1, by omega, by rw [HCN.out], by go_num, hB2⟩
              case measure => simp [intOf]; omega
          · obtain rfl : m = xs.length := by omega
            have hlk := look_m2 (HM9.out.later hB2.out) (p : Int)
            rw [cntF_get, cntF_is] at hlk
            rw [List.take_length]
            have hsc := sumC_le p xs
            have hcl := cnt_le xs (p : Int)
            have HS := Lib.hid (show sumC xs (p + 1) = sumC xs p + cnt xs (p : Int) from rfl)
            generalize sumC xs p = a at *
            generalize cnt xs (p : Int) = c at *
            have ha0 : (0 : Int) ≤ (a : Int) := by omega
            have ha1 : (a : Int) ≤ 4096 := by omega
            have hc1 : (c : Int) ≤ 4096 := by omega
            have hc0 : (0 : Int) ≤ (c : Int) := by omega
            by_cases hz : c = 0
            · subst hz
              simp only [Nat.lt_irrefl, decide_false] at hlk
              clear hsc hcl
              go_wp2
              go_roundw
              case rel => exact ⟨p + 1, by omega, by rw [HS.out]; go_num, by go_num, hB2⟩
              case measure => simp [intOf]; omega
            · have hd : decide (0 < c) = true := decide_eq_true (by omega)
              rw [hd] at hlk
              have hg : decide ((c : Int) > 0) = true := decide_eq_true (by omega)
              have hg' : decide (0 < c) = true := hd
              have hbb : ((c : Int) != (c : Int)) = false := by simp
              clear hsc hcl
              go_wp2
              go_roundw
              case rel => exact ⟨p + 1, by omega, by rw [HS.out]; go_num, by go_num, hB2⟩
              case measure => simp [intOf]; omega
      · obtain rfl : p = ss.length := by omega
        rw [HALL.out]
        go_wp2
        go_ret
        exact ⟨rfl, HB9.out.trans (hB.out.mono HB9.out.size)⟩
  · have hb : legS ss xs = false := by simpa using hb
    have K1 := Lib.hid (count_bad As A7 cs c7 ss xs w7 RS7 F7 hb)
    have K2 := Lib.hid (fun (W : World) (h : Below w7.heap.size w7 W) => legal_len As A7 cs c7 ss xs ss.length xs.length false W rfl rfl hb (RS7.later h) (F7.later h))
    clear F7 e7 RS7 HG7 hxs KT H46 HQ7 HQ6 HQ5 HQ4 HQ RS4 B4 H47 H5 KD HOK hb
    go_wp2_with (first
      | (go_at_call 20; (with_reducible refine K1.out.mono ?_); rintro e w8 ⟨rfl, h8⟩; have H8 := Lib.hid h8; clear h8)
      | (go_at_call 17; (with_reducible refine (K2.out _ H8.out).mono ?_); rintro e w9 ⟨rfl, h9⟩; have H9 := Lib.hid (bel_step H8.out h9); clear h9))
    go_ret
    exact ⟨rfl, HB7.out.trans (H9.out.mono HB7.out.size)⟩
end Go.Proofs.Ythfiodjhjhpiaaa
