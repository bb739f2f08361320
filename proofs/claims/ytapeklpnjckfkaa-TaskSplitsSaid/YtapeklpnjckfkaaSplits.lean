/- TaskSplits: the walk. -/
import Derived.Test.YtapeklpnjckfkaaSplit0
namespace Go.Proofs.Ytapeklpnjckfkaa
open Go.RowKit
set_option linter.unusedVariables false
set_option linter.unusedSimpArgs false

set_option maxRecDepth 100000 in
set_option maxHeartbeats 8000000 in
theorem splits_walk (A2 : Option Addr) (cap2 : Nat) (specs : List Sp) (at_ : Int) (w : World) (hS : SRow w A2 cap2 specs) (hi : in64 at_) :
    Calls Try.prog 6 #[.slice A2 specs.length cap2, .int .i64 at_] w fun e w' => e = .returned (.bool true) ∧ Below w.heap.size w w' := by
  have hts := Lib.hid hi
  have hle := hS.le
  have hmx := hS.mx
  have SR := Lib.hid hS
  obtain ⟨i1, i2⟩ := hi
  clear hS
  go_enter Try.func6, Try.ntmps6
  go_upto_region 2 with (go_at_call 9; (with_reducible refine (awake_any _).mono ?_); rintro e w1 ⟨rfl, h1⟩)
  go_upto_region 3 with (go_at_call 10; refine (set_any A2 cap2 specs _ _ (SR.out.later h1) hts.out).mono ?_; rintro e w2 ⟨A3, cap3, ts, rfl, hRt, hn1, hn8, hD, h2⟩)
  have hB2 := Lib.hid (h1.trans (h2.mono h1.size))
  clear h1 h2 SR hle hmx
  have ROW := Lib.hid hRt
  have hle := hRt.le
  have hmx := hRt.mx
  have CR := Lib.hid (fun W => rest_any at_ (ts.length : Int) W hts.out (by omega) (by omega))
  obtain ⟨b1, b2⟩ := restI_bd at_ (ts.length : Int) (by omega) (by omega)
  obtain ⟨i, hi⟩ : ∃ i : Nat, restI at_ (ts.length : Int) = (i : Int) := ⟨(restI at_ (ts.length : Int)).toNat, by omega⟩
  rw [hi] at CR b1 b2
  have hnl : i < ts.length := by omega
  go_upto_region 4 with (go_at_call 13; (with_reducible refine (CR.out _).mono ?_); rintro e w' ⟨rfl, rfl⟩)
  clear CR hi b1 b2 hts i1 i2
  obtain ⟨b, o, xi, rfl, hxi, hwi, hbl, hTi⟩ := hRt.get hnl
  clear hwi hxi hTi hRt
  have hat : in64 (i : Int) := ⟨by omega, by omega⟩
  have CH := fun W hR => higher_any (some ⟨b, o, none⟩) cap3 ts (i : Int) W hR hat
  have CL := fun W hR => lower_any (some ⟨b, o, none⟩) cap3 ts (i : Int) W hR hat
  have CO := Lib.hid (fun W hR => order_any (some ⟨b, o, none⟩) cap3 ts W hR (by omega))
  have P1 := split_minus (l := ts) i hnl
  have P2 := split_has hD hnl
  have P3 := split_len hD (by omega) hnl
  have P4 : ∀ o' : List Nat, IsOrd ts o' → o'[cnt (higherF ts (i : Int)) 16]? = some i := fun o' hO => split_at hD (by omega) hO hnl
  generalize higherF ts (i : Int) = F at *
  generalize lowerF ts (i : Int) = G at *
  have CH := Lib.hid CH
  have CL := Lib.hid CL
  have COr := fun W => or_any F G W
  have CMi := fun W => minus_any F G W
  rw [P1] at CMi
  generalize orF F G = H at *
  have CHs := fun W => has_any H (i : Int) W (by omega) (by omega)
  rw [hasB_nat H i (by omega), P2] at CHs
  have CLH := fun W => len_any H W
  have CLF := fun W => len_any F W
  generalize cnt H 16 = c at *
  generalize cnt F 16 = q at *
  have COr := Lib.hid COr
  have CMi := Lib.hid CMi
  have CHs := Lib.hid CHs
  have CLH := Lib.hid CLH
  have CLF := Lib.hid CLF
  have P4 := Lib.hid P4
  have HD := Lib.hid hD
  clear P1 P2 hD hat
  go_upto_region 7 with (first
    | (go_at_call 16; (with_reducible refine (CH.out _ ROW.out).mono ?_); rintro e w3 ⟨rfl, h3⟩)
    | ((with_reducible show wpList _ _ _ (⟨none, Op.store 41 (.tmp 8) _, _, _, _, _⟩ :: _) _ _); refine wpList_store_mid rfl 41 _ _ rfl _ _ (cellsL F).toArray rfl rfl ((zero_box _).there _) (info26' _) (cellsL_all _) ?_; rw [alloc_stored]; obtain ⟨W4, hW, B4, h4⟩ := held4 w3 F; rw [hW]; clear hW)
    | (go_at_call 17; (with_reducible refine (CL.out _ (ROW.out.later (h3.trans (h4.mono h3.size)))).mono ?_); rintro e w5 ⟨rfl, h5⟩; have h35 := (h3.trans (h4.mono h3.size)).trans (h5.mono (Nat.le_trans h3.size h4.size)))
    | ((with_reducible show wpList _ _ _ (⟨none, Op.store 41 (.tmp 9) _, _, _, _, _⟩ :: _) _ _); refine wpList_store_mid rfl 41 _ _ rfl _ _ (cellsL G).toArray rfl rfl ((zero_box _).there _) (info26' _) (cellsL_all _) ?_; rw [alloc_stored]; obtain ⟨W6, hW, B6, h6⟩ := held4 w5 G; rw [hW]; clear hW)
    | (go_at_call 18; (with_reducible refine (CO.out _ (ROW.out.later (h35.trans (h6.mono h35.size)))).mono ?_); rintro e w7 ⟨g, o', rfl, hO, hcell, hg, h7⟩))
  have D4 := Lib.hid (((B4.later h5).later h6).later h7)
  have D6 := Lib.hid (B6.later h7)
  have hB7 := Lib.hid ((h35.trans (h6.mono h35.size)).trans (h7.mono (Nat.le_trans h35.size h6.size)))
  have HO := Lib.hid hO
  have HC := Lib.hid hcell
  have hn7 : g < w7.heap.size := hg
  clear h3 h4 h5 h6 h7 h35 B4 B6 hO hcell hg CH CL CO
  generalize w3.heap.size = bh at *
  generalize w5.heap.size = bl at *
  have HQ0 := P4.out o' HO.out
  have hql := (List.getElem?_eq_some_iff.1 HQ0).1
  rw [HO.out.len] at hql
  have HQ := Lib.hid (HC.out q i HQ0)
  clear HQ0 P4
  have q0 : (0 : Int) ≤ (q : Int) := by omega
  have q1 : (q : Int) < (ts.length : Int) := by omega
  have c1 : IntKind.i64.wrap ((ts.length : Int) - 1) = (c : Int) := by rw [IntWalk.i64_in _ (by omega)]; omega
  refine region_quiet_l (C := fun v => Below w7.heap.size w7 v) (by kernel_rfl) (by kernel_rfl) (below_drew _) ?_
  repeat (first
    | (refine wq_skip (by rfl) ?_; (try simp only [Act.put, List.setIfInBounds_toArray, List.set_cons_zero, List.set_cons_succ]))
    | (refine wq_val _ (by rfl) (by intro v hC; clear hC; go_simp; (try rfl)) ?_; (try simp only [Act.put, List.setIfInBounds_toArray, List.set_cons_zero, List.set_cons_succ]))
    | (with_reducible fail))
  refine wq_load _ bh F (fun w h => (D4.out.later h).range) (by rfl) (by rfl) (by rfl) ?_
  (try simp only [Act.put, List.setIfInBounds_toArray, List.set_cons_zero, List.set_cons_succ])
  refine wq_load _ bl G (fun w h => (D6.out.later h).range) (by rfl) (by rfl) (by rfl) ?_
  (try simp only [Act.put, List.setIfInBounds_toArray, List.set_cons_zero, List.set_cons_succ])
  refine wq_call (fun W _ => COr.out W) lt_step (by rfl) (by intro v _; go_simp) ?_
  (try simp only [Act.put, List.setIfInBounds_toArray, List.set_cons_zero, List.set_cons_succ])
  repeat (first
    | (refine wq_skip (by rfl) ?_; (try simp only [Act.put, List.setIfInBounds_toArray, List.set_cons_zero, List.set_cons_succ]))
    | (refine wq_val _ (by rfl) (by intro v hC; clear hC; go_simp; (try rfl)) ?_; (try simp only [Act.put, List.setIfInBounds_toArray, List.set_cons_zero, List.set_cons_succ]))
    | (with_reducible fail))
  refine wq_call (fun W _ => CHs.out W) lt_step (by rfl) (by intro v _; go_simp) ?_
  (try simp only [Act.put, List.setIfInBounds_toArray, List.set_cons_zero, List.set_cons_succ])
  repeat (first
    | (refine wq_skip (by rfl) ?_; (try simp only [Act.put, List.setIfInBounds_toArray, List.set_cons_zero, List.set_cons_succ]))
    | (refine wq_val _ (by rfl) (by intro v hC; clear hC; go_simp; (try rfl)) ?_; (try simp only [Act.put, List.setIfInBounds_toArray, List.set_cons_zero, List.set_cons_succ]))
    | (with_reducible fail))
  refine wq_load _ bh F (fun w h => (D4.out.later h).range) (by rfl) (by rfl) (by rfl) ?_
  (try simp only [Act.put, List.setIfInBounds_toArray, List.set_cons_zero, List.set_cons_succ])
  refine wq_load _ bl G (fun w h => (D6.out.later h).range) (by rfl) (by rfl) (by rfl) ?_
  (try simp only [Act.put, List.setIfInBounds_toArray, List.set_cons_zero, List.set_cons_succ])
  refine wq_call (fun W _ => COr.out W) lt_step (by rfl) (by intro v _; go_simp) ?_
  (try simp only [Act.put, List.setIfInBounds_toArray, List.set_cons_zero, List.set_cons_succ])
  refine wq_call (fun W _ => CLH.out W) lt_step (by rfl) (by intro v _; go_simp) ?_
  (try simp only [Act.put, List.setIfInBounds_toArray, List.set_cons_zero, List.set_cons_succ])
  repeat (first
    | (refine wq_skip (by rfl) ?_; (try simp only [Act.put, List.setIfInBounds_toArray, List.set_cons_zero, List.set_cons_succ]))
    | (refine wq_val _ (by rfl) (by intro v hC; clear hC; go_simp; (try rfl)) ?_; (try simp only [Act.put, List.setIfInBounds_toArray, List.set_cons_zero, List.set_cons_succ]))
    | (with_reducible fail))
  refine wq_load _ bh F (fun w h => (D4.out.later h).range) (by rfl) (by rfl) (by rfl) ?_
  (try simp only [Act.put, List.setIfInBounds_toArray, List.set_cons_zero, List.set_cons_succ])
  refine wq_load _ bl G (fun w h => (D6.out.later h).range) (by rfl) (by rfl) (by rfl) ?_
  (try simp only [Act.put, List.setIfInBounds_toArray, List.set_cons_zero, List.set_cons_succ])
  refine wq_call (fun W _ => CMi.out W) lt_step (by rfl) (by intro v _; go_simp) ?_
  (try simp only [Act.put, List.setIfInBounds_toArray, List.set_cons_zero, List.set_cons_succ])
  refine wq_load _ bh F (fun w h => (D4.out.later h).range) (by rfl) (by rfl) (by rfl) ?_
  (try simp only [Act.put, List.setIfInBounds_toArray, List.set_cons_zero, List.set_cons_succ])
  refine wq_neq _ _ F (by rfl) (by rfl) (by rfl) (by rfl) ?_
  (try simp only [Act.put, List.setIfInBounds_toArray, List.set_cons_zero, List.set_cons_succ])
  repeat (first
    | (refine wq_skip (by rfl) ?_; (try simp only [Act.put, List.setIfInBounds_toArray, List.set_cons_zero, List.set_cons_succ]))
    | (refine wq_val _ (by rfl) (by intro v hC; clear hC; go_simp; (try rfl)) ?_; (try simp only [Act.put, List.setIfInBounds_toArray, List.set_cons_zero, List.set_cons_succ]))
    | (with_reducible fail))
  refine wq_load _ bh F (fun w h => (D4.out.later h).range) (by rfl) (by rfl) (by rfl) ?_
  (try simp only [Act.put, List.setIfInBounds_toArray, List.set_cons_zero, List.set_cons_succ])
  refine wq_call (fun W _ => CLF.out W) lt_step (by rfl) (by intro v _; go_simp) ?_
  (try simp only [Act.put, List.setIfInBounds_toArray, List.set_cons_zero, List.set_cons_succ])
  repeat (first
    | (refine wq_skip (by rfl) ?_; (try simp only [Act.put, List.setIfInBounds_toArray, List.set_cons_zero, List.set_cons_succ]))
    | (refine wq_val _ (by rfl) (by intro v hC; have zq := (hC.cell (p := ⟨g, q, none⟩) hn7).trans HQ.out; clear hC; go_simp; (try rfl)) ?_; (try simp only [Act.put, List.setIfInBounds_toArray, List.set_cons_zero, List.set_cons_succ]))
    | (with_reducible fail))
  refine wpQuiet_nil ?_
  intro W8 hW8
  have hB8 := Lib.hid (Below.trans hB7.out (Below.mono hW8 (Below.size hB7.out)))
  have hn8' : g < W8.heap.size := Nat.lt_of_lt_of_le hn7 (Below.size hW8)
  have HC8 : Hid (∀ (k i : Nat), o'[k]? = some i → W8.cell? ⟨g, k, none⟩ = some (.int .i64 (i : Int))) := Lib.hid (fun k i h => (Below.cell hW8 (p := ⟨g, k, none⟩) hn7).trans (HC.out k i h))
  clear hW8 HQ c1 q0 q1 HC D4 D6 hql P3
  go_wp2
  go_loopw [11] (fun s wr => ∃ k : Nat, 1 ≤ k ∧ k ≤ ts.length ∧ s = .int .i64 k ∧ Below W8.heap.size W8 wr) (fun s _ => ts.length - (intOf s).toNat)
  case atStart => exact ⟨1, Nat.le_refl _, hn1, rfl, Below.refl _ _⟩
  case round =>
    obtain ⟨k, hk0, hk, rfl, hL⟩ := hrel
    have HL := Lib.hid hL
    by_cases hlt : k < ts.length
    · obtain ⟨kp, hkp⟩ : ∃ kp, kp + 1 = k := ⟨k - 1, by omega⟩
      have hol := HO.out.len
      obtain ⟨a, ha⟩ : ∃ a, o'[kp]? = some a := ⟨_, List.getElem?_eq_getElem (by omega)⟩
      obtain ⟨b2, hb⟩ : ∃ b2, o'[k]? = some b2 := ⟨_, List.getElem?_eq_getElem (by omega)⟩
      have hal := HO.out.lt ha
      have hbl2 := HO.out.lt hb
      obtain ⟨x, hx⟩ := get_of hal
      obtain ⟨y, hy⟩ := get_of hbl2
      have hup := split_up HD.out HO.out (by omega) ha hb hx hy
      have P5 := split_low HD.out (by omega) HO.out (by omega) ha
      have ROWr := Lib.hid (ROW.out.later (Below.trans hB8.out (Below.mono HL.out (Below.size hB8.out))))
      have pa : wr.cell? ⟨b, o + a * 7 + 6, none⟩ = some (.int .i64 x.p) := (ROWr.out.at2 hx).c6
      have pb : wr.cell? ⟨b, o + b2 * 7 + 6, none⟩ = some (.int .i64 y.p) := (ROWr.out.at2 hy).c6
      have hbr : b < wr.heap.size := (ROWr.out.at2 hx).lt
      have hgr : g < wr.heap.size := Nat.lt_of_lt_of_le hn8' (Below.size hL)
      have ca : wr.cell? ⟨g, kp, none⟩ = some (.int .i64 (a : Int)) := (Below.cell hL (p := ⟨g, kp, none⟩) hn8').trans (HC8.out kp a ha)
      have cb : wr.cell? ⟨g, k, none⟩ = some (.int .i64 (b2 : Int)) := (Below.cell hL (p := ⟨g, k, none⟩) hn8').trans (HC8.out k b2 hb)
      have CLo := fun W hR => lower_any (some ⟨b, o, none⟩) cap3 ts (a : Int) W hR ⟨by omega, by omega⟩
      generalize lowerF ts (a : Int) = L at *
      have CLo := Lib.hid CLo
      have CLL := fun W => len_any L W
      generalize cnt L 16 = cl at *
      have CLL := Lib.hid CLL
      have a0 : (0 : Int) ≤ (a : Int) := by omega
      have a1 : (a : Int) < (ts.length : Int) := by omega
      have a2 : decide ((a : Int) < 0) = false := decide_eq_false (by omega)
      have a3 : decide ((ts.length : Int) ≤ (a : Int)) = false := decide_eq_false (by omega)
      have a4 : decide (ts.length ≤ a) = false := decide_eq_false (by omega)
      have b0 : (0 : Int) ≤ (b2 : Int) := by omega
      have b1 : (b2 : Int) < (ts.length : Int) := by omega
      have b3 : decide ((b2 : Int) < 0) = false := decide_eq_false (by omega)
      have b4 : decide ((ts.length : Int) ≤ (b2 : Int)) = false := decide_eq_false (by omega)
      have b5 : decide (ts.length ≤ b2) = false := decide_eq_false (by omega)
      have k0 : (0 : Int) ≤ (k : Int) := by omega
      have k1 : (k : Int) < (ts.length : Int) := by omega
      have k2 : decide (k < ts.length) = true := decide_eq_true (by omega)
      have k3 : decide ((k : Int) < (ts.length : Int)) = true := decide_eq_true (by omega)
      have p0 : (0 : Int) ≤ (kp : Int) := by omega
      have p1 : (kp : Int) < (ts.length : Int) := by omega
      have u1 : decide (y.p ≤ x.p) = false := decide_eq_false (by omega)
      have u2 : decide (x.p ≥ y.p) = false := decide_eq_false (by omega)
      have d1 : IntKind.i64.wrap ((k : Int) - 1) = (kp : Int) := by rw [IntWalk.i64_in _ (by omega)]; omega
      have d2 : IntKind.i64.wrap ((ts.length : Int) - (k : Int)) = (cl : Int) := by rw [IntWalk.i64_in _ (by omega)]; omega
      clear hL ha hb hx hy P5 hol hup
      go_upto_region 12 with (fail)
      refine region_quiet_l (C := fun v => Below wr.heap.size wr v) (by kernel_rfl) (by kernel_rfl) (below_drew _) ?_
      repeat (first
        | (refine wq_skip (by rfl) ?_; (try simp only [Act.put, List.setIfInBounds_toArray, List.set_cons_zero, List.set_cons_succ]))
        | (refine wq_val _ (by rfl) (by intro v hC; have za := (hC.cell (p := ⟨g, kp, none⟩) hgr).trans ca; have zb := (hC.cell (p := ⟨g, k, none⟩) hgr).trans cb; have ya := (hC.cell (p := ⟨b, o + a * 7 + 6, none⟩) hbr).trans pa; have yb := (hC.cell (p := ⟨b, o + b2 * 7 + 6, none⟩) hbr).trans pb; clear hC; go_simp; (try rfl)) ?_; (try simp only [Act.put, List.setIfInBounds_toArray, List.set_cons_zero, List.set_cons_succ]))
        | (with_reducible fail))
      refine wq_call (fun W h => CLo.out W (ROWr.out.later h)) lt_step (by rfl) (by intro v _; go_simp) ?_
      (try simp only [Act.put, List.setIfInBounds_toArray, List.set_cons_zero, List.set_cons_succ])
      refine wq_call (fun W _ => CLL.out W) lt_step (by rfl) (by intro v _; go_simp) ?_
      (try simp only [Act.put, List.setIfInBounds_toArray, List.set_cons_zero, List.set_cons_succ])
      repeat (first
        | (refine wq_skip (by rfl) ?_; (try simp only [Act.put, List.setIfInBounds_toArray, List.set_cons_zero, List.set_cons_succ]))
        | (refine wq_val _ (by rfl) (by intro v hC; have za := (hC.cell (p := ⟨g, kp, none⟩) hgr).trans ca; have zb := (hC.cell (p := ⟨g, k, none⟩) hgr).trans cb; have ya := (hC.cell (p := ⟨b, o + a * 7 + 6, none⟩) hbr).trans pa; have yb := (hC.cell (p := ⟨b, o + b2 * 7 + 6, none⟩) hbr).trans pb; clear hC; go_simp; (try rfl)) ?_; (try simp only [Act.put, List.setIfInBounds_toArray, List.set_cons_zero, List.set_cons_succ]))
        | (with_reducible fail))
      refine wpQuiet_nil ?_
      intro W9 hW9
      have HL9 := Lib.hid (Below.trans HL.out (Below.mono hW9 (Below.size HL.out)))
      clear hW9 pa pb ca cb d1 d2
      go_wp2
      exact ⟨⟨k + 1, by omega, by omega, by go_num, HL9.out⟩, by simp [intOf]; omega⟩
    · obtain rfl : k = ts.length := by omega
      clear hL
      go_wp2
      go_ret
      exact ⟨rfl, Below.trans hB2.out (Below.mono (Below.trans hB8.out (Below.mono HL.out (Below.size hB8.out))) (Below.size hB2.out))⟩
end Go.Proofs.Ytapeklpnjckfkaa
