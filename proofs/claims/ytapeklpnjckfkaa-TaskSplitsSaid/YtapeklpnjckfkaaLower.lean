/- Lower: its contract. -/
import Derived.Test.YtapeklpnjckfkaaWhere
namespace Go.Proofs.Ytapeklpnjckfkaa
open Go.RowKit
set_option linter.unusedVariables false
set_option linter.unusedSimpArgs false

set_option maxRecDepth 100000 in
set_option maxHeartbeats 8000000 in
theorem where_lower (A : Option Addr) (cap : Nat) (l : List Ts) (i : Int) (w : World) (hR : Row w A cap l) (hi : in64 i) :
    Calls Try.prog 32 #[.slice A l.length cap, .int .i64 i, .func (.func 34) #[] #[]] w fun e w' => e = .returned (setV (lowerF l i)) ∧ Below w.heap.size w w' := by
  have hle := hR.le
  have hmx := hR.mx
  obtain ⟨W0, hW0, G1, G2, B0⟩ := two_zero w
  have HW0 := Lib.hid hW0
  have ROW := Lib.hid hR
  clear hW0 hR
  by_cases hin : 0 ≤ i ∧ i < (l.length : Int)
  · obtain ⟨h0, h1⟩ := hin
    have h0' : decide (i < 0) = false := decide_eq_false (by omega)
    have h1' : decide (i ≥ (l.length : Int)) = false := decide_eq_false (by omega)
    have h1'' : decide ((l.length : Int) ≤ i) = false := decide_eq_false (by omega)
    obtain ⟨n, rfl⟩ := Int.eq_ofNat_of_zero_le h0
    obtain ⟨m, hm⟩ : ∃ m, m = min l.length 1024 := ⟨_, rfl⟩
    have hmin : min (l.length : Int) 1024 = (m : Int) := by omega
    have HM := Lib.hid hm
    have hml : m ≤ l.length := by omega
    have hm1 : m ≤ 1024 := by omega
    clear hm
    obtain ⟨b, o, xi, rfl, hxi, hwi, hbl, hTi⟩ := ROW.out.get (k := n) (by omega)
    have HP := Lib.hid (pAt_some hxi)
    have HTi := Lib.hid hTi
    clear hxi hwi hTi
    obtain ⟨f, hf⟩ : ∃ f, lowerF l (n : Int) = f := ⟨_, rfl⟩
    have hfar : ∀ k, l.length ≤ k → f k = false := fun k hk => by rw [← hf]; exact lowerF_far hk
    have hat : ∀ k x, l[k]? = some x → f k = decide (xi.p < x.p) := fun k x hx => by rw [← hf]; exact lowerF_at HP.out hx
    rw [hf]
    have HEQ := Lib.hid (setV_cut hfar HM.out)
    have HAT := Lib.hid hat
    clear hf hfar hat
    have hmc : (m : Int) ≤ (cap : Int) := by omega
    have h1N : decide (l.length ≤ n) = false := decide_eq_false (by omega)
    go_enter Try.func32, Try.ntmps32
    go_upto_region 2 with (fail)
    rw [HW0.out]
    clear HW0
    go_wp2
    go_loopw [25] (fun s wr => ∃ k : Nat, k ≤ m ∧ s = .int .i64 k ∧ Box wr w.heap.size noneF ∧ Box wr (w.heap.size + 1) (cutF f k) ∧ Below w.heap.size w wr) (fun s _ => m - (intOf s).toNat)
    case atStart => exact ⟨0, Nat.zero_le _, rfl, G1, by rw [cutF_zero]; exact G2, B0⟩
    case round =>
      obtain ⟨k, hk, rfl, H1, H2, hB⟩ := hrel
      clear G1 G2 B0
      by_cases hlt : k < m
      · obtain ⟨x, hx⟩ : ∃ x, l[k]? = some x := ⟨l[k], List.getElem?_eq_getElem (by omega)⟩
        have T := (ROW.out.at2 hx).later hB
        have TI := HTi.out.later hB
        have c0 := T.c0
        have c1 := T.c1
        have c2 := T.c2
        have c3 := T.c3
        have c4 := T.c4
        have c5 := T.c5
        have c6 := T.c6
        have hi0 : (0 : Int) ≤ (k : Int) := by omega
        have hi1 : (k : Int) < (m : Int) := by omega
        have hi2 : (k : Int) < (l.length : Int) := by omega
        have HF := Lib.hid (HAT.out k x hx)
        have TI := Lib.hid TI
        have H1 := Lib.hid H1
        have H2 := Lib.hid H2
        have HB := Lib.hid hB
        clear T hx hB
        go_upto_region 7 with (fail)
        obtain ⟨W4, hW4, T4, D1, D2, hB4, hbt, hbl2, hns⟩ : ∃ W4, wr.alloc (.cells #[.string x.n, .int .i64 x.c, .int .i64 x.t, .int .i64 x.d, .int .i64 x.j, .int .i64 x.q, .int .i64 x.p] 33) = W4 ∧ TAt W4 wr.heap.size 0 x ∧ Box W4 w.heap.size noneF ∧ Box W4 (w.heap.size + 1) (cutF f k) ∧ Below w.heap.size w W4 ∧ wr.heap.size < W4.heap.size ∧ b < W4.heap.size ∧ w.heap.size ≤ W4.heap.size :=
          ⟨_, rfl, TAt.new wr x, H1.out.alloc _, H2.out.alloc _, HB.out.trans ((Below.refl _ _).alloc (Below.size HB.out) _), by simp, by have := Below.size HB.out; simp; omega, by have := Below.size HB.out; simp; omega⟩
        have x6 := (TI.out.later (Below.alloc (Below.refl _ _) (Nat.le_refl _) (.cells #[.string x.n, .int .i64 x.c, .int .i64 x.t, .int .i64 x.d, .int .i64 x.j, .int .i64 x.q, .int .i64 x.p] 33))).c6
        rw [hW4] at x6 ⊢
        have y6 : W4.cell? ⟨wr.heap.size, 6, none⟩ = some (.int .i64 x.p) := T4.c6
        clear hW4 c0 c1 c2 c3 c4 c5 c6 T4 H1 H2 HB
        generalize wr.heap.size = bt at *
        have D1 := Lib.hid D1
        have D2 := Lib.hid D2
        have hB4 := Lib.hid hB4
        have CL := Lib.hid (fun W => calls_same (lower1_any x.p xi.p W))
        have hn0 : (0 : Int) ≤ (n : Int) := by omega
        refine region_quiet_l (C := fun v => Below W4.heap.size W4 v) (by kernel_rfl) (by kernel_rfl) (below_drew _) ?_
        repeat (first
          | (refine wq_skip (by rfl) ?_; (try simp only [Act.put, List.setIfInBounds_toArray, List.set_cons_zero, List.set_cons_succ]))
          | (refine wq_val _ (by rfl) (by intro v hC; have z9 := (hC.cell (p := ⟨bt, 6, none⟩) hbt).trans y6; have zi := (hC.cell (p := ⟨b, o + n * 7 + 6, none⟩) hbl2).trans x6; clear hC; go_simp; (try rfl)) ?_; (try simp only [Act.put, List.setIfInBounds_toArray, List.set_cons_zero, List.set_cons_succ]))
          | (with_reducible fail))
        refine wq_call (fun W _ => CL.out W) lt_step (by rfl) (by intro v _; go_simp) ?_
        (try simp only [Act.put, List.setIfInBounds_toArray, List.set_cons_zero, List.set_cons_succ])
        refine wpQuiet_nil ?_
        intro W5 hW5
        have E1 := D1.out.later hW5
        have E2 := D2.out.later hW5
        have hB5 := Lib.hid (hB4.out.trans (hW5.mono hns))
        clear hW5 D1 D2 hB4 x6 y6
        cases hfk : f k
        · have h5 : decide (xi.p < x.p) = false := by rw [← HF.out]; exact hfk
          have HN := Lib.hid (cutF_no hfk)
          have E1 := Lib.hid E1
          have E2 := Lib.hid E2
          clear hfk
          rw [h5]
          go_wp2
          exact ⟨⟨k + 1, by omega, by go_num, E1.out, by rw [← HN.out]; exact E2.out, hB5.out⟩, by simp [intOf]; omega⟩
        · have h5 : decide (xi.p < x.p) = true := by rw [← HF.out]; exact hfk
          have hlt5 := of_decide_eq_true h5
          have HN := Lib.hid (cutF_yes hfk)
          have WI := Lib.hid (fun W => with_any (cutF f k) (k : Int) W (by omega) (by omega))
          clear hfk
          rw [h5]
          go_wp2_with (first
            | ((with_reducible show wpList _ _ _ (⟨some 39, _, _, _, _, _⟩ :: _) _ _); refine wpList_load_mid rfl 41 _ rfl _ _ rfl _ _ E2.range Try.underlying41 rfl (info26 _) ?_)
            | (go_at_call 48; (with_reducible refine (WI.out _).mono ?_); rintro e w6 ⟨rfl, h6⟩; have F1 := E1.later h6; have F2 := E2.later h6; have hB6 := Lib.hid (hB5.out.trans (h6.mono (Below.size hB5.out))); clear h6)
            | ((with_reducible show wpList _ _ _ (⟨none, Op.store 41 _ _, _, _, _, _⟩ :: _) _ _); refine wpList_store_mid rfl 41 _ _ rfl _ _ (cellsL (ins (cutF f k) (k : Int))).toArray rfl rfl (F2.there _) (info26' _) (cellsL_all _) ?_))
          go_roundw
          case rel =>
            have HR : ∃ k' : Nat, k' ≤ m ∧ Value.int .i64 ((k : Int) + 1) = .int .i64 k' ∧ Box (w6.setCells (w.heap.size + 1) 0 (cellsL (ins (cutF f k) (k : Int)))) w.heap.size noneF ∧ Box (w6.setCells (w.heap.size + 1) 0 (cellsL (ins (cutF f k) (k : Int)))) (w.heap.size + 1) (cutF f k') ∧ Below w.heap.size w (w6.setCells (w.heap.size + 1) 0 (cellsL (ins (cutF f k) (k : Int)))) := ⟨k + 1, by omega, by go_num, F1.setCells_other F2 _ (by omega), by rw [← HN.out]; exact F2.setCells _, below_setCells hB6.out F2 _ (by omega)⟩
            exact HR
          case measure => simp [intOf]; omega
      · obtain rfl : k = m := by omega
        have HB := Lib.hid hB
        clear hB
        go_wp2_with (first
          | ((with_reducible show wpList _ _ _ (⟨some 43, _, _, _, _, _⟩ :: _) _ _); refine wpList_load_mid rfl 41 _ rfl _ _ rfl _ _ H2.range Try.underlying41 rfl (info26 _) ?_)
          | ((with_reducible show wpList _ _ _ (⟨none, Op.store 41 _ _, _, _, _, _⟩ :: _) _ _); refine wpList_store_mid rfl 41 _ _ rfl _ _ (cellsL (cutF f k)).toArray rfl rfl (H1.there _) (info26' _) (cellsL_all _) ?_)
          | ((with_reducible show bodyPost _ _ _ _ _ _); exact bodyPost_ret (results_box rfl _ _ _ _ rfl (H1.setCells _)) rfl ⟨by rw [HEQ.out], below_setCells HB.out H1 _ (Nat.le_refl _)⟩))
  · have hno : pAt l i = none := pAt_none (by omega)
    rw [lowerF_none hno]
    clear hno
    by_cases h0 : i < 0
    · clear hin
      go_enter Try.func32, Try.ntmps32
      go_upto_region 2 with (fail)
      rw [HW0.out]
      go_wp2_with (first
        | ((with_reducible show wpList _ _ _ (⟨some 18, _, _, _, _, _⟩ :: _) _ _); refine wpList_load_mid rfl 41 _ rfl _ _ rfl _ _ G2.range Try.underlying41 rfl (info26 _) ?_)
        | ((with_reducible show wpList _ _ _ (⟨none, Op.store 41 _ _, _, _, _, _⟩ :: _) _ _); refine wpList_store_mid rfl 41 _ _ rfl _ _ (cellsL noneF).toArray rfl rfl (G1.there _) (info26' _) (cellsL_all _) ?_)
        | ((with_reducible show bodyPost _ _ _ _ _ _); exact bodyPost_ret (results_box rfl _ _ _ _ rfl (G1.setCells _)) rfl ⟨rfl, below_setCells B0 G1 _ (Nat.le_refl _)⟩))
    · have h0' : decide (i < 0) = false := decide_eq_false h0
      have h1 : (l.length : Int) ≤ i := by omega
      clear hin
      go_enter Try.func32, Try.ntmps32
      go_upto_region 2 with (fail)
      rw [HW0.out]
      go_wp2_with (first
        | ((with_reducible show wpList _ _ _ (⟨some 18, _, _, _, _, _⟩ :: _) _ _); refine wpList_load_mid rfl 41 _ rfl _ _ rfl _ _ G2.range Try.underlying41 rfl (info26 _) ?_)
        | ((with_reducible show wpList _ _ _ (⟨none, Op.store 41 _ _, _, _, _, _⟩ :: _) _ _); refine wpList_store_mid rfl 41 _ _ rfl _ _ (cellsL noneF).toArray rfl rfl (G1.there _) (info26' _) (cellsL_all _) ?_)
        | ((with_reducible show bodyPost _ _ _ _ _ _); exact bodyPost_ret (results_box rfl _ _ _ _ rfl (G1.setCells _)) rfl ⟨rfl, below_setCells B0 G1 _ (Nat.le_refl _)⟩))

set_option maxRecDepth 100000 in
set_option maxHeartbeats 4000000 in
theorem lower_any (A : Option Addr) (cap : Nat) (l : List Ts) (i : Int) (w : World) (hR : Row w A cap l) (hi : in64 i) :
    Calls Try.prog 17 #[.slice A l.length cap, .int .i64 i] w fun e w' => e = .returned (setV (lowerF l i)) ∧ Below w.heap.size w w' := by
  have b1 := zero_box w
  have hb := (Below.refl w.heap.size w).alloc (Nat.le_refl _) (.cells #[.int .u64 0, .int .u64 0, .int .u64 0, .int .u64 0, .int .u64 0, .int .u64 0, .int .u64 0, .int .u64 0, .int .u64 0, .int .u64 0, .int .u64 0, .int .u64 0, .int .u64 0, .int .u64 0, .int .u64 0, .int .u64 0] 41)
  have WH := Lib.hid (fun W hR => where_lower A cap l i W hR hi)
  have ROW := Lib.hid (hR.later hb)
  clear hR
  go_enter Try.func17, Try.ntmps17
  go_upto_region 1 with (fail)
  generalize w.alloc (.cells #[.int .u64 0, .int .u64 0, .int .u64 0, .int .u64 0, .int .u64 0, .int .u64 0, .int .u64 0, .int .u64 0, .int .u64 0, .int .u64 0, .int .u64 0, .int .u64 0, .int .u64 0, .int .u64 0, .int .u64 0, .int .u64 0] 41) = W1 at *
  go_wp2_with (first
    | (go_at_call 32; (with_reducible refine (WH.out _ ROW.out).mono ?_); rintro e w2 ⟨rfl, h2⟩; have b2 := b1.later h2; have hb2 := hb.trans (h2.mono hb.size))
    | ((with_reducible show wpList _ _ _ (⟨none, Op.store 41 _ _, _, _, _, _⟩ :: _) _ _); refine wpList_store_mid rfl 41 _ _ rfl _ _ (cellsL (lowerF l i)).toArray rfl rfl (b2.there _) (info26' _) (cellsL_all _) ?_)
    | ((with_reducible show bodyPost _ _ _ _ _ _); exact bodyPost_ret (results_box rfl _ _ _ _ rfl (b2.setCells _)) rfl ⟨rfl, below_setCells hb2 b2 _ (Nat.le_refl _)⟩))

end Go.Proofs.Ytapeklpnjckfkaa
