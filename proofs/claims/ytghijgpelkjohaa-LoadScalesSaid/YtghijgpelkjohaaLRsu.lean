/- Sum: the document's own. -/
import Derived.Test.YtghijgpelkjohaaLRad
namespace Go.Proofs.Ytghijgpelkjohaa
open Go.RowKit
set_option linter.unusedVariables false
set_option linter.unusedSimpArgs false
abbrev TGot : TypeId := 51
/-- What the document's Sum holds of memory. -/
structure RS (n0 : Nat) (w0 : World) (s : Fr) (e : Int) (W : World) : Prop where
  r : W.heap[n0]? = some (.cells #[.int .u64 0, .int .u64 0, .int .i64 0] TGot (0, 0))
  g : W.heap[n0 + 1]? = some (.cells #[.int .u64 s.n, .int .u64 s.d, .int .i64 e] TGot (0, 0))
  b : Below n0 w0 W
theorem RS.lt {n0 : Nat} {w0 W : World} {s : Fr} {e : Int} (h : RS n0 w0 s e W) : n0 + 1 < W.heap.size := (Array.getElem?_eq_some_iff.1 h.g).1
theorem RS.later {n0 : Nat} {w0 W W' : World} {s : Fr} {e : Int} (h : RS n0 w0 s e W) (hb : Below W.heap.size W W') : RS n0 w0 s e W' :=
  ⟨(hb.block _ (by have := h.lt; omega)).trans h.r, (hb.block _ h.lt).trans h.g, h.b.trans (hb.mono (by have := h.lt; omega))⟩
theorem RS.cells {n0 : Nat} {w0 W : World} {s : Fr} {e : Int} (h : RS n0 w0 s e W) : W.cell? ⟨n0 + 1, 0, none⟩ = some (.int .u64 s.n) ∧ W.cell? ⟨n0 + 1, 1, none⟩ = some (.int .u64 s.d) ∧ W.cell? ⟨n0 + 1, 2, none⟩ = some (.int .i64 e) ∧ (∀ i, W.frozen? ⟨n0 + 1, i, none⟩ = false) :=
  ⟨row_c h.g 0, row_c h.g 1, row_c h.g 2, fun i => frozen_of_row W (n0 + 1) i _ _ h.g⟩
theorem RS.res {n0 : Nat} {w0 W : World} {s : Fr} {e : Int} (h : RS n0 w0 s e W) : W.cell? ⟨n0, 0, none⟩ = some (.int .u64 0) ∧ W.cell? ⟨n0, 1, none⟩ = some (.int .u64 0) ∧ W.cell? ⟨n0, 2, none⟩ = some (.int .i64 0) ∧ (∀ i, W.frozen? ⟨n0, i, none⟩ = false) :=
  ⟨row_c h.r 0, row_c h.r 1, row_c h.r 2, fun i => frozen_of_row W n0 i _ _ h.r⟩
theorem RS.set {n0 : Nat} {w0 W : World} {s : Fr} {e : Int} (h : RS n0 w0 s e W) (s' : Fr) (e' : Int) : RS n0 w0 s' e' (((W.setCell ⟨n0 + 1, 0, none⟩ (.int .u64 s'.n)).setCell ⟨n0 + 1, 1, none⟩ (.int .u64 s'.d)).setCell ⟨n0 + 1, 2, none⟩ (.int .i64 e')) :=
  ⟨(hset _ _ _ _ (by omega) 2).trans ((hset _ _ _ _ (by omega) 1).trans ((hset _ _ _ _ (by omega) 0).trans h.r)), got_set h.g _ _ _, below_set3 h.b (by omega) _ _ _⟩
theorem RS.start (w : World) : ∃ W, ((w.alloc (.cells #[.int .u64 0, .int .u64 0, .int .i64 0] TGot)).alloc (.cells #[.int .u64 0, .int .u64 1, .int .i64 0] TGot)) = W ∧ RS w.heap.size w ⟨0, 1⟩ 0 W := by
  refine ⟨_, rfl, (Below.heap_alloc _ _ _ (by simp)).trans (heap_alloc_new w _), ?_, ((Below.refl _ _).alloc (Nat.le_refl _) _).alloc (by simp) _⟩
  have := heap_alloc_new (w.alloc (.cells #[.int .u64 0, .int .u64 0, .int .i64 0] TGot)) (.cells #[.int .u64 0, .int .u64 1, .int .i64 0] TGot)
  rwa [World.size_alloc] at this
theorem sum_no_pure {l : List Ts} (h : anyNo l = true) : sumF l = ⟨0, 0⟩ ∧ sumE l = 1 := by
  have hn' : l.any (fun x => noF x.c x.t) = true := h
  exact ⟨by unfold sumF; rw [if_pos hn'], by unfold sumE; rw [if_pos hn']⟩
set_option maxRecDepth 100000 in
set_option maxHeartbeats 8000000 in
theorem rsum_any (A : Option Addr) (cap : Nat) (l : List Ts) (w : World) (hR : Row w A cap l) :
    Calls Try.prog 20 #[.slice A l.length cap] w fun e w' => e = .returned (gotV (sumF l) (sumE l)) ∧ Below w.heap.size w w' := by
  have hle := hR.le
  have hmx := hR.mx
  have ROW := Lib.hid hR
  obtain ⟨W1, hW1, R1⟩ := RS.start w
  have HW1 := Lib.hid hW1
  have HR1 := Lib.hid R1
  clear hR hW1 R1
  generalize hN : l.length = N at *
  have HN := Lib.hid hN
  generalize hn0 : w.heap.size = n0 at *
  clear hN
  go_enter Try.func20, Try.ntmps20
  go_upto_region 2 with (fail)
  rw [HW1.out]
  clear HW1
  go_wp2
  go_loopw [4] (fun i wr => ∃ k : Nat, k ≤ N ∧ i = .int .i64 k ∧ Hid (RS n0 w ⟨0, 1⟩ 0 wr) ∧ Hid (anyNo (l.take k) = false)) (fun i _ => N - (intOf i).toNat)
  case atStart => exact ⟨0, Nat.zero_le _, rfl, HR1, Lib.hid rfl⟩
  case round =>
    clear HR1
    obtain ⟨k, hk, rfl, HR, hq⟩ := hrel
    by_cases hlt : k < N
    · obtain ⟨b', o, x, rfl, hx, hxw, hbl, hT⟩ := ROW.out.get (k := k) (by rw [HN.out]; exact hlt)
      have hTr := hT.below HR.out.b (by rw [hn0] at hbl; exact hbl)
      have c0 := hTr.c0
      have c1 := hTr.c1
      have c2 := hTr.c2
      have c3 := hTr.c3
      have c4 := hTr.c4
      have c5 := hTr.c5
      have c6 := hTr.c6
      have hi0 : (0 : Int) ≤ (k : Int) := by omega
      have hi1 : (k : Int) < ((N : Nat) : Int) := by omega
      have K := Lib.hid (fun W => rof_any x hxw W)
      have HX := Lib.hid hx
      have HNE := Lib.hid (noF_eq hxw.c hxw.t)
      clear hT hTr hx hxw
      generalize ofF x.c x.t = f at *
      by_cases hf : f = ⟨0, 0⟩
      · subst hf
        have HE := Lib.hid (sum_no_pure (anyNo_hit HX.out (HNE.out.trans (by decide))))
        go_wp2_with (go_at_call 23; (with_reducible refine (K.out _).mono ?_); rintro e w1 ⟨rfl, hbel⟩; have HR2 := Lib.hid (HR.out.later hbel); obtain ⟨q0, q1, q2, q3⟩ := HR2.out.res)
        exact bodyPost_ret (results_got rfl _ _ n0 ⟨0, 0⟩ 1 rfl (got_set HR2.out.r _ _ _)) rfl ⟨by rw [HE.out.1, HE.out.2], by first | exact below_set3 HR2.out.b (Nat.le_refl _) _ _ _ | (rw [hn0]; exact below_set3 HR2.out.b (Nat.le_refl _) _ _ _)⟩
      · have HNO : Hid (noF x.c x.t = false) := Lib.hid (HNE.out.trans (decide_eq_false hf))
        have hf' : ¬ (f.n = 0 ∧ f.d = 0) := fun h => hf (by obtain ⟨fn, fd⟩ := f; simp only at h; rw [h.1, h.2])
        obtain ⟨fn, fd⟩ := f
        simp only at hf'
        clear hf
        go_wp2_with (go_at_call 23; (with_reducible refine (K.out _).mono ?_); rintro e w1 ⟨rfl, hbel⟩; have HR2 := Lib.hid (HR.out.later hbel))
        all_goals first
          | (exfalso; omega)
          | (go_roundw
             case rel => exact ⟨k + 1, by omega, by go_num, HR2, Lib.hid (anyNo_step HX.out HNO.out hq.out)⟩
             case measure => simp [intOf]; omega)
    · obtain rfl : k = N := by omega
      have HNO : Hid (anyNo l = false) := Lib.hid (by have := hq.out; rwa [List.take_of_length_le (by rw [HN.out]; exact Nat.le_refl _)] at this)
      clear hq
      go_wp2
      go_loopw [5] (fun i wr => ∃ (m : Nat) (s : Fr), m ≤ k ∧ i = .int .i64 m ∧ Hid (RS n0 w s 0 wr) ∧ Hid (FrW s ∧ 0 < s.d) ∧ Hid (sumO ⟨0, 1⟩ l = sumO s (l.drop m))) (fun i _ => k - (intOf i).toNat)
      case atStart => exact ⟨0, ⟨0, 1⟩, Nat.zero_le _, rfl, HR, Lib.hid ⟨⟨⟨by decide, by decide⟩, ⟨by decide, by decide⟩⟩, by decide⟩, Lib.hid (by rw [List.drop_zero])⟩
      case round =>
        clear HR
        obtain ⟨m, s, hm, rfl, HR, HSW, HQ⟩ := hrel
        by_cases hmk : m < k
        · obtain ⟨b', o, x, rfl, hx, hxw, hbl, hT⟩ := ROW.out.get (k := m) (by rw [HN.out]; exact hmk)
          have hTr := hT.below HR.out.b (by rw [hn0] at hbl; exact hbl)
          have HTR := Lib.hid hTr
          have hi0 : (0 : Int) ≤ (m : Int) := by omega
          have hi1 : (m : Int) < ((k : Nat) : Int) := by omega
          have KO := Lib.hid (fun W => rof_any x hxw W)
          have HD := Lib.hid (drop_ts hx)
          have hno := no_at HNO.out hx
          have hyw := ofF_w hxw.c hxw.t
          have hyp := ofF_d hxw.c hxw.t hno
          have KA := Lib.hid (fun W => radd_any s (ofF x.c x.t) HSW.out.1 hyw HSW.out.2 hyp W)
          have HPW := Lib.hid (fun h => plusF_w HSW.out.1 hyw HSW.out.2 hyp h)
          have c0 := hTr.c0
          have c1 := hTr.c1
          have c2 := hTr.c2
          have c3 := hTr.c3
          have c4 := hTr.c4
          have c5 := hTr.c5
          have c6 := hTr.c6
          obtain ⟨z0, z1, z2, z3⟩ := HR.out.cells
          generalize hy : ofF x.c x.t = y at *
          have HY := Lib.hid hy
          unfold addR addE at KA
          clear hT hTr hx hxw hno hyw hyp hbl hy
          cases hok : okF s y
          · rw [hok] at KA
            have HE := Lib.hid (sumE_none HNO.out (HQ.out.trans (by rw [HD.out]; exact sumO_no (by rw [HY.out]; exact hok))))
            simp only [Bool.false_eq_true, if_false] at KA
            clear hok
            go_upto_region 10 with (fail)
            go_region_law (first
              | (go_simp; go_at_call 23; (with_reducible refine (KO.out _).mono ?_); rintro e wa ⟨rfl, ha⟩; have HRA := Lib.hid (HR.out.later (show Below wr.heap.size wr wa from by first | exact ha | exact Below.trans (below_drew wr) ha)); obtain ⟨a0, a1, a2, a3⟩ := HRA.out.cells; clear ha)
              | (go_simp; go_at_call 40; (with_reducible refine (KA.out _).mono ?_); rintro e wb ⟨rfl, hb⟩; have HRB := Lib.hid (HRA.out.later (show Below wa.heap.size wa wb from by first | exact hb | exact Below.trans (below_drew wa) hb)); obtain ⟨b0, b1, b2, b3⟩ := HRB.out.cells; clear hb)
              | fail)
            all_goals
              obtain ⟨W3, hW3, R3⟩ : ∃ W3, (((wb.setCell ⟨n0 + 1, 0, none⟩ (.int .u64 0)).setCell ⟨n0 + 1, 1, none⟩ (.int .u64 0)).setCell ⟨n0 + 1, 2, none⟩ (.int .i64 17)) = W3 ∧ RS n0 w ⟨0, 0⟩ 17 W3 := ⟨_, rfl, HRB.out.set ⟨0, 0⟩ 17⟩
              rw [hW3]
              have HR3 := Lib.hid R3
              obtain ⟨q0, q1, q2, q3⟩ := R3.cells
              obtain ⟨p0, p1, p2, p3⟩ := R3.res
              clear hW3 R3 HRB HRA c0 c1 c2 c3 c4 c5 c6 z0 z1 z2 z3 a0 a1 a2 a3 b0 b1 b2 b3
              go_wp2
              exact bodyPost_ret (results_got rfl _ _ n0 ⟨0, 0⟩ 17 rfl (got_set HR3.out.r _ _ _)) rfl ⟨by rw [HE.out.1, HE.out.2], by first | exact below_set3 HR3.out.b (Nat.le_refl _) _ _ _ | (rw [hn0]; exact below_set3 HR3.out.b (Nat.le_refl _) _ _ _)⟩
          · rw [hok] at KA
            have HP := Lib.hid (HPW.out hok)
            have HO := Lib.hid hok
            simp only [if_true] at KA
            generalize hpl : plusF s y = s' at *
            have HPL := Lib.hid hpl
            clear hok hpl
            go_upto_region 10 with (fail)
            go_region_law (first
              | (go_simp; go_at_call 23; (with_reducible refine (KO.out _).mono ?_); rintro e wa ⟨rfl, ha⟩; have HRA := Lib.hid (HR.out.later (show Below wr.heap.size wr wa from by first | exact ha | exact Below.trans (below_drew wr) ha)); obtain ⟨a0, a1, a2, a3⟩ := HRA.out.cells; clear ha)
              | (go_simp; go_at_call 40; (with_reducible refine (KA.out _).mono ?_); rintro e wb ⟨rfl, hb⟩; have HRB := Lib.hid (HRA.out.later (show Below wa.heap.size wa wb from by first | exact hb | exact Below.trans (below_drew wa) hb)); obtain ⟨b0, b1, b2, b3⟩ := HRB.out.cells; clear hb)
              | fail)
            all_goals
              obtain ⟨W3, hW3, R3⟩ : ∃ W3, (((wb.setCell ⟨n0 + 1, 0, none⟩ (.int .u64 s'.n)).setCell ⟨n0 + 1, 1, none⟩ (.int .u64 s'.d)).setCell ⟨n0 + 1, 2, none⟩ (.int .i64 0)) = W3 ∧ RS n0 w s' 0 W3 := ⟨_, rfl, HRB.out.set s' 0⟩
              rw [hW3]
              have HR3 := Lib.hid R3
              obtain ⟨q0, q1, q2, q3⟩ := R3.cells
              obtain ⟨p0, p1, p2, p3⟩ := R3.res
              clear hW3 R3 HRB HRA c0 c1 c2 c3 c4 c5 c6 z0 z1 z2 z3 a0 a1 a2 a3 b0 b1 b2 b3
              go_wp2
              go_roundw
              case rel => exact ⟨m + 1, s', by omega, by go_num, HR3, HP, Lib.hid (HQ.out.trans (by rw [HD.out]; exact (sumO_yes (by rw [HY.out]; exact HO.out)).trans (by rw [HY.out, HPL.out])))⟩
              case measure => simp [intOf]; omega
        · obtain rfl : m = k := by omega
          have HE := Lib.hid (sumE_some HNO.out (HQ.out.trans (by rw [List.drop_eq_nil_of_le (by rw [HN.out]; exact Nat.le_refl _)]; rfl)))
          obtain ⟨q0, q1, q2, q3⟩ := HR.out.cells
          obtain ⟨p0, p1, p2, p3⟩ := HR.out.res
          go_wp2
          exact bodyPost_ret (results_got rfl _ _ n0 s 0 rfl (got_set HR.out.r _ _ _)) rfl ⟨by rw [HE.out.1, HE.out.2], by first | exact below_set3 HR.out.b (Nat.le_refl _) _ _ _ | (rw [hn0]; exact below_set3 HR.out.b (Nat.le_refl _) _ _ _)⟩
end Go.Proofs.Ytghijgpelkjohaa
