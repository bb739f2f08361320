/- A queue beside the document's own. -/
import Derived.Test.YtgcchmenadgboaaFFnd
import Derived.Test.YtgcchmenadgboaaFRound
namespace Go.Proofs.Ytgcchmenadgboaa
open Go.RowKit Go.Shelf
set_option linter.unusedVariables false
set_option linter.unusedSimpArgs false
attribute [local go_sem] Oper.semAt_some
theorem below_box {W W' : World} {c : Nat} {t : TypeId} {v : Value} (h : Boxed W c t v) (hb : Below W.heap.size W W') : Boxed W' c t v := (hb.block _ h.lt).trans h
theorem keeps_drawn (W : World) (n : Nat) : KeepsOthers W (W.drewN n) := ⟨Nat.le_refl _, fun _ _ h _ => h⟩
theorem find_first {L : List Int} {j : Nat} {y : Int} (h : L[j]? = some y) (hb : ∀ x ∈ L.take j, ev x = false) (hy : ev y = true) : L.find? ev = some y := by
  have hk := (List.getElem?_eq_some_iff.1 h).1
  have h2 := (List.getElem?_eq_some_iff.1 h).2
  have e : L = L.take j ++ y :: L.drop (j + 1) := by
    rw [← h2, ← List.drop_eq_getElem_cons, List.take_append_drop]
  rw [e, List.find?_append]
  have : (L.take j).find? ev = none := by
    rw [List.find?_eq_none]
    intro x hx
    simp [hb x hx]
  rw [this]
  simp [hy]
/-- What stands while both are gone over. -/
structure Lk (w : World) (bm b6 k : Nat) (V : World) : Prop where
  x3 : Boxed V w.heap.size 26 (.pointer (some ⟨bm, 0, none⟩))
  x4 : Boxed V (w.heap.size + 1) 4 (.bool false)
  x6 : Boxed V b6 3 (.int .i64 (k : Int))
  b : Below w.heap.size w V
  ge : w.heap.size + 1 < b6
section
variable {w V V' : World} {bm b6 k : Nat}
theorem Lk.later (h : Lk w bm b6 k V) (hb : Below V.heap.size V V') : Lk w bm b6 k V' := ⟨below_box h.x3 hb, below_box h.x4 hb, below_box h.x6 hb, h.b.trans (hb.mono h.b.size), h.ge⟩
theorem Lk.own {row : Option Nat} {D : Nat} (h : Lk w bm b6 k V) (hg : V.grownBy V' row) (hr : ∀ r, row = some r → D ≤ r ∧ ∃ o : Obj, V.heap[r]? = some o ∧ o.isCells = false) (hB : w.heap.size ≤ D) : Lk w bm b6 k V' :=
  ⟨boxed_kept h.x3 hg (fun r e => (hr r e).2), boxed_kept h.x4 hg (fun r e => (hr r e).2), boxed_kept h.x6 hg (fun r e => (hr r e).2), h.b.grown hg h.b.size (fun k e => by have := (hr k e).1; omega), h.ge⟩
theorem Lk.set (h : Lk w bm b6 k V) (m : Nat) : Lk w bm b6 m (V.setCell ⟨b6, 0, none⟩ (.int .i64 (m : Int))) := by
  have hg := h.ge
  exact ⟨boxed_other' h.x3 (by omega), boxed_other' h.x4 (by omega), Boxed.set _ h.x6, h.b.setCell (by simp; omega) _, hg⟩
end
set_option maxRecDepth 100000 in
set_option maxHeartbeats 8000000 in
theorem looks_any {B b bm N most : Nat} {X Y : List Nat} {L : List Int} (w : World) (hQ : QsI B w b X N L) (hM : MQ w bm Y most L) (hN : N ≤ 8 + 4 * most) (hLn : L.length ≤ 1000) (hmo : most ≤ 1000) :
    Calls Try.prog 15 #[.pointer (some ⟨b, 0, none⟩), .pointer (some ⟨bm, 0, none⟩)] w (OkB w) := by
  have hNL := hQ.len_le
  have HQ := Lib.hid (fun V (hB : Below w.heap.size w V) => hQ.later hB)
  have HM := Lib.hid (fun V (hB : Below w.heap.size w V) => hM.later hB)
  have hfn := run_eql_seq
  obtain ⟨A, c, hbm, hR⟩ := hM.ex
  have hbl := hM.lt
  have HR := Lib.hid hR.row
  obtain ⟨hc1, hc2⟩ := hR.cap
  obtain ⟨n, hn⟩ : ∃ n, L.length = n := ⟨_, rfl⟩
  have HN := Lib.hid hn
  have M0 := Lib.hid (show ∀ V, Below w.heap.size w V → V.cell? ⟨bm, 0, none⟩ = some (.slice A n c) ∧ V.cell? ⟨bm, 1, none⟩ = some (.int .i64 (most : Int)) from fun V hV => by
    have h := (hV.block bm hbl).trans hbm
    rw [hn] at h
    exact ⟨cell_of_row V bm 0 _ _ _ h, cell_of_row V bm 1 _ _ _ h⟩)
  rw [hn] at hNL hLn hc1 HR
  have A3 : Boxed ((w.alloc (.cells #[.pointer (some ⟨bm, 0, none⟩)] 26)).alloc (.cells #[.bool false] 4)) w.heap.size 26 (.pointer (some ⟨bm, 0, none⟩)) := Boxed.alloc (Boxed.new _ _ _) _
  have A4 : Boxed ((w.alloc (.cells #[.pointer (some ⟨bm, 0, none⟩)] 26)).alloc (.cells #[.bool false] 4)) (w.heap.size + 1) 4 (.bool false) := by
    have := Boxed.new (w.alloc (.cells #[.pointer (some ⟨bm, 0, none⟩)] 26)) 4 (.bool false)
    rwa [World.size_alloc] at this
  have A5 := Boxed.new ((w.alloc (.cells #[.pointer (some ⟨bm, 0, none⟩)] 26)).alloc (.cells #[.bool false] 4)) 24 (.pointer (some ⟨b, 0, none⟩))
  simp only [World.size_alloc] at A5
  have B5 : Below w.heap.size w (((w.alloc (.cells #[.pointer (some ⟨bm, 0, none⟩)] 26)).alloc (.cells #[.bool false] 4)).alloc (.cells #[.pointer (some ⟨b, 0, none⟩)] 24)) := (((Below.refl _ w).alloc (Nat.le_refl _) _).alloc (by simp) _).alloc (by simp; omega) _
  clear hQ hM hbm hR hn
  refine (callsIn_wide (n := 9)).1 ?_
  refine callsIn_of_wp_marks Try.func15 rfl trivial ?_ rfl
  simp only [Try.ntmps15, List.size_toArray, List.length_cons, List.length_nil, Nat.reduceAdd, Nat.reduceSub, Array.replicate_succ, Array.replicate_zero, List.push_toArray, List.append_toArray, List.nil_append, List.cons_append]
  refine wpIn_wide.2 ?_
  go_upto_region 2 with (go_at_call 22; refine (all_any _ _).mono ?_; rintro e w4 ⟨rfl, rfl⟩)
  obtain ⟨W, hW, X3, X4, X5, BW⟩ : ∃ W, ((w.alloc (.cells #[.pointer (some ⟨bm, 0, none⟩)] 26)).alloc (.cells #[.bool false] 4)).alloc (.cells #[.pointer (some ⟨b, 0, none⟩)] 24) = W ∧ Boxed W w.heap.size 26 (.pointer (some ⟨bm, 0, none⟩)) ∧ Boxed W (w.heap.size + 1) 4 (.bool false) ∧ Boxed W (w.heap.size + 1 + 1) 24 (.pointer (some ⟨b, 0, none⟩)) ∧ Below w.heap.size w W := ⟨_, rfl, Boxed.alloc A3 _, Boxed.alloc A4 _, A5, B5⟩
  simp only [hW]
  clear hW A3 A4 A5 B5
  have c3 := X3.cell
  obtain ⟨m0, m1⟩ := M0.out W BW
  have LN := Lib.hid (fun k => show Calls Try.prog 20 #[.pointer (some ⟨b, 0, none⟩)] (W.drewN k) fun e w' => e = .returned (.int .i64 (n : Int)) ∧ w' = W.drewN k from by
    have := qlenI (HQ.out _ (BW.trans ((below_drewN2 W k).mono BW.size)))
    rw [HN.out] at this
    exact this.mono fun e w' h => ⟨h.1, h.2.symm⟩)
  have RN := Lib.hid (fun k => show Calls Try.prog 21 #[.pointer (some ⟨b, 0, none⟩)] (W.drewN k) fun e w' => e = .returned (.int .i64 (N : Int)) ∧ w' = W.drewN k from (qroomI (HQ.out _ (BW.trans ((below_drewN2 W k).mono BW.size)))).mono fun e w' h => ⟨h.1, h.2.symm⟩)
  obtain ⟨T, hT⟩ : ∃ T, 8 + 4 * most = T := ⟨_, rfl⟩
  have hwr : IntKind.i64.wrap (8 + IntKind.i64.wrap (4 * (most : Int))) = (T : Int) := by rw [IntKind.wrap_i64, IntKind.wrap_i64]; omega
  have hd1 : decide ((N : Int) < (n : Int)) = false := by simp; omega
  have hd2 : decide ((T : Int) < (N : Int)) = false := by simp; omega
  have hd3 : decide (N < n) = false := by simp; omega
  have hd4 : decide (T < N) = false := by simp; omega
  go_quiet (first
    | (go_at_call 20; refine Calls.quiet_of_same (LN.out _))
    | (go_at_call 21; refine Calls.quiet_of_same (RN.out _)))
  have Y3 : Boxed (W.drewN nq) w.heap.size 26 (.pointer (some ⟨bm, 0, none⟩)) := X3
  have Y4 : Boxed (W.drewN nq) (w.heap.size + 1) 4 (.bool false) := X4
  have Y5 : Boxed (W.drewN nq) (w.heap.size + 1 + 1) 24 (.pointer (some ⟨b, 0, none⟩)) := X5
  have BY : Below w.heap.size w (W.drewN nq) := ⟨BW.os, BW.tape, BW.output, BW.size, BW.block⟩
  clear X3 X4 X5 BW c3 m0 m1 LN RN hwr hd1 hd2 hd3 hd4 hT hfn
  generalize W.drewN nq = W1 at *
  go_wp2
  have hs5 := Y5.lt
  obtain ⟨W2, hW2, K2, Z5⟩ : ∃ W2, W1.alloc (.cells #[.int .i64 0] 3) = W2 ∧ Lk w bm W1.heap.size 0 W2 ∧ Boxed W2 (w.heap.size + 1 + 1) 24 (.pointer (some ⟨b, 0, none⟩)) := ⟨_, rfl, ⟨Boxed.alloc Y3 _, Boxed.alloc Y4 _, Boxed.new _ _ _, BY.alloc BY.size _, by omega⟩, Boxed.alloc Y5 _⟩
  simp only [hW2]
  have hl6 := K2.x6.lt
  have hw2 := K2.b.size
  clear hW2 Y3 Y4 Y5 BY hs5
  generalize W1.heap.size = b6 at *
  refine (wpIn_wide (n := 9)).1 ?_
  refine wpIn_named fun fr hfr => ?_
  refine rangeA (vals := fun x : Int × Nat => #[.int .i64 (x.2 : Int), .int .i64 x.1]) (gf := 33) (lb := #[.pointer (some ⟨w.heap.size + 1 + 1, 0, none⟩)]) (by rw [hfr]; rfl) (enters_of Try.func33 (by kernel_rfl) rfl)
    (all_seq (9 - 1) (by omega) _ _ [b6] L W2 (by rw [HN.out]; omega) Z5 (fun V hV => by
      have h := HQ.out V (K2.b.trans (hV.mono hw2))
      obtain ⟨v, f, h1, -⟩ := h.ex
      exact things_anyI V h1) (by simp; omega)) (Below.refl _ _) (fun x => rfl)
    (fun pre V => Lk w bm b6 pre.length V) (fun c pre V => False)
    (fun pre X Y row h hg hr => h.own hg hr hw2) (fun c s X Y row h hg hr => h) K2
    (fun x => { tmps := (((fr.tmps.setIfInBounds 52 (.int .i64 (x.2 : Int))).setIfInBounds 53 (.int .i64 x.1)).setIfInBounds 7 (.int .i64 (x.2 : Int))).setIfInBounds 8 (.int .i64 x.1), defers := [] })
    ?assign ?body ?done ?stop
  case assign =>
    intro l2 x V K hK
    subst hfr
    gi_wp2
    exact hK
  case body =>
    rintro l2 pre ⟨x, i⟩ r V hS hL
    subst hfr
    obtain ⟨hx2, hx1, hlp⟩ := prs_at hL
    dsimp only at hx2 hx1
    subst hx2
    rw [HN.out] at hlp
    have c3 := hS.x3.cell
    have c6 := hS.x6.cell
    have f6 := hS.x6.frozen
    obtain ⟨m0, -⟩ := M0.out V hS.b
    obtain ⟨rb, ro, rfl, -, cx⟩ := (HR.out.later hS.b).at hx1
    have hLN := Lib.hid (show (pre ++ [(x, pre.length)]).length = pre.length + 1 by simp)
    have HS := Lib.hid hS
    simp only [List.setIfInBounds_toArray, List.set_cons_succ, List.set_cons_zero]
    clear hS hL hx1
    generalize pre.length = q at *
    have hq1 : (q : Int) < (n : Int) := by omega
    have hq2 : decide ((n : Int) ≤ (q : Int)) = false := by simp; omega
    have hq3 : decide (n ≤ q) = false := by simp; omega
    have hq4 : (q : Int) ≤ 1000 := by omega
    gi_wp2
    refine region_round (by rintro ⟨_, _, h⟩; exact h) (by kernel_rfl) (by kernel_rfl) (by kernel_rfl) ?_
    repeat (first | go_big_quiet_step (fail) | quiet_step (fail))
    refine wpQuiet_nil ?_
    intro _ hw'
    obtain ⟨nq, hw''⟩ := hw'
    subst hw''
    gi_wp2
    refine ⟨((keeps_drawn V nq).trans (KeepsOthers.setCell _ _ _)).from _, KeepC.kept ((Kept.of _ (below_drewN2 V nq)).set _ _ _ (by simp)), ?_⟩
    show Lk w bm b6 (pre ++ [(x, q)]).length _
    rw [hLN.out]
    have h := (HS.out.later (below_drewN2 V nq)).set (q + 1)
    rw [Int.natCast_succ] at h
    exact h
  case done =>
    rintro D V hD hS hK
    subst hfr
    dsimp only
    rw [prs_len, HN.out] at hS
    have HS := Lib.hid hS
    have HK := Lib.hid hK
    have hDl : w.heap.size + 1 < D := by have := K2.ge; omega
    clear hS hK K2 Z5
    gi_wp2
    go_wp2
    go_loopw [9] (fun i wr => ∃ z : Int, -2 ≤ z ∧ z ≤ (n : Int) + 2 ∧ i = .int .i64 z ∧ Hid (Lk w bm b6 n wr) ∧ Hid (wr.heap[D]? = some (.deferred (some [])))) (fun i _ => ((n : Int) + 2 - intOf i).toNat)
    case atStart => exact ⟨-2, by omega, by omega, rfl, HS, HK⟩
    case round =>
      obtain ⟨z, hz0, hz1, rfl, hS2, hK2⟩ := hrel
      clear HS HK
      have c3 := hS2.out.x3.cell
      obtain ⟨m0, -⟩ := M0.out wr hS2.out.b
      have hKL := Lib.hid (fun (W' : World) (hB : Below wr.heap.size wr W') => (hB.block D (Array.getElem?_eq_some_iff.1 hK2.out).1).trans hK2.out)
      by_cases hlt : z < (n : Int) + 2
      · rcases Int.lt_or_le z 0 with hneg | hpos
        · have AT := Lib.hid (qat_outI (i := z) (HQ.out wr hS2.out.b) (.inl hneg))
          have hd1 : decide (0 ≤ z) = false := by simp; omega
          have hd2 : ¬ (0 ≤ z) := by omega
          go_wp2_with (go_at_call 23; (with_reducible refine AT.out.mono ?_); rintro e w5 ⟨rfl, hB5⟩; have HS5 := Lib.hid (hS2.out.later hB5); have HK5 := Lib.hid (hKL.out _ hB5); have c5 := HS5.out.x3.cell; have m5 := (M0.out _ HS5.out.b).1)
          go_roundw
          case rel => exact ⟨z + 1, by omega, by omega, by go_num, HS5, HK5⟩
          case measure => simp [intOf]; omega
        · rcases Int.lt_or_le z (n : Int) with hin | hout
          · obtain ⟨j, rfl⟩ : ∃ j : Nat, z = (j : Int) := ⟨z.toNat, by omega⟩
            obtain ⟨x, hx⟩ : ∃ x, L[j]? = some x := ⟨L[j]'(by rw [HN.out]; omega), List.getElem?_eq_getElem _⟩
            have AT := Lib.hid (qatI (HQ.out wr hS2.out.b) hx)
            have CX := Lib.hid (fun V (hB : Below w.heap.size w V) => (HR.out.later hB).at hx)
            obtain ⟨rb, ro, rfl, -, cx⟩ := CX.out wr hS2.out.b
            have CX2 := Lib.hid (fun V (hB : Below w.heap.size w V) => (HR.out.later hB).get hx)
            have hd1 : decide (0 ≤ (j : Int)) = true := by simp
            have hd2 : decide ((j : Int) < (n : Int)) = true := by simp; omega
            have hd3 : decide (j < n) = true := by simp; omega
            clear hx CX
            go_wp2_with (go_at_call 23; (with_reducible refine AT.out.mono ?_); rintro e w5 ⟨rfl, hB5⟩; have HS5 := Lib.hid (hS2.out.later hB5); have HK5 := Lib.hid (hKL.out _ hB5); have c5 := HS5.out.x3.cell; have m5 := (M0.out _ HS5.out.b).1; have y5 := CX2.out _ HS5.out.b)
            go_roundw
            case rel => exact ⟨(j : Int) + 1, by omega, by omega, by go_num, HS5, HK5⟩
            case measure => simp [intOf]; omega
          · have AT := Lib.hid (qat_outI (i := z) (HQ.out wr hS2.out.b) (.inr (by rw [HN.out]; exact hout)))
            have hd1 : decide (0 ≤ z) = true := by simp; omega
            have hd2 : decide (z < (n : Int)) = false := by simp; omega
            have hd3 : ¬ (z < (n : Int)) := by omega
            go_wp2_with (go_at_call 23; (with_reducible refine AT.out.mono ?_); rintro e w5 ⟨rfl, hB5⟩; have HS5 := Lib.hid (hS2.out.later hB5); have HK5 := Lib.hid (hKL.out _ hB5); have c5 := HS5.out.x3.cell; have m5 := (M0.out _ HS5.out.b).1)
            go_roundw
            case rel => exact ⟨z + 1, by omega, by omega, by go_num, HS5, HK5⟩
            case measure => simp [intOf]; omega
      · obtain rfl : z = (n : Int) + 2 := by omega
        have FE := Lib.hid (find_even (b := b) (L := L) wr (by rw [HN.out]; omega) (fun V hV => by
          have h := HQ.out V (hS2.out.b.trans (hV.mono hS2.out.b.size))
          obtain ⟨v, f, h1, -⟩ := h.ex
          exact things_anyI V h1))
        go_wp2_with (go_at_call 27; (with_reducible refine FE.out.mono ?_); rintro e V3 ⟨rfl, hB3⟩; have HS3 := Lib.hid (hS2.out.later hB3); have HK3 := Lib.hid (hKL.out _ hB3))
        clear hS2 hK2 c3 m0 FE hKL hB3
        obtain ⟨F, hF⟩ : ∃ F, fv L = F := ⟨_, rfl⟩
        obtain ⟨G, hG⟩ : ∃ G, fb L = G := ⟨_, rfl⟩
        have HF := Lib.hid hF
        have HG := Lib.hid hG
        rw [hF, hG]
        clear hF hG
        go_loopw [15] (fun i wr => wr = V3 ∧ ∃ j : Nat, j ≤ n ∧ i = .int .i64 j ∧ Hid (∀ y ∈ L.take j, ev y = false)) (fun i _ => n - (intOf i).toNat)
        case atStart => exact ⟨rfl, 0, by omega, rfl, Lib.hid (by simp)⟩
        case round =>
          obtain ⟨hwr, j, hj, rfl, hE⟩ := hrel
          obtain rfl : V3 = wr := hwr.symm
          have c6 := HS3.out.x6.cell
          have c3 := HS3.out.x3.cell
          obtain ⟨m0, -⟩ := M0.out V3 HS3.out.b
          by_cases hlt : j < n
          · obtain ⟨y, hy⟩ : ∃ y, L[j]? = some y := ⟨L[j]'(by rw [HN.out]; omega), List.getElem?_eq_getElem _⟩
            obtain ⟨rb, ro, rfl, -, cx⟩ := (HR.out.later HS3.out.b).at hy
            have hi1 : (j : Int) < (n : Int) := by omega
            have hi0 : (0 : Int) ≤ (j : Int) := by omega
            cases he : ev y with
            | true =>
              have hf := find_first hy hE.out he
              have hFy : F = y := by rw [← HF.out]; unfold fv; rw [hf]; rfl
              have hGt : G = true := by rw [← HG.out]; unfold fb; rw [hf]; rfl
              have he' : (y.tmod 2 == 0) = true := he
              have he2 : y.tmod 2 = 0 := by simpa using he'
              subst hFy hGt
              clear hy hf he hE
              have c6' := HS3.out.x6.cell
              have c3' := HS3.out.x3.cell
              have m0' := (M0.out _ HS3.out.b).1
              have c4 : V3.drew.cell? ⟨w.heap.size + 1, 0, none⟩ = some (.bool false) := HS3.out.x4.cell
              have f4 : V3.drew.frozen? ⟨w.heap.size + 1, 0, none⟩ = false := HS3.out.x4.frozen
              go_wp2
              go_still_tail 21, (by kernel_rfl)
              change wpList _ _ _ _ _ V3.drew
              have hb9 : Boxed (V3.drew.setCell ⟨w.heap.size + 1, 0, none⟩ (.bool true)) (w.heap.size + 1) 4 (.bool true) := Boxed.set (.bool true) (show Boxed V3.drew (w.heap.size + 1) 4 (.bool false) from HS3.out.x4)
              have hB9 : Below w.heap.size w (V3.drew.setCell ⟨w.heap.size + 1, 0, none⟩ (.bool true)) := (show Below w.heap.size w V3.drew from ⟨HS3.out.b.os, HS3.out.b.tape, HS3.out.b.output, HS3.out.b.size, HS3.out.b.block⟩).setCell (by simp) _
              have hk1 : (V3.drew.setCell ⟨w.heap.size + 1, 0, none⟩ (.bool true)).heap[D]? = some (.deferred (some [])) := by
                rw [Below.heap_setCell _ _ _ _ (by simp; omega)]; exact HK3.out
              clear c6' c3' m0' HS3 HK3
              generalize V3.drew = V8 at *
              go_wp2
              generalize V8.setCell ⟨w.heap.size + 1, 0, none⟩ (.bool true) = V9 at *
              refine ⟨by simp, .inl ⟨_, _, rfl, run_takeDeferred hk1, ?_⟩⟩
              have hc : (V9.putObj D (.deferred none)).cell? ⟨w.heap.size + 1, 0, none⟩ = some (.bool true) := by
                rw [← hb9.cell]; simp [World.cell?, World.putObj_heap_other (show w.heap.size + 1 ≠ D by omega)]
              exact ⟨.bool true, by simp [results, Try.f15, go_sem, hc], rfl, hB9.trans (belowK_b (w := w) (Nat.le_refl _) V9 D _ _ (by omega) hk1 rfl rfl)⟩

            | false =>
              have he' : (y.tmod 2 == 0) = false := he
              have he2 : ¬ (y.tmod 2 = 0) := by simpa using he'
              have hE2 := Lib.hid (show ∀ y' ∈ L.take (j + 1), ev y' = false from by
                rw [take_one hy]
                intro y' hm
                rcases List.mem_append.1 hm with hm | hm
                · exact hE.out y' hm
                · simp at hm; subst hm; exact he)
              clear hy he
              go_wp2
              go_roundw
              case rel => first | exact ⟨rfl, j + 1, by omega, by go_num, hE2⟩ | exact ⟨trivial, j + 1, by omega, by go_num, hE2⟩
              case measure => simp [intOf]; omega
          · obtain rfl : j = n := by omega
            have hf : L.find? ev = none := by
              rw [List.find?_eq_none]
              intro y hy
              have := hE.out y (by rw [List.take_of_length_le (by rw [HN.out]; exact Nat.le_refl _)]; exact hy)
              simp [this]
            have hFy : F = 0 := by rw [← HF.out]; unfold fv; rw [hf]; rfl
            have hGt : G = false := by rw [← HG.out]; unfold fb; rw [hf]; rfl
            subst hFy hGt
            clear hf hE
            have c6' := HS3.out.x6.cell
            have c3' := HS3.out.x3.cell
            have m0' := (M0.out _ HS3.out.b).1
            have c4 : V3.drew.cell? ⟨w.heap.size + 1, 0, none⟩ = some (.bool false) := HS3.out.x4.cell
            have f4 : V3.drew.frozen? ⟨w.heap.size + 1, 0, none⟩ = false := HS3.out.x4.frozen
            go_wp2
            go_still_tail 15, (by kernel_rfl)
            change wpList _ _ _ _ _ V3.drew
            have hb9 : Boxed (V3.drew.setCell ⟨w.heap.size + 1, 0, none⟩ (.bool true)) (w.heap.size + 1) 4 (.bool true) := Boxed.set (.bool true) (show Boxed V3.drew (w.heap.size + 1) 4 (.bool false) from HS3.out.x4)
            have hB9 : Below w.heap.size w (V3.drew.setCell ⟨w.heap.size + 1, 0, none⟩ (.bool true)) := (show Below w.heap.size w V3.drew from ⟨HS3.out.b.os, HS3.out.b.tape, HS3.out.b.output, HS3.out.b.size, HS3.out.b.block⟩).setCell (by simp) _
            have hk1 : (V3.drew.setCell ⟨w.heap.size + 1, 0, none⟩ (.bool true)).heap[D]? = some (.deferred (some [])) := by
              rw [Below.heap_setCell _ _ _ _ (by simp; omega)]; exact HK3.out
            clear c6' c3' m0' HS3 HK3
            generalize V3.drew = V8 at *
            go_wp2
            generalize V8.setCell ⟨w.heap.size + 1, 0, none⟩ (.bool true) = V9 at *
            refine ⟨by simp, .inl ⟨_, _, rfl, run_takeDeferred hk1, ?_⟩⟩
            have hc : (V9.putObj D (.deferred none)).cell? ⟨w.heap.size + 1, 0, none⟩ = some (.bool true) := by
              rw [← hb9.cell]; simp [World.cell?, World.putObj_heap_other (show w.heap.size + 1 ≠ D by omega)]
            exact ⟨.bool true, by simp [results, Try.f15, go_sem, hc], rfl, hB9.trans (belowK_b (w := w) (Nat.le_refl _) V9 D _ _ (by omega) hk1 rfl rfl)⟩

  case stop =>
    rintro D c pre x r V hD hL h hK
    exact h.elim
end Go.Proofs.Ytgcchmenadgboaa
