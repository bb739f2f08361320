/- An act that drains. -/
import Derived.Test.YtebbpgokhelmdaaDoi
import Derived.Sort.CutIn
namespace Go.Proofs.Ytebbpgokhelmdaa
open Go.RowKit Go.Shelf
set_option linter.unusedVariables false
set_option linter.unusedSimpArgs false
attribute [local go_sem] Oper.semAt_some
set_option maxRecDepth 100000 in
set_option maxHeartbeats 4000000 in
theorem does_drain {w0 w : World} {B b bm c : Nat} {X Y : List Nat} {L : List It} (kind key which : Int) (h : Bz w0 w B b bm X c L Y L []) (hk : in64 kind) (hy : in64 key) (hw : in64 which) (hL : L.length ≤ 190) (hc : c ≤ 500) (hso : L.Pairwise (fun a b => a.k ≤ b.k))
    (hr : restI kind 5 = 4) : Calls Try.prog 13 #[.pointer (some ⟨b, 0, none⟩), .pointer (some ⟨bm, 0, none⟩), .agg #[.int .i64 kind, .int .i64 key], .int .i64 which] w (Goes w0 B b bm c L.length) := by
  have R1 := Lib.hid (fun W => rest_any kind 5 W hk (by omega) (by omega))
  have R2 := Lib.hid (fun W => rest_any key 6 W hy (by omega) (by omega))
  obtain ⟨hr0, hr1⟩ := restI_bd kind 5 (by omega) (by omega)
  obtain ⟨hs0, hs1⟩ := restI_bd key 6 (by omega) (by omega)
  have hz := does_boxes kind key h
  have hsz := h.h.b.size
  have hlt := h.h.m.lt
  have hh0X := fun k hk => (h.h.h.ge k hk).2
  have hh0Y := fun k hk => (h.h.m.ge k hk).2
  have HSO := Lib.hid hso
  have HLE := Lib.hid hL
  clear h hso hL
  generalize restI kind 5 = r at *
  subst hr
  generalize restI key 6 = s at *
  refine (callsIn_wide (n := 9)).1 ?_
  refine callsIn_of_wp_marks Try.func13 rfl trivial ?_ rfl
  simp only [Try.ntmps13, List.size_toArray, List.length_cons, List.length_nil, Nat.reduceAdd, Nat.reduceSub, Array.replicate_succ, Array.replicate_zero, List.push_toArray, List.append_toArray, List.nil_append, List.cons_append]
  gi_upto_region 1 with (fail)
  have hWs := Lib.hid (show ((( w.alloc (.cells #[.pointer (some ⟨bm, 0, none⟩)] 26)).alloc (.cells #[.int .i64 kind, .int .i64 key] 38)).alloc (.cells #[.bool false] 4)).heap.size = w.heap.size + 3 by simp)
  generalize ((w.alloc (.cells #[.pointer (some ⟨bm, 0, none⟩)] 26)).alloc (.cells #[.int .i64 kind, .int .i64 key] 38)).alloc (.cells #[.bool false] 4) = W at *
  generalize hP : w.heap.size = P at hz hsz hlt hWs hh0X hh0Y ⊢
  have d5 := hz.at (k0 := P) (cs := #[.pointer (some ⟨bm, 0, none⟩)]) (t := 26) (by simp) 0
  have d60 := hz.at (k0 := P + 1) (cs := #[.int .i64 kind, .int .i64 key]) (t := 38) (by simp) 0
  have d61 := hz.at (k0 := P + 1) (cs := #[.int .i64 kind, .int .i64 key]) (t := 38) (by simp) 1
  obtain ⟨A, cap, c0', hcap, hmx, -, -⟩ := hz.h.m.ex
  have c0 := cell_of_row W bm 0 _ _ _ c0'
  simp at c0 d5 d60 d61
  have HZ := Lib.hid hz
  unfold maxLen at hmx
  clear hz c0' hP
  have hfn := run_eql_seqM
  gi_upto_region 16 with (first
      | (refine ⟨trivial, ?_⟩; gi_at_call 9; (with_reducible refine (callsIn_wide.2 (R1.out _)).mono ?_); rintro e w1 ⟨rfl, rfl⟩)
      | (refine ⟨trivial, ?_⟩; gi_at_call 34; refine (callsIn_wide.2 (drain_anyM _ _)).mono ?_; rintro e w4 ⟨rfl, rfl⟩))
  clear hfn
  have hz4 := HZ.out.add #[.pointer (some ⟨b, 0, none⟩)] 33
  have hs4 : (W.alloc (.cells #[.pointer (some ⟨b, 0, none⟩)] 33)).heap.size = P + 4 := by rw [World.size_alloc, hWs.out]
  rw [hWs.out] at hz4
  rw [hWs.out]
  generalize W.alloc (.cells #[.pointer (some ⟨b, 0, none⟩)] 33) = W4 at *
  have m60 := hz4.at (k0 := P + 1) (cs := #[.int .i64 kind, .int .i64 key]) (t := 38) (by simp) 0
  have m61 := hz4.at (k0 := P + 1) (cs := #[.int .i64 kind, .int .i64 key]) (t := 38) (by simp) 1
  simp at m60 m61
  have HZ4 := Lib.hid hz4
  have HS4 := Lib.hid hs4
  clear hz4 hs4
  gi_upto_region 17 with (first
      | (refine ⟨trivial, ?_⟩; gi_at_call 9; (with_reducible refine (callsIn_wide.2 (R2.out _)).mono ?_); rintro e w1 ⟨rfl, rfl⟩))
  have hz5 := HZ4.out.add #[.int .i64 s] 3
  have hs5 : (W4.alloc (.cells #[.int .i64 s] 3)).heap.size = P + 5 := by rw [World.size_alloc, HS4.out]
  rw [HS4.out] at hz5
  rw [HS4.out]
  generalize W4.alloc (.cells #[.int .i64 s] 3) = W5 at *
  have d14 := hz5.at (k0 := P + 4) (cs := #[.int .i64 s]) (t := 3) (by simp) 0
  simp at d14
  have HZ5 := Lib.hid hz5
  have HS5 := Lib.hid hs5
  clear hz5 hs5
  by_cases hs : s = 0
  · subst hs
    have f8 := HZ5.out.fz (k0 := P + 1 + 1) (cs := #[.bool false]) (t := 4) (by simp) 0
    have g8 := HZ5.out.at (k0 := P + 1 + 1) (cs := #[.bool false]) (t := 4) (by simp) 0
    simp at g8
    gi_wp2
    have hz6 := (HZ5.out.sub (K' := [(P + 1 + 1, .cells #[.bool false] 4 (0, 0))]) (by simp)).set1 (by omega) (by simp) (.bool true)
    generalize W5.setCell ⟨P + 1 + 1, 0, none⟩ (.bool true) = w6 at *
    have hc6 := hz6.at (k0 := P + 1 + 1) (cs := #[.bool true]) (t := 4) (by simp) 0
    simp at hc6
    exact ⟨.bool true, by simp [results, Try.f13, go_sem, hc6], rfl, _, _, c, _, by omega, Nat.le_succ _, HSO.out, hz6.h⟩
  · have hs1 : 0 < s := by omega
    have hq0 : (s == 0) = false := by simp; omega
    have hq1 : decide (s = 0) = false := by simp; omega
    have h3 := HZ5.out.k (P + 3, .cells #[.pointer (some ⟨b, 0, none⟩)] 33 (0, 0)) (by simp)
    have h5 := HZ5.out.k (P, .cells #[.pointer (some ⟨bm, 0, none⟩)] 26 (0, 0)) (by simp)
    have h6 := HZ5.out.k (P + 1 + 1, .cells #[.bool false] 4 (0, 0)) (by simp)
    have h4 := HZ5.out.k (P + 4, .cells #[.int .i64 s] 3 (0, 0)) (by simp)
    have hBM := HZ5.out.h
    have hXP : ∀ k ∈ X, k < P := hh0X
    have hYP : ∀ k ∈ Y, k < P := hh0Y
    have hbY := hBM.m.mem
    have hbm := hYP _ hbY
    have hb0 : w0.heap.size ≤ bm := Nat.le_trans hBM.le hBM.m.le
    have H5 : DHM B b c (P + 3) X L W5 := ⟨hBM.h, h3.1⟩
    have hl4 : Boxed W5 (P + 4) 3 (.int .i64 (s - (([] : List It).length : Int))) := by
      rw [show s - (([] : List It).length : Int) = s by simp]
      exact h4.1
    have I5 : DoJ w0 B bm Y P s L [] W5 := ⟨L, rfl, by simpa using hs1, hBM.m, h5.1, h6.1, hl4, hBM.b, Nat.le_of_eq HS5.out.symm⟩
    have hs5 := HS5.out
    gi_wp2
    refine wpIn_namedP fun fr hfr => ?_
    refine rangeD valM (gf := 44) (lb := #[.pointer (some ⟨P + 3, 0, none⟩)]) (by rw [hfr]; rfl) (enters_of Try.func44 (by kernel_rfl) rfl)
      (drain_seqM L (9 - 1) (by omega) (fun hm => by have := hXP _ hm; omega)) rfl H5 (fun r W W' h hs => h.same hs)
      (fun k hk => by rcases List.mem_cons.1 hk with rfl | hk; omega; have := hXP k hk; omega)
      (DoJ w0 B bm Y P s L) (DoX 1 w0 B bm Y P L)
      ?own ?ownx ?IY ?IxY I5
      (fun x a' V => ∃ bi, a' = { tmps := (fr.tmps.setIfInBounds 66 (.agg #[.int .i64 x.k, .int .i64 x.w])).setIfInBounds 15 (.pointer (some ⟨bi, 0, none⟩)), defers := [] } ∧ P + 5 ≤ bi ∧ V.heap[bi]? = some (.cells #[.int .i64 x.k, .int .i64 x.w] 31 (0, 0)))
      ?Ax ?assign ?body ?done ?stop
    case own =>
      rintro pre U U' row ⟨r, e, hlt, h⟩ hg hr
      exact ⟨r, e, hlt, h.grown hg (fun k hk => by have := (hr k hk).1; omega) hYP (by omega)⟩
    case ownx =>
      rintro cc pre U U' row ⟨e, r, e2, h⟩ hg hr
      exact ⟨e, r, e2, h.grown hg (fun k hk => by have := (hr k hk).1; omega) hYP (by omega)⟩
    case IY =>
      rintro pre U U' ⟨r, e, hlt, h⟩ hk
      refine ⟨r, e, hlt, h.kept hk (fun k hk => ?_)⟩
      rcases List.mem_cons.1 hk with rfl | hk
      · exact ⟨fun hm => by have := hYP _ hm; omega, by omega, by omega, by omega, by omega⟩
      · have := hXP k hk
        have := (hBM.h.ge k hk).1
        have := hBM.le
        exact ⟨hBM.dis k hk, by omega, by omega, by omega, by omega⟩
    case IxY =>
      rintro cc pre U U' ⟨e0, r, e, h⟩ hk
      refine ⟨e0, r, e, h.kept hk (fun k hk => ?_)⟩
      rcases List.mem_cons.1 hk with rfl | hk
      · exact ⟨fun hm => by have := hYP _ hm; omega, by omega, by omega, by omega, by omega⟩
      · have := hXP k hk
        have := (hBM.h.ge k hk).1
        have := hBM.le
        exact ⟨hBM.dis k hk, by omega, by omega, by omega, by omega⟩
    case Ax =>
      rintro x a' _ U U' row ⟨bi, h, hbi, hb⟩ hg hr
      exact ⟨bi, h, hbi, (grownBy_keeps_cells hg (fun r e => (hr r e).2) hb rfl).trans hb⟩
    case assign =>
      rintro l2 pre x V K ⟨r, e, hlt, hI⟩ hK
      have hle := hI.le
      have E := Lib.hid e
      clear e
      subst hfr
      simp only [valM]
      gi_wp2
      have bV : Below V.heap.size V (V.alloc (.cells #[.int .i64 x.k, .int .i64 x.w] 31)) := (Below.refl _ _).alloc (Nat.le_refl _) _
      refine hK _ _ ⟨by simp, fun k o hB hk ho => (bV.block k (Array.getElem?_eq_some_iff.1 hk).1).trans hk⟩ (fun k hk => bV.block k ?_) ⟨r, E.out, hlt, hI.later bV⟩ ⟨_, rfl, hle, heap_alloc_new _ _⟩
      rcases List.mem_cons.1 hk with rfl | hk
      · omega
      · have := hXP k hk; omega
    case body =>
      rintro l2 pre x r a' V ⟨r0, hL0, hlt, hI⟩ ⟨bi, rfl, hbi, hb⟩ hL
      obtain rfl : r0 = x :: r := List.append_cancel_left (hL0.symm.trans hL)
      subst hfr
      have hle := hI.le
      have cp := hI.p.cell
      have cl := hI.l.cell
      have fl := hI.l.frozen
      obtain ⟨A', cap', cm', hc', hm', -, -⟩ := hI.m.ex
      obtain ⟨n, hn⟩ : ∃ n, (x :: r).length = n := ⟨_, rfl⟩
      rw [hn] at cm' hc'
      have hn1 : 0 < n := by rw [← hn]; simp
      have hn2 : ((n : Int) == 0) = false := by simp; omega
      have hn3 : decide ((n : Int) = 0) = false := by simp; omega
      have cm := cell_of_row V bm 0 _ _ _ cm'
      simp at cm
      unfold maxLen at hm'
      have i0 := cell_of_row V bi 0 _ _ _ hb
      have i1 := cell_of_row V bi 1 _ _ _ hb
      simp at i0 i1
      have hbl := (Array.getElem?_eq_some_iff.1 hb).1
      have HB := Lib.hid hb
      have PR := Lib.hid ((hI.later (below_drew V)).pop hYP hb0)
      have HL := Lib.hid hL
      obtain ⟨lf, hlf⟩ : ∃ lf, s - (pre.length : Int) = lf := ⟨_, rfl⟩
      obtain ⟨q, hq⟩ : ∃ q, lf - 1 = q := ⟨_, rfl⟩
      rw [hlf] at cl PR
      have hpl := congrArg List.length hL
      have hq1 : 0 ≤ q := by omega
      have hwr : IntKind.i64.wrap (lf - 1) = q := by rw [IntKind.wrap_i64]; omega
      have HQ := Lib.hid hq
      have HLF := Lib.hid hlf
      clear hI hL hL0 hb cm' hn hpl hq hlf H5 I5
      simp only [List.setIfInBounds_toArray, List.set_cons_succ, List.set_cons_zero]
      gi_wp2
      refine region_round_any (by rintro ⟨_, _, h⟩; exact h) (by kernel_rfl) (by kernel_rfl) ?_
      refine wpAny_ready (rs := [0]) (by kernel_rfl) (by simp) ?_
      refine AllReady.cons rfl (fun K hK => ?_) AllReady.nil
      go_simp
      refine hK _ _ ?_
      clear hK K
      refine wpAny_ready (rs := [1]) (by kernel_rfl) (by simp) ?_
      refine AllReady.cons rfl (fun K hK => ?_) AllReady.nil
      go_simp
      refine hK _ _ ?_
      clear hK K
      refine wpAny_ready (rs := [2]) (by kernel_rfl) (by simp) ?_
      refine AllReady.cons rfl (fun K hK => ?_) AllReady.nil
      go_simp
      refine hK _ _ ?_
      clear hK K
      refine wpAny_ready (rs := [3]) (by kernel_rfl) (by simp) ?_
      refine AllReady.cons rfl (fun K hK => ?_) AllReady.nil
      go_simp
      refine hK _ _ ?_
      clear hK K
      refine wpAny_ready (rs := [4]) (by kernel_rfl) (by simp) ?_
      refine AllReady.cons rfl (fun K hK => ?_) AllReady.nil
      go_simp
      refine hK _ _ ?_
      clear hK K
      refine wpAny_ready (rs := [5]) (by kernel_rfl) (by simp) ?_
      refine AllReady.cons rfl (fun K hK => ?_) AllReady.nil
      go_simp
      refine hK _ _ ?_
      clear hK K
      refine wpAny_ready (rs := [6]) (by kernel_rfl) (by simp) ?_
      refine AllReady.cons rfl (fun K hK => ?_) AllReady.nil
      go_simp
      refine hK _ _ ?_
      clear hK K
      refine wpAny_ready (rs := [7, 8]) (by kernel_rfl) (by simp) ?_
      refine AllReady.cons rfl (fun K hK => ?_) (AllReady.cons rfl (fun K hK => ?_) AllReady.nil)
      · go_simp
        refine hK _ _ ?_
        clear hK K
        refine wpAny_ready (rs := [8]) (by kernel_rfl) (by simp) ?_
        refine AllReady.cons rfl (fun K hK => ?_) AllReady.nil
        go_simp
        refine hK _ _ ?_
        clear hK K
        refine wpAny_ready (rs := [9]) (by kernel_rfl) (by simp) ?_
        refine AllReady.cons rfl (fun K hK => ?_) AllReady.nil
        go_simp
        go_wp2_with (go_at_call 33; refine PR.out.mono ?_; rintro e w3 ⟨rfl, hI3, hK3⟩; have j := (hK3.block bi (show bi < V.drew.heap.size from hbl) (by simp; omega)).trans (show V.drew.heap[bi]? = _ from HB.out); have i0' := cell_of_row w3 bi 0 _ _ _ j; have i1' := cell_of_row w3 bi 1 _ _ _ j; have cl3 := hI3.l.cell; have fl3 := hI3.l.frozen; simp at i0' i1'; have HI3 := Lib.hid hI3; have HK3 := Lib.hid hK3; clear hI3 hK3 j)
        try (refine hK _ _ ?_; clear hK K)
        refine wpAny_ready (rs := [10]) (by kernel_rfl) (by simp) ?_
        refine AllReady.cons rfl (fun K hK => ?_) AllReady.nil
        go_simp
        refine hK _ _ ?_
        clear hK K
        refine wpAny_ready (rs := [11]) (by kernel_rfl) (by simp) ?_
        refine AllReady.cons rfl (fun K hK => ?_) AllReady.nil
        go_simp
        refine hK _ _ ?_
        clear hK K
        refine wpAny_done (by kernel_rfl) ?_ _
        gi_wp2
        all_goals
          have hKK := do_kept (P := P) HK3.out (.int .i64 q)
          have hJ := HI3.out.setl hYP (by omega) q
          generalize w3.setCell ⟨P + 4, 0, none⟩ (.int .i64 q) = w5 at hKK hJ ⊢
          obtain ⟨kf, ks⟩ := do_same hKK hle hs5 hbm hXP (fun hm => hBM.dis _ hm hbY)
          first
            | exact ⟨kf, ks, do_next HL.out HLF.out HQ.out (by have hqq : (q == 0) = false := (by assumption); have := ne_of_beq_false hqq; omega) hJ⟩
            | exact ⟨kf, ks, do_stop HL.out (eq_of_beq (show (q == 0) = true by assumption)) hJ⟩

      · go_simp
        refine hK _ _ ?_
        clear hK K
        refine wpAny_ready (rs := [7, 9]) (by kernel_rfl) (by simp) ?_
        refine AllReady.cons rfl (fun K hK => ?_) (AllReady.cons rfl (fun K hK => ?_) AllReady.nil)
        · go_simp
          refine hK _ _ ?_
          clear hK K
          refine wpAny_ready (rs := [9]) (by kernel_rfl) (by simp) ?_
          refine AllReady.cons rfl (fun K hK => ?_) AllReady.nil
          go_simp
          go_wp2_with (go_at_call 33; refine PR.out.mono ?_; rintro e w3 ⟨rfl, hI3, hK3⟩; have j := (hK3.block bi (show bi < V.drew.heap.size from hbl) (by simp; omega)).trans (show V.drew.heap[bi]? = _ from HB.out); have i0' := cell_of_row w3 bi 0 _ _ _ j; have i1' := cell_of_row w3 bi 1 _ _ _ j; have cl3 := hI3.l.cell; have fl3 := hI3.l.frozen; simp at i0' i1'; have HI3 := Lib.hid hI3; have HK3 := Lib.hid hK3; clear hI3 hK3 j)
          try (refine hK _ _ ?_; clear hK K)
          refine wpAny_ready (rs := [10]) (by kernel_rfl) (by simp) ?_
          refine AllReady.cons rfl (fun K hK => ?_) AllReady.nil
          go_simp
          refine hK _ _ ?_
          clear hK K
          refine wpAny_ready (rs := [11]) (by kernel_rfl) (by simp) ?_
          refine AllReady.cons rfl (fun K hK => ?_) AllReady.nil
          go_simp
          refine hK _ _ ?_
          clear hK K
          refine wpAny_done (by kernel_rfl) ?_ _
          gi_wp2
          all_goals
            have hKK := do_kept (P := P) HK3.out (.int .i64 q)
            have hJ := HI3.out.setl hYP (by omega) q
            generalize w3.setCell ⟨P + 4, 0, none⟩ (.int .i64 q) = w5 at hKK hJ ⊢
            obtain ⟨kf, ks⟩ := do_same hKK hle hs5 hbm hXP (fun hm => hBM.dis _ hm hbY)
            first
              | exact ⟨kf, ks, do_next HL.out HLF.out HQ.out (by have hqq : (q == 0) = false := (by assumption); have := ne_of_beq_false hqq; omega) hJ⟩
              | exact ⟨kf, ks, do_stop HL.out (eq_of_beq (show (q == 0) = true by assumption)) hJ⟩

        · go_simp
          go_wp2_with (go_at_call 33; refine PR.out.mono ?_; rintro e w3 ⟨rfl, hI3, hK3⟩; have j := (hK3.block bi (show bi < V.drew.heap.size from hbl) (by simp; omega)).trans (show V.drew.heap[bi]? = _ from HB.out); have i0' := cell_of_row w3 bi 0 _ _ _ j; have i1' := cell_of_row w3 bi 1 _ _ _ j; have cl3 := hI3.l.cell; have fl3 := hI3.l.frozen; simp at i0' i1'; have HI3 := Lib.hid hI3; have HK3 := Lib.hid hK3; clear hI3 hK3 j)
          try (refine hK _ _ ?_; clear hK K)
          refine wpAny_ready (rs := [7]) (by kernel_rfl) (by simp) ?_
          refine AllReady.cons rfl (fun K hK => ?_) AllReady.nil
          go_simp
          refine hK _ _ ?_
          clear hK K
          refine wpAny_ready (rs := [10]) (by kernel_rfl) (by simp) ?_
          refine AllReady.cons rfl (fun K hK => ?_) AllReady.nil
          go_simp
          refine hK _ _ ?_
          clear hK K
          refine wpAny_ready (rs := [11]) (by kernel_rfl) (by simp) ?_
          refine AllReady.cons rfl (fun K hK => ?_) AllReady.nil
          go_simp
          refine hK _ _ ?_
          clear hK K
          refine wpAny_done (by kernel_rfl) ?_ _
          gi_wp2
          all_goals
            have hKK := do_kept (P := P) HK3.out (.int .i64 q)
            have hJ := HI3.out.setl hYP (by omega) q
            generalize w3.setCell ⟨P + 4, 0, none⟩ (.int .i64 q) = w5 at hKK hJ ⊢
            obtain ⟨kf, ks⟩ := do_same hKK hle hs5 hbm hXP (fun hm => hBM.dis _ hm hbY)
            first
              | exact ⟨kf, ks, do_next HL.out HLF.out HQ.out (by have hqq : (q == 0) = false := (by assumption); have := ne_of_beq_false hqq; omega) hJ⟩
              | exact ⟨kf, ks, do_stop HL.out (eq_of_beq (show (q == 0) = true by assumption)) hJ⟩

    case done =>
      rintro D V hD ⟨r0, e, hlt, hI⟩ hH0 hK
      obtain rfl : r0 = [] := by
        have := congrArg List.length e
        simp at this
        exact this
      clear e
      subst hfr
      dsimp only
      have cp := hI.p.cell
      have cl := hI.l.cell
      have f8 := hI.q.frozen
      have g8 := hI.q.cell
      obtain ⟨A', cap', cm', hc', hm', -, -⟩ := hI.m.ex
      have cm := cell_of_row V bm 0 _ _ _ cm'
      simp at cm
      obtain ⟨lf, hlf⟩ : ∃ lf, s - (L.length : Int) = lf := ⟨_, rfl⟩
      rw [hlf] at cl
      have hl0 : ¬ lf = 0 := by omega
      have hl1 : (lf == 0) = false := by simp; exact hl0
      have hl2 : decide (lf = 0) = false := by simp; exact hl0
      have hD1 : P + 1 + 1 ≠ D := by omega
      have HH := Lib.hid hH0
      have HI := Lib.hid hI
      have HK := Lib.hid hK
      have HLF := Lib.hid hlf
      clear cm' hH0 hI hK hl0 hlf hlt
      gi_wp2
      obtain ⟨hK', hBM', hQ'⟩ := do_end HH.out.1 HI.out hXP hYP (by omega) hBM.dis hBM.le (by omega) HK.out (.bool true)
      generalize V.setCell ⟨P + 1 + 1, 0, none⟩ (.bool true) = W6 at hK' hBM' hQ' ⊢
      refine ⟨by simp, .inl ⟨_, _, rfl, run_takeDeferred hK', ?_⟩⟩
      have hc := hQ'.cell
      exact ⟨.bool true, by simp [results, Try.f13, go_sem, hc], rfl, X, Y, c, [], by omega, by simp, by simp, hBM'⟩
    case stop =>
      rintro D cc pre x r V hD hL ⟨rfl, r0, e, hI⟩ hH0 hK
      obtain rfl : r0 = r := by
        have e2 := hL.symm.trans e
        simp at e2
        exact e2.symm
      have hso := suffix_sorted HSO.out e
      have hln : r0.length ≤ L.length := by rw [e]; simp; omega
      clear e hL
      subst hfr
      dsimp only
      have cp := hI.p.cell
      have cl := hI.l.cell
      have f8 := hI.q.frozen
      have g8 := hI.q.cell
      have hD1 : P + 1 + 1 ≠ D := by omega
      have HH := Lib.hid hH0
      have HI := Lib.hid hI
      have HK := Lib.hid hK
      have HSr := Lib.hid hso
      clear hH0 hI hK hso
      gi_wp2
      obtain ⟨hK', hBM', hQ'⟩ := do_end HH.out.1 HI.out hXP hYP (by omega) hBM.dis hBM.le (by omega) HK.out (.bool true)
      generalize V.setCell ⟨P + 1 + 1, 0, none⟩ (.bool true) = W6 at hK' hBM' hQ' ⊢
      refine ⟨by simp, .inl ⟨_, _, rfl, run_takeDeferred hK', ?_⟩⟩
      have hc := hQ'.cell
      exact ⟨.bool true, by simp [results, Try.f13, go_sem, hc], rfl, X, Y, c, r0, by omega, by omega, HSr.out, hBM'⟩
end Go.Proofs.Ytebbpgokhelmdaa
