/- ScriptShifts: the walk. -/
import Derived.Test.YthfiodjhjhpiaaaJSP
import Derived.Test.YthfiodjhjhpiaaaJFewR
import Derived.Test.YthfiodjhjhpiaaaJSh
import Derived.Deep.CutBlock
namespace Go.Proofs.Ythfiodjhjhpiaaa
open Go.RowKit
set_option linter.unusedVariables false
set_option linter.unusedSimpArgs false

theorem own_emptyR {w : World} {base : Nat} (hb : base ≤ w.heap.size) : (w.alloc (.cells #[] 49)).ownsRow base 49 5 (.slice (some ⟨w.heap.size, 0, none⟩) 0 0) 0 [] := World.ownsRow_lit w #[] 0 hb (by unfold maxLen; omega) rfl
theorem fewRS_len (rs : List Fv) : (fewRS rs).length ≤ 12 := by rw [fewRS, List.length_map, List.length_take]; omega
theorem fewRS_a (rs : List Fv) : ∀ r ∈ fewRS rs, 0 ≤ r.a ∧ r.a < 12 := fun r hr => by
  obtain ⟨y, _, rfl⟩ := List.mem_map.1 hr
  exact emod_bd y.a 12 (by omega)
/-- The row whose first job comes later. -/
structure XIn (B : Nat) (w0 wr : World) (v : Value) (fs : List Fv) (n b T : Int) (mv : Bool) (k : Nat) : Prop where
  own : ∃ gs, FOwn 49 B wr v gs ∧ gs.map (·.x) = (if mv then bump n b T fs else fs)
  no : mv = false → ∀ (i : Nat) (y : Fv), i < k → fs[i]? = some y → y.t % n ≠ T
  bel : Below B w0 wr
/-- The row of jobs, of which those of the task are made later. -/
structure WIn (B : Nat) (w0 wr : World) (v : Value) (js : List Fv) (b T : Int) (k : Nat) : Prop where
  own : ∃ gs, FOwn 40 B wr v gs ∧ gs.map (·.x) = upto (shT b T) k js
  bel : Below B w0 wr
set_option maxRecDepth 100000 in
set_option maxHeartbeats 16000000 in
theorem ss_walk (A0 : Option Addr) (cap0 : Nat) (l0 : List Sp) (A1 : Option Addr) (cap1 : Nat) (l1 : List Fv) (x0 x1 : Int) (w : World) (h0 : SRow w A0 cap0 l0) (h1 : FRow w A1 cap1 l1) (i0 : in64 x0) (i1 : in64 x1) :
    Calls Try.prog 9 #[.slice A0 l0.length cap0, .slice A1 l1.length cap1, .agg #[.int .i64 x0, .int .i64 x1]] w fun e w' => e = .returned (.bool true) ∧ Below w.heap.size w w' := by
  obtain ⟨t0, hi, hz0, hz1, hz2⟩ := info_parts infoRs
  have AW := Lib.hid (fun W => awake_any W)
  have KF := Lib.hid (fun (W : World) (hb : Below w.heap.size w W) => fewR_any A1 cap1 l1 W (h1.later hb))
  have KS := Lib.hid (fun (W : World) (hb : Below w.heap.size w W) => set_any 5 (by omega) (by omega) A0 cap0 l0 x0 W (h0.later hb) i0)
  have I0 := Lib.hid i0
  have I1 := Lib.hid i1
  clear h0 h1 i0 i1
  go_enter Try.func9, Try.ntmps9
  go_upto_region 2 with (go_at_call 10; (with_reducible refine (AW.out _).mono ?_); rintro e w1 ⟨rfl, hb1⟩)
  obtain ⟨hq1, hB1⟩ := arr2 hb1
  obtain ⟨k0, k1⟩ := hq1
  have HQ1 : Hid (Q2 w.heap.size x0 x1 w1) := Lib.hid ⟨k0, k1⟩
  have B1 := Lib.hid hB1
  clear hb1 hB1
  go_upto_region 3 with (go_at_call 12; (with_reducible refine (KS.out _ B1.out).mono ?_); rintro e w2 ⟨As, cs, ss, rfl, hRs, hs1, hs5, hsd, hsf, hsp, h2⟩; have RS := Lib.hid hRs; have HOK := Lib.hid (set_ok hs1 (by omega) hsd hsf hsp); have B2 := Lib.hid (B1.out.trans (h2.mono B1.out.size)); have HQ2 := Lib.hid (HQ1.out.step h2); have HS1 := Lib.hid hs1; have HS5 := Lib.hid hs5; clear hRs hs1 hs5 hsd hsf hsp h2)
  clear k0 k1
  go_upto_region 4 with (go_at_call 22; (with_reducible refine (KF.out _ B2.out).mono ?_); rintro e w3 ⟨vr, gr, rfl, hGr, hgr, h3⟩; have HGR := Lib.hid hGr; have HGX := Lib.hid hgr; have H3 := Lib.hid h3; clear hGr hgr h3)
  have B3 := Lib.hid (B2.out.trans (H3.out.mono B2.out.size))
  have RS3 := Lib.hid (RS.out.later H3.out)
  have HQ3 := Lib.hid (HQ2.out.step H3.out)
  obtain ⟨fs, hfs⟩ : ∃ fs, fewRS l1 = fs := ⟨_, rfl⟩
  have hf12 := fewRS_len l1
  have hfa := fewRS_a l1
  rw [hfs] at hf12 hfa HGX
  obtain ⟨n, hn⟩ : ∃ n, gr.length = n := ⟨_, rfl⟩
  have hfn : fs.length = n := by rw [← hn, ← HGX.out, List.length_map]
  have hn12 : n ≤ 12 := by omega
  have HFA := Lib.hid hfa
  have HFN := Lib.hid hfn
  have HGN := Lib.hid hn
  clear hfs hf12 hfa hfn hn B1 B2 RS HQ1 HQ2 AW KF KS
  obtain ⟨T, hT⟩ : ∃ T, x0 % (ss.length : Int) = T := ⟨_, rfl⟩
  obtain ⟨by_, hby⟩ : ∃ by_, x1 % (1001 : Int) = by_ := ⟨_, rfl⟩
  have hbb := emod_bd x1 1001 (by omega)
  have hs1 := HS1.out
  have hs5 := HS5.out
  have K5 := fun W => lrest_any x0 (ss.length : Int) W I0.out (by omega) (by omega)
  have K6 := fun W => lrest_any x1 1001 W I1.out (by omega) (by omega)
  rw [hT] at K5
  rw [hby] at K6 hbb
  have K5 := Lib.hid K5
  have K6 := Lib.hid K6
  have KR := Lib.hid (fun (W : World) (x : Int) (hx : in64 x) => lrest_any x (ss.length : Int) W hx (by omega) (by omega))
  obtain ⟨q0, q1⟩ := HQ3.out
  clear hT hby
  go_upto_region 6 with (first
    | (go_at_call 21; (with_reducible refine (K5.out _).mono ?_); rintro e wx ⟨rfl, rfl⟩)
    | (go_at_call 21; (with_reducible refine (K6.out _).mono ?_); rintro e wx ⟨rfl, rfl⟩))
  clear q0 q1
  obtain ⟨BB, hBB⟩ : ∃ BB, w3.heap.size = BB := ⟨_, rfl⟩
  have HBB := Lib.hid hBB
  clear hBB
  go_cut [12] from 33 to 35 (fun v wx => ∃ A6 c6, v = .slice A6 n c6 ∧ FOwn 49 BB wx (.slice A6 n c6) gr ∧ Below BB w3 wx)
  case first =>
    have b0 : Below w3.heap.size w3 (w3.alloc (.cells #[] 49)) := (Below.refl _ _).alloc (Nat.le_refl _) _
    have ho := own_emptyR (w := w3) (Nat.le_refl w3.heap.size)
    have B0 := Lib.hid b0
    have HO := Lib.hid ho
    clear b0 ho
    rcases HGR.out.row.2 with ⟨hv, h0⟩ | ⟨g, cap, cur, hv, _, _, _, _⟩
    · have hgs : gr = [] := List.length_eq_zero_iff.1 h0
      subst hgs
      subst hv
      obtain rfl : n = 0 := by have := HGN.out; simp at this; omega
      go_wp2_with (refine wpList_append_own_none rfl _ _ 23 rfl w3.heap.size 49 t0 5 Try.underlying23 hi _ 0 [] rfl HO.out rfl ?_)
      go_meet
      exact ⟨_, _, rfl, by rw [← HBB.out]; exact ⟨HO.out, by simp⟩, by rw [← HBB.out]; exact B0.out⟩
    · rw [HGN.out] at hv
      subst hv
      have hcells : ∀ j u, (gvC gr)[j]? = some u → (w3.alloc (.cells #[] 49)).cell? ((⟨g, 0, none⟩ : Addr).add j) = some u := fun j u hu => by
        rw [add_none, Nat.zero_add]
        exact own_cell (HGR.out.later B0.out).row rfl hu
      have hlen := gvC_length gr
      have hone : ∀ u ∈ gvC gr, u.oneCell' = true := fun u hu => by
        obtain ⟨g, _, hg⟩ := List.mem_flatMap.1 hu
        exact fvL_one _ _ _ u hg
      have HOLD : Hid (∀ g ∈ gr, GOk 49 w3.heap.size w3 g) := Lib.hid HGR.out.old
      have HC := Lib.hid hcells
      have HL := Lib.hid hlen
      have H1 := Lib.hid hone
      clear hcells hlen hone
      go_wp2_with (refine wpList_append_own _ rfl _ _ 23 rfl w3.heap.size 49 t0 _ 5 56 Try.underlying23 hi hz0 hz1 hz2 rfl (by decide) _ 0 [] rfl HO.out ⟨g, 0, none⟩ n cap (gvC gr) rfl (by rw [← HGN.out]; exact HL.out) HC.out H1.out (by unfold maxLen; omega) (by omega) (by simp) ?_; intro v' wb hown' hgrow hnil'; obtain ⟨Aw, cw, hvw, -, -⟩ := own_len hown'; subst hvw; have HO6 := Lib.hid hown'; have HGW := Lib.hid hgrow; clear hown' hgrow hnil')
      go_meet
      rw [List.nil_append, Nat.zero_add] at HO6
      have hB6 : Below w3.heap.size w3 wb := B0.out.grown HGW.out (by simp) (fun q hq => (HO.out.lt q hq).1)
      refine ⟨Aw, cw, rfl, ?_, by rw [← HBB.out]; exact hB6⟩
      rw [← HBB.out, ← HGN.out]
      have h6 := HO6.out
      rw [← HGN.out] at h6
      exact ⟨h6, fun g hg => (HOLD.out g hg).kept fun b hb _ => hB6.block b hb⟩
  case rest =>
    obtain ⟨A6, c6, rfl, hX, hbX⟩ := hcut
    have hcle := hX.row
    apply_assumption
    have hnn := HGN.out
    obtain ⟨Aq, cq, hvq, hnc, hcm⟩ := own_len hX.row
    simp only [Value.slice.injEq] at hvq
    obtain ⟨rfl, -, rfl⟩ := hvq
    have X0 : Hid (XIn BB w3 wc (.slice A6 n c6) fs (ss.length : Int) by_ T false 0) := Lib.hid ⟨⟨gr, hX, by simp [HGX.out]⟩, fun _ i y hi => by omega, hbX⟩
    unfold maxLen at hcm
    rw [hnn] at hnc
    clear hX hbX hnn hcle
    go_upto_block 0 with (fail)
    go_cut [13, 14] from 36 to 66 (fun m i wx => ∃ gs, FOwn 49 BB wx (.slice A6 n c6) gs ∧ gs.map (·.x) = bump (ss.length : Int) by_ T fs ∧ Below BB w3 wx)
    case first =>
      go_wp2
      go_loopw [13, 14] (fun m i wr => ∃ (k : Nat) (mv : Bool), k ≤ n ∧ m = .bool mv ∧ i = .int .i64 k ∧ Hid (XIn BB w3 wr (.slice A6 n c6) fs (ss.length : Int) by_ T mv k)) (fun _ i _ => n - (intOf i).toNat)
      case atStart => exact ⟨0, false, Nat.zero_le _, rfl, rfl, X0⟩
      case round =>
        obtain ⟨k, mv, hk, rfl, rfl, hI⟩ := hrel
        by_cases hlt : k < n
        · have hi0 : (0 : Int) ≤ (k : Int) := by omega
          have hi1 : (k : Int) < (n : Int) := by omega
          have g1 : decide ((k : Int) < (n : Int)) = true := decide_eq_true hi1
          cases mv with
          | true =>
            obtain ⟨gs, hG, hgs⟩ := hI.out.own
            have HG := Lib.hid hG
            have HGS := Lib.hid hgs
            have HB := Lib.hid hI.out.bel
            clear hG hgs hI
            go_wp2
            go_meet
            exact ⟨gs, HG.out, HGS.out, HB.out⟩
          | false =>
            obtain ⟨gs, hG, hgs⟩ := hI.out.own
            simp only [Bool.false_eq_true, if_false] at hgs
            have hgl : gs.length = n := by rw [← HFN.out, ← hgs, List.length_map]
            obtain ⟨q, cq, hq, hqB, hql, _, _, hfz⟩ := own_form hG.row (by omega)
            simp only [Value.slice.injEq] at hq
            obtain ⟨rfl, -, rfl⟩ := hq
            obtain ⟨g, hg⟩ : ∃ g, gs[k]? = some g := ⟨gs[k]'(by omega), List.getElem?_eq_getElem _⟩
            have hfx : fs[k]? = some g.x := by rw [← hgs, List.getElem?_map, hg]; rfl
            have hcell := hG.at_ hg
            have z0 := hcell 0 _ rfl
            have z1 := hcell 1 _ rfl
            rw [Nat.add_zero] at z0
            have y1 := hfz (k * 5 + 1)
            have hgo := hG.each g (List.mem_of_getElem? hg)
            have hga := HFA.out g.x (List.mem_of_getElem? hfx)
            have K11 := Lib.hid (fun W => KR.out W g.x.t hgo.wf.t)
            have HNO := Lib.hid (hI.out.no rfl)
            have HB := Lib.hid hI.out.bel
            have HG := Lib.hid hG
            have HGI := Lib.hid hg
            have HGO := Lib.hid hgo
            have HGS := Lib.hid hgs
            have HFX := Lib.hid hfx
            have HQB := Lib.hid hqB
            clear hG hg hgo hgs hfx hcell hfz hI hqB
            by_cases hm : g.x.t % (ss.length : Int) = T
            · have HMM := Lib.hid hm
              rw [hm] at K11
              have hw : IntKind.i64.wrap (g.x.a + by_) = g.x.a + by_ := IntWalk.i64_in _ (by omega)
              have HIN := Lib.hid (show in64 (g.x.a + by_) from ⟨by omega, by omega⟩)
              clear hm
              go_wp2_with (go_at_call 21; (with_reducible refine (K11.out _).mono ?_); rintro e wx ⟨rfl, rfl⟩)
              go_roundw
              case rel =>
                refine ⟨k + 1, true, by omega, rfl, by go_num, Lib.hid ⟨⟨gs.set k ⟨{ g.x with a := g.x.a + by_ }, g.A, g.cap⟩, HG.out.setI (g' := ⟨{ g.x with a := g.x.a + by_ }, g.A, g.cap⟩) HGI.out 1 (by omega) (.int .i64 (g.x.a + by_)) rfl ⟨⟨HGO.out.wf.t, HIN.out, HGO.out.wf.r, HGO.out.wf.k⟩, HGO.out.s, HGO.out.safe⟩, ?_⟩, by simp, HB.out.setCell (p := ⟨q, k * 5 + 1, none⟩) HQB.out _⟩⟩
                simp only [if_true]
                rw [bump_at _ by_ T fs k g.x HFX.out HMM.out HNO.out, List.map_set, HGS.out]
              case measure => simp [intOf]; omega
            · have hbf : (g.x.t % (ss.length : Int) == T) = false := by simp [hm]
              have HMM := Lib.hid hm
              clear hm
              go_wp2_with (go_at_call 21; (with_reducible refine (K11.out _).mono ?_); rintro e wx ⟨rfl, rfl⟩)
              go_roundw
              case rel =>
                refine ⟨k + 1, false, by omega, rfl, by go_num, Lib.hid ⟨⟨gs, HG.out, by simpa using HGS.out⟩, fun _ i y hi hy => ?_, HB.out⟩⟩
                rcases Nat.lt_or_ge i k with h | h
                · exact HNO.out i y h hy
                · obtain rfl : i = k := by omega
                  have := HFX.out
                  rw [hy] at this
                  obtain rfl := Option.some.inj this
                  exact HMM.out
              case measure => simp [intOf]; omega
        · obtain rfl : k = n := by omega
          have g1 : decide ((k : Int) < (k : Int)) = false := decide_eq_false (by omega)
          obtain ⟨gs, hG, hgs⟩ := hI.out.own
          have hbp : gs.map (·.x) = bump (ss.length : Int) by_ T fs := by
            cases mv with
            | true => exact hgs
            | false =>
              simp only [Bool.false_eq_true, if_false] at hgs
              rw [hgs, bump_none]
              intro i y hy
              have := (List.getElem?_eq_some_iff.1 hy).1
              exact hI.out.no rfl i y (by have := HFN.out; omega) hy
          have HG := Lib.hid hG
          have HGS := Lib.hid hbp
          have HB := Lib.hid hI.out.bel
          clear hG hgs hI hbp
          go_wp2
          go_meet
          exact ⟨gs, HG.out, HGS.out, HB.out⟩
    case rest =>
      obtain ⟨gs, hX, hXS, hbX⟩ := hcut
      apply_assumption
      have hfd : decF ss [] (bump (ss.length : Int) by_ T fs) = (decF ss [] fs).map (shT by_ T) := decF_bump ss by_ T ⟨by omega, by omega⟩ fs [] HFA.out (by simp)
      have hbl := bump_len (ss.length : Int) by_ T fs
      obtain ⟨js, hjs⟩ : ∃ js, decF ss [] fs = js := ⟨_, rfl⟩
      have hjl : js.length = n := by rw [← hjs, decF_len, HFN.out]; simp
      have hv := vs_of HOK.out
      have hbd : Bd js := by rw [← hjs]; exact decF_bd hv _ [] Bd.nil
      have hleg : legF ss [] js = true := by rw [← hjs]; exact decF_legal hv fs (by have := HFN.out; omega)
      have hjb : ∀ j ∈ js, 0 ≤ j.a ∧ j.a ≤ 100000000000 ∧ 0 ≤ j.r ∧ j.r ≤ 200000000000 := fun j hj => by
        have h1 := hbd j hj
        obtain ⟨i, hi, rfl⟩ := List.getElem_of_mem hj
        obtain ⟨-, -, ⟨r0, r1⟩, -, -⟩ := legJ_parts (legF_get js [] i _ hleg (List.getElem?_eq_getElem hi))
        have hy := hv.tk (js[i]).t
        have := hy.j1
        omega
      rw [hjs] at hfd
      have hdr : decR ss fs = js := by rw [decR_small HOK.out (by have := HFN.out; omega), hjs]
      have hdx : decR ss (gs.map (·.x)) = js.map (shT by_ T) := by rw [hXS, decR_small HOK.out (by rw [hbl]; have := HFN.out; omega), hfd]
      obtain ⟨A6', c6', hvq, FX⟩ := hX.frow
      have hgl : gs.length = n := by
        have := congrArg List.length hXS
        rw [List.length_map, hbl, HFN.out] at this
        exact this
      rw [hgl] at hvq
      simp only [Value.slice.injEq] at hvq
      obtain ⟨rfl, -, rfl⟩ := hvq
      have hb3 : Below w3.heap.size w3 wc := by rw [HBB.out]; exact hbX
      obtain ⟨Ar, cr, hvr, FR⟩ := HGR.out.frow
      rw [HGX.out] at FR
      rw [HGN.out] at hvr
      subst hvr
      have RSc := Lib.hid (RS3.out.later hb3)
      have FRc := Lib.hid (FR.later hb3)
      have FXc := Lib.hid FX
      have HDX := Lib.hid hdx
      have HJB := Lib.hid hjb
      have HJL := Lib.hid hjl
      have KD0 := decode_len As Ar cs cr ss fs ss.length n wc rfl HFN.out RSc.out FRc.out
      rw [hdr] at KD0
      have KD := Lib.hid KD0
      have HBc := Lib.hid (B3.out.trans (hb3.mono B3.out.size))
      have HGXL := Lib.hid (show (gs.map (·.x)).length = n by rw [List.length_map, hgl])
      clear hfd hbl hjs hjl hv hbd hleg hjb hdr hdx FX hgl hb3 FR KD0 hX hXS hbX
      go_upto_region 15 with (go_at_call 14; (with_reducible refine KD.out.mono ?_); rintro e w5 ⟨v5, g5, rfl, hG5, hg5, h5⟩; have HG5 := Lib.hid hG5; have HGX5 := Lib.hid hg5; have H5 := Lib.hid h5; clear hG5 hg5 h5)
      obtain ⟨A5, c5, hv5, hc5, hm5⟩ := own_len HG5.out.row
      have hl5 : g5.length = n := by rw [← HJL.out, ← HGX5.out, List.length_map]
      rw [hl5] at hv5 hc5
      subst hv5
      unfold maxLen at hm5
      obtain ⟨B7, hB7⟩ : ∃ B7, wc.heap.size = B7 := ⟨_, rfl⟩
      have hHG5 := HG5.out
      have hH5 := H5.out
      rw [hB7] at hHG5 hH5
      have HB7 := Lib.hid hB7
      have W0 : Hid (WIn B7 wc w5 (.slice A5 n c5) js by_ T 0) := Lib.hid ⟨⟨g5, hHG5, by rw [upto_zero, HGX5.out]⟩, hH5⟩
      clear hHG5 hH5 hB7 hl5 HG5 HGX5 KD H5
      go_wp2
      go_loopw [16] (fun i wr => ∃ k : Nat, k ≤ n ∧ i = .int .i64 k ∧ Hid (WIn B7 wc wr (.slice A5 n c5) js by_ T k)) (fun i _ => n - (intOf i).toNat)
      case atStart => exact ⟨0, Nat.zero_le _, rfl, W0⟩
      case round =>
        obtain ⟨k, hk, rfl, hI⟩ := hrel
        by_cases hlt : k < n
        · have hi0 : (0 : Int) ≤ (k : Int) := by omega
          have hi1 : (k : Int) < (n : Int) := by omega
          obtain ⟨gw, hG, hgs⟩ := hI.out.own
          have hgl : gw.length = n := by
            have := congrArg List.length hgs
            rw [List.length_map, upto_len, HJL.out] at this
            exact this
          obtain ⟨q, cq, hq, hqB, hql, _, _, hfz⟩ := own_form hG.row (by omega)
          simp only [Value.slice.injEq] at hq
          obtain ⟨rfl, -, rfl⟩ := hq
          obtain ⟨g, hg⟩ : ∃ g, gw[k]? = some g := ⟨gw[k]'(by omega), List.getElem?_eq_getElem _⟩
          obtain ⟨j, hj⟩ : ∃ j, js[k]? = some j := ⟨js[k]'(by have := HJL.out; omega), List.getElem?_eq_getElem _⟩
          have hjx : g.x = j := by
            have h1 := congrArg (fun l => l[k]?) hgs
            simp only [List.getElem?_map, hg, upto_get (shT by_ T) k js hj] at h1
            exact Option.some.inj h1
          obtain ⟨ga0, ga1, gr0, gr1⟩ := HJB.out j (List.mem_of_getElem? hj)
          have hcell := hG.at_ hg
          have z0 := hcell 0 _ rfl
          have z1 := hcell 1 _ rfl
          have z2 := hcell 2 _ rfl
          rw [Nat.add_zero] at z0
          have y1 := hfz (k * 5 + 1)
          have y2 := hfz (k * 5 + 2)
          have hgo := hG.each g (List.mem_of_getElem? hg)
          have HB := Lib.hid hI.out.bel
          have HG := Lib.hid hG
          have HGI := Lib.hid hg
          have HGO := Lib.hid hgo
          have HGS := Lib.hid hgs
          have HJ := Lib.hid hj
          have HQB := Lib.hid hqB
          have HJX := Lib.hid hjx
          rw [← hjx] at ga0 ga1 gr0 gr1
          clear hG hg hgo hgs hj hcell hfz hI hqB hjx
          by_cases hm : g.x.t = T
          · have hw : IntKind.i64.wrap (g.x.a + by_) = g.x.a + by_ := IntWalk.i64_in _ (by omega)
            have hw2 : IntKind.i64.wrap (g.x.r + by_) = g.x.r + by_ := IntWalk.i64_in _ (by omega)
            have HIN := Lib.hid (show in64 (g.x.a + by_) ∧ in64 (g.x.r + by_) from ⟨⟨by omega, by omega⟩, ⟨by omega, by omega⟩⟩)
            have HMM := Lib.hid hm
            have hbt : (g.x.t == T) = true := by simp [hm]
            clear hm
            go_wp2
            go_roundw
            case rel =>
              have s1 := HG.out.setI (g' := ⟨{ g.x with a := g.x.a + by_ }, g.A, g.cap⟩) HGI.out 1 (by omega) (.int .i64 (g.x.a + by_)) rfl ⟨⟨HGO.out.wf.t, HIN.out.1, HGO.out.wf.r, HGO.out.wf.k⟩, HGO.out.s, HGO.out.safe⟩
              have hi1 : (gw.set k ⟨{ g.x with a := g.x.a + by_ }, g.A, g.cap⟩)[k]? = some ⟨{ g.x with a := g.x.a + by_ }, g.A, g.cap⟩ := List.getElem?_set_self (List.getElem?_eq_some_iff.1 HGI.out).1
              have e1 := s1.each _ (List.mem_of_getElem? hi1)
              have s2 := s1.setI (g' := ⟨{ g.x with a := g.x.a + by_, r := g.x.r + by_ }, g.A, g.cap⟩) hi1 2 (by omega) (.int .i64 (g.x.r + by_)) rfl ⟨⟨HGO.out.wf.t, HIN.out.1, HIN.out.2, HGO.out.wf.k⟩, e1.s, e1.safe⟩
              rw [List.set_set] at s2
              refine ⟨k + 1, by omega, by go_num, Lib.hid ⟨⟨_, s2, ?_⟩, (HB.out.setCell (p := ⟨q, k * 5 + 1, none⟩) HQB.out _).setCell (p := ⟨q, k * 5 + 2, none⟩) HQB.out _⟩⟩
              rw [← upto_succ (shT by_ T) k js HJ.out, List.map_set, HGS.out, ← HJX.out, shT, if_pos HMM.out]
            case measure => simp [intOf]; omega
          · have hbf : (g.x.t == T) = false := by simp [hm]
            have HMM := Lib.hid hm
            clear hm
            go_wp2
            go_roundw
            case rel => exact ⟨k + 1, by omega, by go_num, Lib.hid ⟨⟨gw, HG.out, by rw [HGS.out]; exact upto_same _ k js HJ.out (by rw [← HJX.out, shT, if_neg HMM.out])⟩, HB.out⟩⟩
            case measure => simp [intOf]; omega
        · obtain rfl : k = n := by omega
          have g1 : decide ((k : Int) < (k : Int)) = false := decide_eq_false (by omega)
          obtain ⟨gw, hG, hgs⟩ := hI.out.own
          rw [← HJL.out, upto_all] at hgs
          have hgl : gw.length = k := by
            have := congrArg List.length hgs
            rw [List.length_map, List.length_map, HJL.out] at this
            exact this
          obtain ⟨A5', c5', hvq, FW⟩ := hG.frow
          rw [hgl] at hvq
          simp only [Value.slice.injEq] at hvq
          obtain ⟨rfl, -, rfl⟩ := hvq
          rw [hgs] at FW
          have hbw : Below wc.heap.size wc wr := by rw [HB7.out]; exact hI.out.bel
          have KX0 := decode_len As A6 cs c6 ss (gs.map (·.x)) ss.length k wr rfl HGXL.out (RSc.out.later hbw) (FXc.out.later hbw)
          rw [HDX.out] at KX0
          have KX := Lib.hid KX0
          have FWh := Lib.hid FW
          have HBW := Lib.hid hbw
          have HLM := Lib.hid (show (js.map (shT by_ T)).length = k by rw [List.length_map]; exact HJL.out)
          have hkk : ((k : Int) == (k : Int)) = true := by simp
          clear hG hgs hgl FW hbw KX0 hI
          go_wp2_with (first
            | (go_at_call 14; (with_reducible refine KX.out.mono ?_); rintro e wa ⟨va, ga, rfl, hGa, hga, ha⟩; obtain ⟨Aa, ca, rfl, Fa⟩ := hGa.frow; rw [hga] at Fa; have KE := Lib.hid (same_len Aa A5 ca c5 _ ga.length k wa (by rw [← hga, List.length_map]) HLM.out Fa (FWh.out.later ha)); have HA := Lib.hid (bel_step HBW.out ha); clear hGa hga ha Fa)
            | (go_at_call 13; (with_reducible refine KE.out.mono ?_); rintro e wb ⟨rfl, hb⟩; have HBf := Lib.hid (bel_step HA.out hb); clear hb))
          go_ret
          exact ⟨rfl, HBc.out.trans (HBf.out.mono HBc.out.size)⟩
end Go.Proofs.Ythfiodjhjhpiaaa
