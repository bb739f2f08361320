/- ScriptPrefix: the walk. -/
import Derived.Test.YthfiodjhjhpiaaaJPre
namespace Go.Proofs.Ythfiodjhjhpiaaa
open Go.RowKit
set_option linter.unusedVariables false
set_option linter.unusedSimpArgs false

theorem same_len (A A' : Option Addr) (cap cap' : Nat) (js : List Fv) (n m : Nat) (w : World) (hn : js.length = n) (hm : js.length = m) (hR : FRow w A cap js) (hR' : FRow w A' cap' js) :
    Calls Try.prog 13 #[.slice A n cap, .slice A' m cap'] w fun e w' => e = .returned (.bool true) ∧ Below w.heap.size w w' := by
  have h := same_any A A' cap cap' js w hR hR'
  rw [hm] at h
  rw [← hn, hm]
  exact h
abbrev Q2 (N : Nat) (a b : Int) (W : World) : Prop := W.cell? ⟨N, 0, none⟩ = some (.int .i64 a) ∧ W.cell? ⟨N, 1, none⟩ = some (.int .i64 b)
theorem Q2.step {N : Nat} {a b : Int} {W W' : World} (h : Q2 N a b W) (hb : Below W.heap.size W W') : Q2 N a b W' := ⟨cells_below hb _ _ _ h.1, cells_below hb _ _ _ h.2⟩
theorem arr2 {w w1 : World} {t : TypeId} {v0 v1 : Int} (h : Below (w.alloc (.cells #[.int .i64 v0, .int .i64 v1] t)).heap.size (w.alloc (.cells #[.int .i64 v0, .int .i64 v1] t)) w1) :
    Q2 w.heap.size v0 v1 w1 ∧ Below w.heap.size w w1 := by
  have hs := h.size
  simp only [World.size_alloc] at hs
  have hc : ∀ i, w1.cell? ⟨w.heap.size, i, none⟩ = (#[.int .i64 v0, .int .i64 v1] : Array Value)[i]? := fun i => by
    rw [h.cell (p := ⟨w.heap.size, i, none⟩) (by simp), cell_of_row _ _ i _ _ _ (heap_alloc_new w _)]
  exact ⟨⟨hc 0, hc 1⟩, ((Below.refl w.heap.size w).alloc (Nat.le_refl _) _).trans (h.mono (by simp))⟩
theorem FAt.gok {W : World} {b o cap B : Nat} {x : Fv} {C : Option Addr} (h : FAt W b o x C cap) (e : TypeId) (hs : x.c ≠ [] → ∀ a, C = some a → a.block < B) : GOk e B W ⟨x, C, cap⟩ := ⟨h.wf, h.s, fun hn a ha => .inl (hs hn a ha)⟩
theorem FAt.cut_lt {W : World} {b o cap : Nat} {x : Fv} {C : Option Addr} (h : FAt W b o x C cap) : x.c ≠ [] → ∀ a, C = some a → a.block < W.heap.size := fun hne a ha => by
  obtain ⟨b, o, n, hA, _, _, hbl, _⟩ := h.s.get (k := 0) (by rcases Nat.eq_zero_or_pos x.c.length with h0 | h0; exact absurd (List.length_eq_zero_iff.1 h0) hne; exact h0)
  rw [ha] at hA
  cases hA
  exact hbl
set_option maxRecDepth 100000 in
set_option maxHeartbeats 16000000 in
theorem sp_walk (A0 : Option Addr) (cap0 : Nat) (l0 : List Sp) (A1 : Option Addr) (cap1 : Nat) (l1 : List Fv) (x0 x1 : Int) (w : World) (h0 : SRow w A0 cap0 l0) (h1 : FRow w A1 cap1 l1) (i0 : in64 x0) (i1 : in64 x1) :
    Calls Try.prog 8 #[.slice A0 l0.length cap0, .slice A1 l1.length cap1, .agg #[.int .i64 x0, .int .i64 x1]] w fun e w' => e = .returned (.bool true) ∧ Below w.heap.size w w' := by
  obtain ⟨t0, hi, hz0, hz1, hz2⟩ := info_parts infoRs
  obtain ⟨j0, hj, hy0, hy1, hy2⟩ := info_parts infoJs
  have AW := Lib.hid (fun W => awake_any W)
  have KF := Lib.hid (fun (W : World) (hb : Below w.heap.size w W) => few_any A1 cap1 l1 W (h1.later hb))
  have KS := Lib.hid (fun (W : World) (hb : Below w.heap.size w W) => set_any 5 (by omega) (by omega) A0 cap0 l0 x0 W (h0.later hb) i0)
  have I0 := Lib.hid i0
  have I1 := Lib.hid i1
  clear h0 h1 i0 i1
  go_enter Try.func8, Try.ntmps8
  go_upto_region 2 with (go_at_call 10; (with_reducible refine (AW.out _).mono ?_); rintro e w1 ⟨rfl, hb1⟩)
  obtain ⟨hq1, hB1⟩ := arr2 hb1
  obtain ⟨k0, k1⟩ := hq1
  have HQ1 : Hid (Q2 w.heap.size x0 x1 w1) := Lib.hid ⟨k0, k1⟩
  have B1 := Lib.hid hB1
  clear hb1 hB1
  go_upto_region 3 with (go_at_call 12; (with_reducible refine (KS.out _ B1.out).mono ?_); rintro e w2 ⟨As, cs, ss, rfl, hRs, hs1, hs5, hsd, hsf, hsp, h2⟩; have RS := Lib.hid hRs; have HOK := Lib.hid (set_ok hs1 (by omega) hsd hsf hsp); have B2 := Lib.hid (B1.out.trans (h2.mono B1.out.size)); have HQ2 := Lib.hid (HQ1.out.step h2); have HS1 := Lib.hid hs1; have HS5 := Lib.hid hs5; clear hRs hs1 hs5 hsd hsf hsp h2)
  clear k0 k1
  go_upto_region 4 with (go_at_call 11; (with_reducible refine (KF.out _ B2.out).mono ?_); rintro e w3 ⟨vr, gr, rfl, hGr, hgr, h3⟩; have HGR := Lib.hid hGr; have HGRX := Lib.hid hgr; have H3 := Lib.hid h3; clear hGr hgr h3)
  obtain ⟨Ar, cr, rfl, FR0⟩ := HGR.out.frow
  rw [HGRX.out] at FR0
  have hgl : gr.length = (fewS l1).length := by rw [← HGRX.out, List.length_map]
  have h12 := fewS_len l1
  rw [hgl]
  clear hgl HGR HGRX
  obtain ⟨fs, hfs⟩ : ∃ fs, fewS l1 = fs := ⟨_, rfl⟩
  rw [hfs] at FR0 h12 ⊢
  obtain ⟨n, hn⟩ : ∃ n, fs.length = n := ⟨_, rfl⟩
  have hcr := FR0.le
  have hcm := FR0.mx
  rw [hn] at h12 hcr ⊢
  have B3 := Lib.hid (B2.out.trans (H3.out.mono B2.out.size))
  have RS3 := Lib.hid (RS.out.later H3.out)
  have HQ3 := Lib.hid (HQ2.out.step H3.out)
  have FR3 := Lib.hid FR0
  obtain ⟨js, hjs⟩ : ∃ js, decF ss [] fs = js := ⟨_, rfl⟩
  have hjl : js.length = n := by rw [← hjs, decF_len, ← hn]; simp
  have hdr : decR ss fs = js := by rw [decR_small HOK.out (by omega), hjs]
  have K5 := decode_len As Ar cs cr ss fs ss.length n w3 rfl hn RS3.out FR0
  rw [hdr] at K5
  obtain ⟨k, hk⟩ : ∃ k : Nat, x0 % ((n : Int) + 1) = (k : Int) := ⟨(x0 % ((n : Int) + 1)).toNat, by have := Int.emod_nonneg x0 (show ((n : Int) + 1) ≠ 0 by omega); omega⟩
  have hkn : k ≤ n := by have := Int.emod_lt_of_pos x0 (show (0 : Int) < (n : Int) + 1 by omega); omega
  have K4 := fun W => lrest_any x0 ((n : Int) + 1) W I0.out (by omega) (by omega)
  rw [hk] at K4
  have hdk : decR ss (fs.take k) = js.take k := by
    rw [decR_small HOK.out (by rw [List.length_take]; omega), decF_take, hjs]; simp
  have K6 := fun (W : World) (hb : Below w3.heap.size w3 W) => decode_len As Ar cs cr ss (fs.take k) ss.length k W rfl (by rw [List.length_take]; omega) (RS3.out.later hb) ((FR3.out.take k).later hb)
  rw [hdk] at K6
  have K4 := Lib.hid K4
  have K5 := Lib.hid K5
  have K6 := Lib.hid K6
  have hsl1 := fun W => slice_raw Ar n cr k (by omega) W
  obtain ⟨q0, q1⟩ := HQ3.out
  have HJS := Lib.hid hjs
  have HJL := Lib.hid hjl
  have HN := Lib.hid hn
  clear FR0 hk hjs hjl hn hdr hdk hfs B2 B1 HQ1 HQ2 RS H3
  go_upto_region 6 with (first
    | (go_at_call 21; (with_reducible refine (K4.out _).mono ?_); rintro e wx ⟨rfl, rfl⟩)
    | (go_at_call 14; (with_reducible refine K5.out.mono ?_); rintro e w5 ⟨v5, g5, rfl, hG5, hg5, h5⟩; have HG5 := Lib.hid hG5; have HGX5 := Lib.hid hg5; have H5 := Lib.hid h5; clear hG5 hg5 h5))
  obtain ⟨A5, c5, rfl, F5⟩ := HG5.out.frow
  rw [HGX5.out] at F5
  have hl5 : g5.length = n := by rw [← HJL.out, ← HGX5.out, List.length_map]
  rw [hl5]
  have hc5 := F5.le
  have hm5 := F5.mx
  rw [HJL.out] at hc5
  have F5 := Lib.hid F5
  have hsl2 := fun W => slice_job A5 n c5 k (by omega) W
  clear hl5 HG5 HGX5 K5
  go_upto_region 7 with (go_at_call 14; (with_reducible refine (K6.out _ H5.out).mono ?_); rintro e w6 ⟨v6, g6, rfl, hG6, hg6, h6⟩; have HG6 := Lib.hid hG6; have HGX6 := Lib.hid hg6; have H6 := Lib.hid h6; clear hG6 hg6 h6)
  obtain ⟨A6, c6, rfl, F6⟩ := HG6.out.frow
  rw [HGX6.out] at F6
  have hl6 : g6.length = k := by
    have := congrArg List.length HGX6.out
    rw [List.length_map, List.length_take, HJL.out] at this
    omega
  rw [hl6]
  have KE := Lib.hid (same_len A6 A5 c6 c5 (js.take k) k k w6 (by rw [List.length_take, HJL.out]; omega) (by rw [List.length_take, HJL.out]; omega) F6 ((F5.out.take k).later H6.out))
  clear hl6 HG6 HGX6 K6 F6
  obtain ⟨T, hT⟩ : ∃ T, x1 % (ss.length : Int) = T := ⟨_, rfl⟩
  have hs1 := HS1.out
  have hs5 := HS5.out
  have K10 := fun W => lrest_any x1 (ss.length : Int) W I1.out (by omega) (by omega)
  rw [hT] at K10
  have K10 := Lib.hid K10
  have H36 := Lib.hid (bel_step H5.out H6.out)
  clear hT q0 q1 hsl1
  go_upto_region 10 with (go_at_call 13; (with_reducible refine KE.out.mono ?_); rintro e w7 ⟨rfl, h7⟩; have H37 := Lib.hid (bel_step H36.out h7); have F57 := Lib.hid (F5.out.later (bel_step H6.out h7)); clear h7)
  obtain ⟨q0, q1⟩ := HQ3.out.step H37.out
  go_upto_region 11 with (go_at_call 21; (with_reducible refine (K10.out _).mono ?_); rintro e wx ⟨rfl, rfl⟩)
  have FR7 := Lib.hid (FR3.out.later H37.out)
  have RS7 := Lib.hid (RS3.out.later H37.out)
  have B7 := Lib.hid (B3.out.trans (H37.out.mono B3.out.size))
  clear q0 q1 KE K10 K4 hsl2 F5 FR3 RS3 H5 H6 H36 H37 B3 HQ3 AW KF KS
  obtain ⟨BB, hBB⟩ : ∃ BB, w7.heap.size = BB := ⟨_, rfl⟩
  have HBB := Lib.hid hBB
  have hjl := HJL.out
  have KRr := Lib.hid (fun (W : World) (x : Int) (hx : in64 x) => lrest_any x (ss.length : Int) W hx (by omega) (by omega))
  have HF0 : Hid (POwn 49 BB w7 (.slice none 0 0) []) := Lib.hid ⟨[], FOwn.nil _ _ _, rfl, by simp⟩
  have HL0 : Hid (POwn 40 BB w7 (.slice none 0 0) []) := Lib.hid ⟨[], FOwn.nil _ _ _, rfl, by simp⟩
  have HB0 : Hid (Below BB w7 w7) := Lib.hid (Below.refl _ _)
  clear hBB
  go_upto_region 14 with (fail)
  go_wp2
  go_loopw [15, 16, 17] (fun v u i wr => ∃ k : Nat, k ≤ n ∧ i = .int .i64 k ∧ Hid (POwn 49 BB wr v ((fs.take k).filter (fun r => r.t % (ss.length : Int) != T))) ∧ Hid (POwn 40 BB wr u ((js.take k).filter (fun j => j.t != T))) ∧ Hid (Below BB w7 wr)) (fun _ _ i _ => n - (intOf i).toNat)
  case atStart => exact ⟨0, Nat.zero_le _, rfl, HF0, HL0, HB0⟩
  case round =>
    obtain ⟨m, hm, rfl, hF, hL, hB⟩ := hrel
    by_cases hlt : m < n
    · obtain ⟨rb, ro, x, C, cc, rfl, hx, hrb, hFx⟩ := FR7.out.get (k := m) (by rw [HN.out]; exact hlt)
      obtain ⟨jb, jo, y, D, dc, rfl, hy, hjb, hFy⟩ := F57.out.get (k := m) (by rw [HJL.out]; exact hlt)
      have hyt : y.t = x.t % (ss.length : Int) := by
        have := decF_t ss fs [] m x hx
        rw [HJS.out, List.length_nil, Nat.zero_add, hy] at this
        simpa using this
      have hB' : Below w7.heap.size w7 wr := by rw [HBB.out]; exact hB.out
      have hFx1 := hFx.later hB'
      have hsx : x.c ≠ [] → ∀ a, C = some a → a.block < BB := by rw [← HBB.out]; exact hFx.cut_lt
      have hsy : y.c ≠ [] → ∀ a, D = some a → a.block < BB := by rw [← HBB.out]; exact hFy.cut_lt
      have c0 := hFx1.c0
      have c1 := hFx1.c1
      have c2 := hFx1.c2
      have c3 := hFx1.c3
      have c4 := hFx1.c4
      have hi0 : (0 : Int) ≤ (m : Int) := by omega
      have hi1 : (m : Int) < (n : Int) := by omega
      have hxw := hFx.wf.t
      have K16 := Lib.hid (fun W => KRr.out W x.t hxw)
      have htx := Lib.hid (take_one hx)
      have hty := Lib.hid (take_one hy)
      have HSX := Lib.hid hsx
      have HSY := Lib.hid hsy
      have HYT := Lib.hid hyt
      have HFX := Lib.hid hFx
      have HFY := Lib.hid hFy
      have HBW := Lib.hid hB'
      have HBA := Lib.hid hB.out
      clear hFx hFy hFx1 hx hy hsx hsy hyt hB' hxw
      by_cases hne : x.t % (ss.length : Int) = T
      · have hbf : (x.t % (ss.length : Int) != T) = false := by simp [hne]
        have HNE := Lib.hid hne
        have e1 : (fs.take (m + 1)).filter (fun r => r.t % (ss.length : Int) != T) = (fs.take m).filter (fun r => r.t % (ss.length : Int) != T) := by
          rw [htx.out, List.filter_append, List.filter_cons_of_neg (by rw [HNE.out]; simp)]
          simp
        have e2 : (js.take (m + 1)).filter (fun j => j.t != T) = (js.take m).filter (fun j => j.t != T) := by
          rw [hty.out, List.filter_append, List.filter_cons_of_neg (by rw [HYT.out, HNE.out]; simp)]
          simp
        have E1 := Lib.hid e1
        have E2 := Lib.hid e2
        clear e1 e2 hne
        go_wp2_with (go_at_call 21; (with_reducible refine (K16.out _).mono ?_); rintro e wx ⟨rfl, rfl⟩)
        go_roundw
        case rel => exact ⟨m + 1, by omega, by go_num, by rw [E1.out]; exact hF, by rw [E2.out]; exact hL, HBA⟩
        case measure => simp [intOf]; omega
      · have hbt : (x.t % (ss.length : Int) != T) = true := by simp [hne]
        have HNE := Lib.hid hne
        obtain ⟨gs, hG, hgs, hgo⟩ := hF.out.is
        obtain ⟨gu, hU, hgu, huo⟩ := hL.out.is
        have hgl : gs.length ≤ 12 := by
          have h1 := congrArg List.length hgs
          rw [List.length_map] at h1
          have h2 := List.length_filter_le (fun r : Fv => r.t % (ss.length : Int) != T) (fs.take m)
          rw [List.length_take] at h2
          omega
        have hul : gu.length ≤ 12 := by
          have h1 := congrArg List.length hgu
          rw [List.length_map] at h1
          have h2 := List.length_filter_le (fun r : Fv => r.t != T) (js.take m)
          rw [List.length_take] at h2
          omega
        have HFA := Lib.hid (fun j u hu => by
          have := (FAt.new wr x C cc 49 HFX.out.wf (HFX.out.later HBW.out).s).r j u hu
          rw [Nat.zero_add] at this
          rw [add_none, Nat.zero_add]
          exact this : ∀ j u, (fvL x C cc)[j]? = some u → (wr.alloc (.cells #[.int .i64 x.t, .int .i64 x.a, .int .i64 x.r, .int .i64 x.k, .slice C x.c.length cc] 49)).cell? ((⟨wr.heap.size, 0, none⟩ : Addr).add j) = some u)
        have HG := Lib.hid hG
        have HU := Lib.hid hU
        have HGS := Lib.hid hgs
        have HGU := Lib.hid hgu
        have HGO := Lib.hid hgo
        have HUO := Lib.hid huo
        have HGL := Lib.hid hgl
        have HUL := Lib.hid hul
        have hbs : BB ≤ wr.heap.size := by rw [← HBB.out]; exact HBW.out.size
        have HBS := Lib.hid hbs
        clear hG hU hgs hgu hgo huo hF hL hgl hul hbs hne
        go_upto_region 18 with (first
          | (go_at_call 21; (with_reducible refine (K16.out _).mono ?_); rintro e wx ⟨rfl, rfl⟩)
          | (at_builtin; refine wpList_append_own _ rfl _ _ 23 rfl BB 49 t0 _ 5 56 Try.underlying23 hi hz0 hz1 hz2 rfl (by decide) _ gs.length (gvC gs) rfl (HG.out.row.alloc _) ⟨wr.heap.size, 0, none⟩ 1 1 (fvL x C cc) rfl rfl HFA.out (fvL_one _ _ _) (by have := HGL.out; unfold maxLen; omega) (by have := HGL.out; omega) (by have := HBS.out; simp; omega) ?_; intro v' w8 hown' hgrow hnil'; have HOWN := Lib.hid hown'; have HGROW := Lib.hid hgrow; clear hown' hgrow hnil'))
        have ba : Below wr.heap.size wr (wr.alloc (.cells #[.int .i64 x.t, .int .i64 x.a, .int .i64 x.r, .int .i64 x.k, .slice C x.c.length cc] 49)) := (Below.refl _ _).alloc (Nat.le_refl _) _
        have hG8 := (HG.out.later ba).push (((HFX.out.later HBW.out).later ba).gok _ HSX.out) HOWN.out HGROW.out
        have hU8 := (HU.out.later ba).side HUO.out (HG.out.later ba).row (Nat.le_refl _) (by decide) HGROW.out
        have hB8 : Below BB w7 w8 := (HBA.out.trans (ba.mono HBS.out)).grown HGROW.out (by have := HBS.out; simp; omega) (fun q hq => (HG.out.row.lt q hq).1)
        have hB8' : Below w7.heap.size w7 w8 := by rw [HBB.out]; exact hB8
        have hFy8 := HFY.out.later hB8'
        have d0 := hFy8.c0
        have d1 := hFy8.c1
        have d2 := hFy8.c2
        have d3 := hFy8.c3
        have d4 := hFy8.c4
        have HG8 := Lib.hid hG8
        have HU8 := Lib.hid hU8
        have HB8 := Lib.hid hB8
        have HFY8 := Lib.hid hFy8
        have hbs8 : BB ≤ w8.heap.size := by rw [← HBB.out]; exact hB8'.size
        have HBS8 := Lib.hid hbs8
        have HFA8 := Lib.hid (fun j u hu => by
          have := (FAt.new w8 y D dc 40 hFy8.wf hFy8.s).r j u hu
          rw [Nat.zero_add] at this
          rw [add_none, Nat.zero_add]
          exact this : ∀ j u, (fvL y D dc)[j]? = some u → (w8.alloc (.cells #[.int .i64 y.t, .int .i64 y.a, .int .i64 y.r, .int .i64 y.k, .slice D y.c.length dc] 40)).cell? ((⟨w8.heap.size, 0, none⟩ : Addr).add j) = some u)
        clear c0 c1 c2 c3 c4 ba hG8 hU8 hB8 hB8' hFy8 hbs8
        go_wp2_with (at_builtin; refine wpList_append_own _ rfl _ _ 29 rfl BB 40 j0 _ 5 56 Try.underlying29 hj hy0 hy1 hy2 rfl (by decide) _ gu.length (gvC gu) rfl (HU8.out.row.alloc _) ⟨w8.heap.size, 0, none⟩ 1 1 (fvL y D dc) rfl rfl HFA8.out (fvL_one _ _ _) (by have := HUL.out; unfold maxLen; omega) (by have := HUL.out; omega) (by have := HBS8.out; simp; omega) ?_; intro u' w9 hown' hgrow hnil'; have HOWN9 := Lib.hid hown'; have HGROW9 := Lib.hid hgrow; clear hown' hgrow hnil')
        go_roundw
        case rel =>
          have ba : Below w8.heap.size w8 (w8.alloc (.cells #[.int .i64 y.t, .int .i64 y.a, .int .i64 y.r, .int .i64 y.k, .slice D y.c.length dc] 40)) := (Below.refl _ _).alloc (Nat.le_refl _) _
          have hU9 := (HU8.out.later ba).push ((HFY8.out.later ba).gok _ HSY.out) HOWN9.out HGROW9.out
          have hgo9 : ∀ g ∈ gs ++ [⟨x, C, cc⟩], g.x.c ≠ [] → ∀ a, g.A = some a → a.block < BB := fun g hg => by
            rcases List.mem_append.1 hg with hg | hg
            · exact HGO.out g hg
            · rw [List.mem_singleton] at hg; subst hg; exact HSX.out
          have huo9 : ∀ g ∈ gu ++ [⟨y, D, dc⟩], g.x.c ≠ [] → ∀ a, g.A = some a → a.block < BB := fun g hg => by
            rcases List.mem_append.1 hg with hg | hg
            · exact HUO.out g hg
            · rw [List.mem_singleton] at hg; subst hg; exact HSY.out
          have hG9 := (HG8.out.later ba).side hgo9 (HU8.out.later ba).row (Nat.le_refl _) (by decide) HGROW9.out
          have hB9 : Below BB w7 w9 := (HB8.out.trans (ba.mono HBS8.out)).grown HGROW9.out (by have := HBS8.out; simp; omega) (fun q hq => (HU8.out.row.lt q hq).1)
          refine ⟨m + 1, by omega, by go_num, Lib.hid ⟨_, hG9, ?_, hgo9⟩, Lib.hid ⟨_, hU9, ?_, huo9⟩, Lib.hid hB9⟩
          · rw [htx.out, List.filter_append, List.map_append, HGS.out, List.filter_cons_of_pos (by simp; exact HNE.out)]
            rfl
          · rw [hty.out, List.filter_append, List.map_append, HGU.out, List.filter_cons_of_pos (by rw [HYT.out]; simp; exact HNE.out)]
            rfl
        case measure => simp [intOf]; omega
    · obtain rfl : m = n := by omega
      obtain ⟨gs, hG, hgs, hgo⟩ := hF.out.is
      obtain ⟨gu, hU, hgu, huo⟩ := hL.out.is
      obtain ⟨Af, cf, rfl, Ff⟩ := hG.frow
      obtain ⟨Al, cl, rfl, Fl⟩ := hU.frow
      rw [List.take_of_length_le (by rw [HN.out]; exact Nat.le_refl _)] at hgs
      rw [hgs] at Ff
      rw [List.take_of_length_le (by rw [HJL.out]; exact Nat.le_refl _)] at hgu
      rw [hgu] at Fl
      have hB' : Below w7.heap.size w7 wr := by rw [HBB.out]; exact hB.out
      have hdf : decR ss (fs.filter (fun r => r.t % (ss.length : Int) != T)) = js.filter (fun j => j.t != T) := by
        have hle := List.length_filter_le (fun r : Fv => r.t % (ss.length : Int) != T) fs
        rw [decR_small HOK.out (by have := HN.out; omega)]
        have := decF_filter ss T fs []
        rw [List.filter_nil, HJS.out] at this
        exact this
      have K19 := decode_len As Af cs cf ss _ ss.length gs.length wr rfl (by rw [← hgs, List.length_map]) (RS7.out.later hB') Ff
      rw [hdf] at K19
      have HLG := Lib.hid (show (js.filter (fun j => j.t != T)).length = gu.length by rw [← hgu, List.length_map])
      have K19 := Lib.hid K19
      have FL := Lib.hid Fl
      have HBW := Lib.hid hB'
      have hmm : decide ((m : Int) < (m : Int)) = false := decide_eq_false (by omega)
      clear hG hU hgs hgu hgo huo hF hL Ff Fl hB' hdf
      go_upto_region 20 with (first
        | (go_at_call 14; (with_reducible refine K19.out.mono ?_); rintro e wa ⟨va, ga, rfl, hGa, hga, ha⟩; obtain ⟨Aa, ca, rfl, Fa⟩ := hGa.frow; rw [hga] at Fa; have KE := Lib.hid (same_len Aa Al ca cl _ ga.length gu.length wa (by rw [← hga, List.length_map]) HLG.out Fa (FL.out.later ha)); have HA := Lib.hid (bel_step HBW.out ha); clear hGa hga ha Fa)
        | (go_at_call 13; (with_reducible refine KE.out.mono ?_); rintro e wb ⟨rfl, hb⟩; have HBf := Lib.hid (bel_step HA.out hb); clear hb))
      go_wp2
      go_ret
      exact ⟨rfl, B7.out.trans (HBf.out.mono B7.out.size)⟩
end Go.Proofs.Ythfiodjhjhpiaaa
