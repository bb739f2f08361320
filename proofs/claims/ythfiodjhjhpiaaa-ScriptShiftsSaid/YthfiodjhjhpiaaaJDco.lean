/- Decode: the walk. -/
import Derived.Test.YthfiodjhjhpiaaaJArr
import Derived.Deep.RegionHeldLaw
namespace Go.Proofs.Ythfiodjhjhpiaaa
open Go.RowKit
set_option linter.unusedVariables false
set_option linter.unusedSimpArgs false

set_option maxRecDepth 100000 in
set_option maxHeartbeats 4000000 in
theorem decode_bad (A R : Option Addr) (cap rc : Nat) (ts : List Ts) (rs : List Fv) (w : World) (hT : Row w A cap ts) (h0 : (chkAll ts).2 ≠ 0) :
    Calls Try.prog 14 #[.slice A ts.length cap, .slice R rs.length rc] w (DecodePost [] w) := by
  have K := mayBe_any A cap ts w hT
  rw [decide_eq_false h0] at K
  have K := Lib.hid K
  clear h0
  go_enter Try.func14, Try.ntmps14
  go_wp2_with (go_at_call 25; (with_reducible refine K.out.mono ?_); rintro e w1 ⟨rfl, h1⟩)
  go_ret
  exact ⟨_, [], rfl, FOwn.nil _ _ _, rfl, h1⟩

set_option maxRecDepth 100000 in
set_option maxHeartbeats 8000000 in
theorem decode_good (A R : Option Addr) (cap rc : Nat) (ts : List Ts) (rs : List Fv) (w : World) (hT : Row w A cap ts) (hR : FRow w R rc rs) (h0 : (chkAll ts).2 = 0) :
    Calls Try.prog 14 #[.slice A ts.length cap, .slice R rs.length rc] w (DecodePost (decS ts rs) w) := by
  obtain ⟨i0, hi, hz0, hz1, hz2⟩ := info_parts infoJs
  have hv := vs_of h0
  have K := mayBe_any A cap ts w hT
  rw [decide_eq_true h0] at K
  have hle := hR.le
  have hmx := hR.mx
  have hn0 := hv.n0
  have hn1 := hv.n1
  have HV := Lib.hid hv
  have ROW := Lib.hid hT
  have RAW := Lib.hid hR
  have K := Lib.hid K
  clear h0 hT hR hv
  obtain ⟨n, hn⟩ : ∃ n, n = min rs.length 4096 := ⟨_, rfl⟩
  have hnl : (rs.take 4096).length = n := by rw [List.length_take]; omega
  have hmin : min (rs.length : Int) 4096 = (n : Int) := by omega
  have hn2 : n ≤ rs.length := by omega
  have hn3 : n ≤ rc := by omega
  have hn4 : n ≤ 4096 := by omega
  have HN := Lib.hid hn
  have HNL := Lib.hid hnl
  clear hn hnl
  have hmm := @run_makeMap Try.prog
  go_enter Try.func14, Try.ntmps14
  go_upto_region 5 with (go_at_call 25; (with_reducible refine K.out.mono ?_); rintro e w1 ⟨rfl, h1⟩)
  have A0 := Arr.new A ts.length cap w1
  have B0 : Below w.heap.size w ((w1.alloc (.map #[] 0)).alloc (.cells #[.slice A ts.length cap, .map (some w1.heap.size)] 57)) := (h1.alloc h1.size _).alloc (by have := h1.size; simp; omega) _
  have HM := h1.size
  generalize ((w1.alloc (.map #[] 0)).alloc (.cells #[.slice A ts.length cap, .map (some w1.heap.size)] 57)) = W0 at *
  generalize w1.heap.size = M at *
  have A0 := Lib.hid A0
  have B0 := Lib.hid B0
  clear hmm h1
  go_wp2
  go_loopw [5, 23] (fun v i wr => ∃ k : Nat, k ≤ n ∧ i = .int .i64 k ∧ Hid (DIn w A ts.length cap M wr v (decF ts [] ((rs.take 4096).take k)))) (fun _ i _ => n - (intOf i).toNat)
  case atStart => exact ⟨0, Nat.zero_le _, rfl, Lib.hid ⟨⟨[], FOwn.nil _ _ _, rfl⟩, A0.out, B0.out, HM⟩⟩
  case round =>
    obtain ⟨k, hk, rfl, hI⟩ := hrel
    by_cases hlt : k < n
    · obtain ⟨rb, ro, x, C, cc, rfl, hx, hrb, hF⟩ := RAW.out.get (k := k) (by omega)
      have hF := hF.later hI.out.bel
      have c0 := hF.c0
      have c1 := hF.c1
      have c2 := hF.c2
      have c3 := hF.c3
      have c4 := hF.c4
      have hi0 : (0 : Int) ≤ (k : Int) := by omega
      have hi1 : (k : Int) < (n : Int) := by omega
      have hi2 : (k : Int) < (rc : Int) := by omega
      have K2 := Lib.hid (fun W => srest_any x.t (ts.length : Int) W hF.wf.t (by omega) (by omega))
      have hpb := emod_bd x.t (ts.length : Int) (by omega)
      obtain ⟨p, hp⟩ : ∃ p : Nat, x.t % (ts.length : Int) = (p : Int) := ⟨(x.t % (ts.length : Int)).toNat, by omega⟩
      rw [hp] at K2 hpb
      have HP := Lib.hid hp
      have HF := Lib.hid hF
      have HX := Lib.hid hx
      clear hp hF hx
      go_upto_region 8 with (fail)
      have F1 := Lib.hid (FAt.new wr x C cc 49 HF.out.wf HF.out.s)
      have B1 : Hid (Below wr.heap.size wr (wr.alloc (.cells #[.int .i64 x.t, .int .i64 x.a, .int .i64 x.r, .int .i64 x.k, .slice C x.c.length cc] 49))) := Lib.hid ((Below.refl _ _).alloc (Nat.le_refl _) _)
      generalize hW1 : (wr.alloc (.cells #[.int .i64 x.t, .int .i64 x.a, .int .i64 x.r, .int .i64 x.k, .slice C x.c.length cc] 49)) = W1 at *
      have hb8 : M + 1 < wr.heap.size := hI.out.arr.lt
      have BW := Lib.hid (hI.out.bel.trans (B1.out.mono hI.out.bel.size))
      have AW := Lib.hid (hI.out.arr.later B1.out)
      generalize hb8e : wr.heap.size = b8 at *
      have HB8 := Lib.hid hb8e
      clear hb8e
      clear c0 c1 c2 c3 c4 hW1
      obtain ⟨f0, f1, f2, f3, f4⟩ := F1.out.z
      go_upto_region 9 with (go_at_call 26; (with_reducible refine (K2.out _).mono ?_); rintro e w2 ⟨rfl, rfl⟩)
      clear f0 f1 f2 f3 f4
      obtain ⟨tb, tq, y, rfl, hy, hyw, htb, hT⟩ := ROW.out.get (k := p) (by omega)
      have hyt : tk ts (p : Int) = y := tk_get hy
      have hyo := HV.out.tk (p : Int)
      rw [hyt] at hyo
      have hT1 := hT.later BW.out
      have HDm := Lib.hid (D9.mk hT1 F1.out AW.out)
      have HD0 := Lib.hid (D9.step HDm.out (below_drew W1))
      have hgood := decF_good HV.out ((rs.take 4096).take k) (by rw [List.length_take, List.length_take]; omega)
      obtain ⟨js, hjs⟩ : ∃ js, decF ts [] ((rs.take 4096).take k) = js := ⟨_, rfl⟩
      rw [hjs] at hI AW hgood
      have hjl : js.length ≤ 4096 := by rw [← hjs, decF_len]; simp; omega
      have hbd : Bd js := by rw [← hjs]; exact decF_bd HV.out _ [] Bd.nil
      have hsb := soon_bd HV.out hbd (p : Int)
      have KS : Hid (∀ W, D9 W1 tb (tq + p * 7) b8 M y x C cc (some ⟨tb, tq, none⟩) ts.length cap W → Calls Try.prog 28 #[.agg #[.slice (some ⟨tb, tq, none⟩) ts.length cap, .map (some M)], .int .i64 (p : Int)] W fun e w' => e = .returned (.int .i64 (soonI ts js p)) ∧ Below W.heap.size W w') :=
        Lib.hid fun W hD => (AW.out.later hD.lt).soon (((ROW.out.later BW.out)).later hD.lt) HV.out (p : Int) hgood
      have hs0 : 0 ≤ soonI ts js p := hsb.1
      have hs1 : soonI ts js p ≤ 35184372088832 := by omega
      have KD : Hid (∀ W, D9 W1 tb (tq + p * 7) b8 M y x C cc (some ⟨tb, tq, none⟩) ts.length cap W → Calls Try.prog 27 #[tsV y, fvV x C cc, .int .i64 (soonI ts js p)] W (DecPost ⟨0, soonI ts js p + x.a % 1048576, soonI ts js p + x.a % 1048576 + x.r % (y.j + 1), 1 + x.k % y.c, secs y.q (1 + x.k % y.c) x.c⟩ W)) :=
        Lib.hid fun W hD => decoded_any y x C cc (soonI ts js p) W hyo F1.out.wf (F1.out.s.later hD.lt) hs0 hs1
      have hdj : decJ ts js x = ⟨p, soonI ts js p + x.a % 1048576, soonI ts js p + x.a % 1048576 + x.r % (y.j + 1), 1 + x.k % y.c, secs y.q (1 + x.k % y.c) x.c⟩ := by
        simp only [decJ, HP.out, hyt]
      obtain ⟨jv, hjv⟩ : ∃ jv : Fv, jv = ⟨0, soonI ts js p + x.a % 1048576, soonI ts js p + x.a % 1048576 + x.r % (y.j + 1), 1 + x.k % y.c, secs y.q (1 + x.k % y.c) x.c⟩ := ⟨_, rfl⟩
      rw [← hjv] at KD
      have HJW : Hid (FvW jv) := Lib.hid (by
        have e1 := emod_bd x.a 1048576 (by omega)
        have e2 := emod_bd x.k y.c (by have := hyo.c0; omega)
        have e3 := emod_bd x.r (y.j + 1) (by have := hyo.j0; omega)
        have e4 := hyo.c1
        have e5 := hyo.j1
        rw [hjv]
        exact ⟨⟨by show _ ≤ (0 : Int); omega, by show (0 : Int) ≤ _; omega⟩, ⟨by show _ ≤ soonI ts js p + x.a % 1048576; omega, by show soonI ts js p + x.a % 1048576 ≤ _; omega⟩, ⟨by show _ ≤ soonI ts js p + x.a % 1048576 + x.r % (y.j + 1); omega, by show soonI ts js p + x.a % 1048576 + x.r % (y.j + 1) ≤ _; omega⟩, ⟨by show _ ≤ 1 + x.k % y.c; omega, by show 1 + x.k % y.c ≤ _; omega⟩⟩)
      have hdj2 : decJ ts js x = { jv with t := (p : Int) } := by rw [hdj, hjv]
      have HDJ := Lib.hid hdj2
      have HJS := Lib.hid hjs
      have HI := hI
      generalize soonI ts js p = sp at *
      have tp0 : (0 : Int) ≤ (p : Int) := by omega
      have tp1 : (p : Int) < (ts.length : Int) := by omega
      clear hyt hyo hT hT1 hy hyw hgood hjs hjl hbd hsb hs0 hs1 hdj hdj2 hjv hI
      have B0x : ∀ V : World, Below V.heap.size V (V.alloc (.cells #[.int .i64 0, .int .i64 0, .int .i64 0, .int .i64 0, .slice none 0 0] 40)) := fun V => (Below.refl _ _).alloc (Nat.le_refl _) _
      have B0x := Lib.hid B0x
      have K1a := Lib.hid (KS.out _ HD0.out)
      have HD1 := Lib.hid (D9.step (D9.step HDm.out (B0x.out W1)) (below_drew _))
      have K1b := Lib.hid (KS.out _ HD1.out)
      go_cut [10] from 32 to 40 (fun s10 wx => ∃ b10 C3 cc3, s10 = .pointer (some ⟨b10, 0, none⟩) ∧ JB W1 wx b10 jv C3 cc3)
      case first =>
        go_region_held_law (fun W => D9 W1 tb (tq + p * 7) b8 M y x C cc (some ⟨tb, tq, none⟩) ts.length cap W)
          (first | (with_reducible assumption) | (with_reducible exact HD0.out) | (with_reducible exact (D9.step HD0.out (B0x.out _))) | (with_reducible exact HD1.out) | (with_reducible exact HD2.out) | (with_reducible exact (D9.step HD2.out (B0x.out _))) | (with_reducible exact HD3.out) | (with_reducible exact (D9.step HD3.out ((Below.refl _ _).alloc (Nat.le_refl _) _))) | (with_reducible exact (D9.set5 HD3.out HG3.out _ _ _ _ _)) | fail)
          (first
          | (go_at_call 28; (with_reducible refine K1a.out.mono ?_); rintro e w2 ⟨rfl, h2⟩; have HD2 := Lib.hid (D9.step HD0.out h2); have K2a := Lib.hid (KD.out _ HD2.out); have K2b := Lib.hid (KD.out _ (D9.step HD2.out (B0x.out _))))
          | (go_at_call 28; (with_reducible refine K1b.out.mono ?_); rintro e w2 ⟨rfl, h2⟩; have HD2 := Lib.hid (D9.step HD1.out h2); have HFB2 := Lib.hid (((FB.new W1 40 (.int .i64 0) (.int .i64 0) (.int .i64 0) (.int .i64 0) (.slice none 0 0)).later (below_drew _)).later h2); have K2a := Lib.hid (KD.out _ HD2.out))
          | (go_at_call 27; (with_reducible refine K2b.out.mono ?_); rintro e w3 ⟨C3, cc3, rfl, hC3, hs3, h3⟩; have HD3 := Lib.hid (D9.step (D9.step HD2.out (B0x.out _)) h3); have HG3 := Lib.hid (show W1.heap.size ≤ w2.heap.size from HD2.out.lt.size); have HC3 := Lib.hid hC3; have HS3 := Lib.hid hs3; have hFB := (FB.new w2 40 (.int .i64 0) (.int .i64 0) (.int .i64 0) (.int .i64 0) (.slice none 0 0)).later h3; have HFB3 := Lib.hid hFB; obtain ⟨z0, z1, z2, z3, z4⟩ := hFB.z; have y0 := hFB.fz 0; have y1 := hFB.fz 1; have y2 := hFB.fz 2; have y3 := hFB.fz 3; have y4 := hFB.fz 4; clear hC3 hs3 hFB)
          | (go_at_call 27; have hFB0 := HFB2.out; (with_reducible refine K2a.out.mono ?_); rintro e w3 ⟨C3, cc3, rfl, hC3, hs3, h3⟩; have HD3 := Lib.hid (D9.step HD2.out h3); have HG3 := Lib.hid (show W1.heap.size ≤ W1.heap.size from Nat.le_refl _); have HC3 := Lib.hid hC3; have HS3 := Lib.hid hs3; have hFB := hFB0.later h3; have HFB3 := Lib.hid hFB; obtain ⟨z0, z1, z2, z3, z4⟩ := hFB.z; have y0 := hFB.fz 0; have y1 := hFB.fz 1; have y2 := hFB.fz 2; have y3 := hFB.fz 3; have y4 := hFB.fz 4; clear hC3 hs3 hFB hFB0)
          | (go_at_call 27; (with_reducible refine K2a.out.mono ?_); rintro e w3 ⟨C3, cc3, rfl, hC3, hs3, h3⟩; have HD3 := Lib.hid (D9.step HD2.out h3); have HC3 := Lib.hid hC3; have HS3 := Lib.hid hs3; clear hC3 hs3)
          | fail)
        · go_wp2
          go_meet
          exact ⟨_, C3, cc3, rfl, JB.ofAlloc HJW.out HC3.out (fun h a ha => (HS3.out h a ha).2) HD3.out.lt⟩
        · go_wp2
          go_meet
          exact ⟨_, C3, cc3, rfl, JB.ofSet HFB3.out HJW.out HC3.out (fun h a ha => (HS3.out h a ha).2) HD3.out.lt HG3.out⟩
        · go_wp2
          go_meet
          exact ⟨_, C3, cc3, rfl, JB.ofSet HFB3.out HJW.out HC3.out (fun h a ha => (HS3.out h a ha).2) HD3.out.lt HG3.out⟩
      case rest =>
        obtain ⟨b10, C3, cc3, rfl, hJ⟩ := hcut
        have c1 := (AW.out.later hJ.bel).c0
        have c2 := (AW.out.later hJ.bel).c1
        obtain ⟨z0, z1, z2, z3, z4⟩ := hJ.fb.z
        have y0 := hJ.fb.fz 0
        have hJt := Lib.hid (hJ.setT (p : Int) ⟨by omega, by omega⟩)
        have AW2 := Lib.hid ((AW.out.later hJ.bel).kept ((Kept.refl [b10] wc).set b10 0 (.int .i64 (p : Int)) (by simp)) (by have := AW.out.lt; have := hJ.ge; simp; omega) (by have := AW.out.lt; have := hJ.ge; simp; omega))
        have hMb : M + 1 ≠ b10 := by have := AW.out.lt; have := hJ.ge; omega
        have hown := HI.out.own
        have HW := Lib.hid HI.out.bel
        have HGE := Lib.hid HI.out.ge
        have B1w := Lib.hid (B1.out)
        apply_assumption
        go_upto_region 11 with (fail)
        generalize wc.setCell ⟨b10, 0, none⟩ (.int .i64 (p : Int)) = W6 at *
        clear c1 c2 z0 z1 z2 z3 z4 y0 hJ
        have c1 := AW2.out.c0
        have c2 := AW2.out.c1
        obtain ⟨z0, z1, z2, z3, z4⟩ := hJt.out.fb.z
        have KN := Lib.hid (note_any (some ⟨tb, tq, none⟩) C3 ts.length cap cc3 M (lastF js) { jv with t := (p : Int) } W6 AW2.out.map)
        go_upto_region 12 with (go_at_call 29; (with_reducible refine KN.out.mono ?_); rintro e w7 ⟨rfl, hm7, hk7⟩)
        obtain ⟨es, mc, hMap⟩ := AW2.out.map.is
        have AW7 := Lib.hid (AW2.out.note (j := { jv with t := (p : Int) }) hm7 hk7)
        obtain ⟨gs, hG, hgs⟩ := hown
        have hG1 := hG.later (show Below wr.heap.size wr W1 by rw [HB8.out]; exact B1w.out)
        have hG6 := hG1.later hJt.out.bel
        have hG7 := hG6.map hk7 hMap HGE.out
        have hbm : b10 ∉ [M] := by have h1 := AW.out.lt; have h2 := hJt.out.ge; rw [List.mem_singleton]; omega
        have hJ7 : FB w7 b10 40 (.int .i64 (p : Int)) (.int .i64 jv.a) (.int .i64 jv.r) (.int .i64 jv.k) (.slice C3 jv.c.length cc3) := hJt.out.fb.kept hk7 hbm
        have hcx : ∀ k ∈ [M], ∀ o, W6.cell? ⟨k, o, none⟩ = none := fun k hk o => by rw [List.mem_singleton] at hk; subst hk; exact cell_of_map hMap o
        have hC7 : CRow w7 C3 cc3 jv.c := hJt.out.s.cells (cells_kept hk7 hcx)
        have hT7 : jv.c ≠ [] → ∀ a, C3 = some a → ∃ cs fr, w7.heap[a.block]? = some (.cells cs 2 fr) := fun h a ha => by
          obtain ⟨cs, fr, ht⟩ := hJt.out.ty h a ha
          refine ⟨cs, fr, (hk7.block a.block (Array.getElem?_eq_some_iff.1 ht).1 (fun hm => ?_)).trans ht⟩
          rw [List.mem_singleton] at hm
          rw [hm, hMap] at ht
          cases ht
        have hO7 : GOk 40 w.heap.size w7 ⟨{ jv with t := (p : Int) }, C3, cc3⟩ := ⟨hJt.out.wf, hC7, fun h a ha => by
          obtain ⟨cs, fr, ht⟩ := hT7 h a ha
          exact .inr ⟨cs, _, fr, ht, by decide⟩⟩
        have hB7 : Below w.heap.size w w7 := ((HW.out.trans ((show Below wr.heap.size wr W1 by rw [HB8.out]; exact B1w.out).mono HW.out.size)).trans (hJt.out.bel.mono (by have := B1w.out.size; have := HW.out.size; have := HB8.out; omega))).trans (hk7.below (by have h1 := hJt.out.bel.size; have := B1w.out.size; have := HW.out.size; have := HB8.out; omega) (by simp; exact HGE.out))
        obtain ⟨z0, z1, z2, z3, z4⟩ := hJ7.z
        have hlen : gs.length = k := by
          have h1 := congrArg List.length hgs
          rw [List.length_map] at h1
          rw [h1, ← HJS.out, decF_len]
          simp
          have := HNL.out
          omega
        have HLEN := Lib.hid hlen
        have HG7 := Lib.hid hG7
        have HO7 := Lib.hid hO7
        have HB7 := Lib.hid hB7
        have HGS := Lib.hid hgs
        have hFA := fun (V : World) => FAt.new V { jv with t := (p : Int) } C3 cc3 40
        have HFA := Lib.hid (fun j u hu => by
          have := (FAt.new w7 { jv with t := (p : Int) } C3 cc3 40 hJt.out.wf hC7).r j u hu
          rw [Nat.zero_add] at this
          rw [add_none, Nat.zero_add]
          exact this : ∀ j u, (fvL { jv with t := (p : Int) } C3 cc3)[j]? = some u → (w7.alloc (.cells #[.int .i64 (p : Int), .int .i64 jv.a, .int .i64 jv.r, .int .i64 jv.k, .slice C3 jv.c.length cc3] 40)).cell? ((⟨w7.heap.size, 0, none⟩ : Addr).add j) = some u)
        clear hG hgs hG1 hG6 hG7 hbm hJ7 hcx hC7 hT7 hO7 hB7 hlen hFA hm7 hk7 hMap c1 c2
        go_wp2_with (refine wpList_append_own _ rfl _ _ 29 rfl w.heap.size 40 i0 _ 5 56 Try.underlying29 hi hz0 hz1 hz2 rfl (by decide) _ gs.length (gvC gs) rfl (HG7.out.row.alloc _) ⟨w7.heap.size, 0, none⟩ 1 1 (fvL { jv with t := (p : Int) } C3 cc3) rfl rfl HFA.out (fvL_one _ _ _) (by have := HLEN.out; unfold maxLen; omega) (by have := HLEN.out; omega) (by have := HB7.out.size; simp; omega) ?_; intro v' w8 hown' hgrow hnil')
        go_roundw
        case rel =>
          have ba : Below w7.heap.size w7 (w7.alloc (.cells #[.int .i64 (p : Int), .int .i64 jv.a, .int .i64 jv.r, .int .i64 jv.k, .slice C3 jv.c.length cc3] 40)) := (Below.refl _ _).alloc (Nat.le_refl _) _
          have hG8 := (HG7.out.later ba).push (HO7.out.kept fun b hl _ => ba.block b hl) hown' hgrow
          have hL8 : Below w.heap.size w w8 := (HB7.out.trans (ba.mono HB7.out.size)).grown hgrow (by have := HB7.out.size; simp; omega) (fun q hq => (HG7.out.row.lt q hq).1)
          refine ⟨k + 1, by omega, by go_num, Lib.hid ⟨⟨_, hG8, ?_⟩, ?_, hL8, HGE.out⟩⟩
          · have hx4 : (rs.take 4096)[k]? = some x := by rw [List.getElem?_take_of_lt (by omega)]; exact HX.out
            rw [take_one hx4, decF_snoc, HJS.out, HDJ.out, List.map_append, HGS.out]
            rfl
          · have hx4 : (rs.take 4096)[k]? = some x := by rw [List.getElem?_take_of_lt (by omega)]; exact HX.out
            rw [take_one hx4, decF_snoc, HJS.out, HDJ.out]
            exact (AW7.out.later ba).grown (HG7.out.later ba).row (by decide) hgrow
        case measure => simp [intOf]; omega
    · obtain rfl : k = n := by omega
      obtain ⟨gs, hG, hgs⟩ := hI.out.own
      have HB := Lib.hid hI.out.bel
      have HG := Lib.hid hG
      have HGS := Lib.hid hgs
      clear hG hgs hI
      go_wp2
      go_ret
      refine ⟨_, gs, rfl, HG.out, ?_, HB.out⟩
      rw [HGS.out, decS, List.take_of_length_le (by rw [HNL.out]; exact Nat.le_refl _)]
end Go.Proofs.Ythfiodjhjhpiaaa
