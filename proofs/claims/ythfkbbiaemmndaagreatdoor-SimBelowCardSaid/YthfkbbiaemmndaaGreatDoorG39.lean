/- Texts about the program, one after the other: JDco, YLat, YRun, JEnc, JEn2. -/
import Derived.Deep.RegionHeldLaw
import Derived.WalkKit
import Derived.ProofKit
import Derived.Handy
import Derived.Lib.Hide
import Derived.Deep.MidRow
import Derived.Deep.QuietTactic
import Derived.BigQuiet
import Derived.Deep.RegionHeld3
import Derived.Laws.Externs
import Derived.RangeFuncBox
import Derived.Deep.CutBlock
import Derived.Deep.LoopGhost
import Derived.WalkMore
import Derived.Laws.OwnMore
import Derived.StillTailTactics
import Derived.Laws.AppendOwnNone
import Derived.Sort.LoopGhostIn
import Derived.Laws.BytesString
import Derived.Laws.AppendOwn
import Derived.RangeFuncRecord
import Derived.MapKept
import Derived.RangeFuncNested
import Derived.RangeFuncBound
import Derived.RangeFuncCalls
import Derived.RangeFuncLeaves
import Derived.RangeFuncWrites
import Derived.Shelf.Abstract
import Derived.OwnWalkIn
import Derived.TacticsInMore
import Derived.LoopNIn
import Derived.LoopIn
import Derived.Deep.Quiet
import Derived.Shelf.Small.Bits
import Derived.Shelf.Small.Strs
import Derived.Shelf.Small.Wraps
import Derived.Shelf.Strconv.Itoa0
import Derived.Shelf.LaysM
import Derived.Shelf.Strconv.Clone
import Derived.Shelf.Strings.Search1
import Derived.Shelf.Bits.Mul64
import Derived.Ground.Names2Prog
import Derived.Shelf.Slices.SearchI
import Derived.Below
import Derived.ChangeOld
import Derived.OpenShut
import Derived.LaidMore
import Derived.Maps.AppendAt
import Derived.Test.YthfkbbiaemmndaaGreatDoorRows
import Derived.Test.YthfkbbiaemmndaaGreatDoorProg
import Derived.OrdersIn
import Derived.Stop.RegionWithIn
import Derived.Deep.RegionLaw
import Derived.Deep.CutRange
import Derived.Deep.RegionHeld
import Derived.Laws.CopyOwn
import Derived.IntWalk
import Derived.OwnWalk
import Derived.BigRegion
import Derived.Deep.DrawnRows
import Derived.Lib.SliceRun
import Derived.Deep.AppendSrc
import Derived.Deep.Upon
import Derived.Deep.DeepAppendWide
import Derived.Laws.MakeOwn
import Derived.Shelf.SlGeneric
import Derived.Shelf.Spec.SlicesGrow
import Derived.Ground.Names8Prog
import Derived.Shelf.SlSortCmp.Whole1
import Derived.Ground.SlsfProg
import Derived.Ground.SlgnProg
import Derived.Laws.ShiftsVarLaws
import Derived.Outline
import Derived.Laws.Bits128
import Derived.Deep.RegionWith
import Derived.Shelf.RegionOpen
import Derived.Shelf.SlSortCmp.NoneTotal
import Derived.Test.YthfkbbiaemmndaaGreatDoorG4
import Derived.Test.YthfkbbiaemmndaaGreatDoorG5
import Derived.Test.YthfkbbiaemmndaaGreatDoorG6
import Derived.Test.YthfkbbiaemmndaaGreatDoorG7
import Derived.Test.YthfkbbiaemmndaaGreatDoorG8
import Derived.Test.YthfkbbiaemmndaaGreatDoorG9
import Derived.Test.YthfkbbiaemmndaaGreatDoorG12
import Derived.Test.YthfkbbiaemmndaaGreatDoorG13
import Derived.Test.YthfkbbiaemmndaaGreatDoorG14
import Derived.Test.YthfkbbiaemmndaaGreatDoorG23
import Derived.Test.YthfkbbiaemmndaaGreatDoorG25
import Derived.Test.YthfkbbiaemmndaaGreatDoorG29
import Derived.Test.YthfkbbiaemmndaaGreatDoorG36
import Derived.Test.YthfkbbiaemmndaaGreatDoorG38
set_option linter.unusedVariables false
set_option linter.unusedSimpArgs false
set_option maxRecDepth 100000
set_option maxHeartbeats 16000000
namespace Go.Proofs.YthfkbbiaemmndaaGreatDoor
section
open Go.RowKit
theorem decode_good (A R : Option Addr) (cap rc : Nat) (ts : List Ts) (rs : List Fv) (w : World) (hT : Row w A cap ts) (hR : FRow w R rc rs) (h0 : (chkAll ts).2 = 0) :
  Calls Tryz.prog 75 #[.slice A ts.length cap, .slice R rs.length rc] w (DecodePost (decS ts rs) w) := by
 obtain ⟨i0, hi, hz0, hz1, hz2⟩ := info_parts infoJs
 have hv := vs_of h0
 have K := mayBe_any A cap ts w hT
 rw [decide_eq_true h0] at K
 have hle := hR.le
 have hmx := hR.mx
 have hn0 := hv.n0
 have hn1 := hv.n1
 have HV := Lib.hid hv
 have ROW := Lib.hid hT
 have RAW := Lib.hid hR
 have K := Lib.hid K
 clear h0 hT hR hv
 obtain ⟨n, hn⟩ : ∃ n, n = min rs.length 4096 := ⟨_, rfl⟩
 have hnl : (rs.take 4096).length = n := by rw [List.length_take]; omega
 have hmin : min (rs.length : Int) 4096 = (n : Int) := by omega
 have hn2 : n ≤ rs.length := by omega
 have hn3 : n ≤ rc := by omega
 have hn4 : n ≤ 4096 := by omega
 have HN := Lib.hid hn
 have HNL := Lib.hid hnl
 clear hn hnl
 have hmm := @run_makeMap Tryz.prog
 go_enter Tryz.func75, Tryz.ntmps75
 go_upto_region 5 with (go_at_call 63; (with_reducible refine K.out.mono ?_); rintro e w1 ⟨rfl, h1⟩)
 have A0 := Arr.new A ts.length cap w1
 have B0 : Below w.heap.size w ((w1.alloc (.map #[] 0)).alloc (.cells #[.slice A ts.length cap, .map (some w1.heap.size)] 88)) := (h1.alloc h1.size _).alloc (by have := h1.size; simp; omega) _
 have HM := h1.size
 generalize ((w1.alloc (.map #[] 0)).alloc (.cells #[.slice A ts.length cap, .map (some w1.heap.size)] 88)) = W0 at *
 generalize w1.heap.size = M at *
 have A0 := Lib.hid A0
 have B0 := Lib.hid B0
 clear hmm h1
 go_wp2
 go_loopw [5, 23] (fun v i wr => ∃ k : Nat, k ≤ n ∧ i = .int .i64 k ∧ Hid (DIn w A ts.length cap M wr v (decF ts [] ((rs.take 4096).take k)))) (fun _ i _ => n - (intOf i).toNat)
 case atStart => exact ⟨0, Nat.zero_le _, rfl, Lib.hid ⟨⟨[], FOwn.nil _ _ _, rfl⟩, A0.out, B0.out, HM⟩⟩
 case round =>
  obtain ⟨k, hk, rfl, hI⟩ := hrel
  by_cases hlt : k < n
  ·obtain ⟨rb, ro, x, C, cc, rfl, hx, hrb, hF⟩ := RAW.out.get (k := k) (by omega)
   have hF := hF.later hI.out.bel
   have c0 := hF.c0
   have c1 := hF.c1
   have c2 := hF.c2
   have c3 := hF.c3
   have c4 := hF.c4
   have hi0 : (0 : Int) ≤ (k : Int) := by omega
   have hi1 : (k : Int) < (n : Int) := by omega
   have hi2 : (k : Int) < (rc : Int) := by omega
   have K2 := Lib.hid (fun W => srest_any x.t (ts.length : Int) W hF.wf.t (by omega) (by omega))
   have hpb := emod_bd x.t (ts.length : Int) (by omega)
   obtain ⟨p, hp⟩ : ∃ p : Nat, x.t % (ts.length : Int) = (p : Int) := ⟨(x.t % (ts.length : Int)).toNat, by omega⟩
   rw [hp] at K2 hpb
   have HP := Lib.hid hp
   have HF := Lib.hid hF
   have HX := Lib.hid hx
   clear hp hF hx
   go_upto_region 8 with (fail)
   have F1 := Lib.hid (FAt.new wr x C cc 71 HF.out.wf HF.out.s)
   have B1 : Hid (Below wr.heap.size wr (wr.alloc (.cells #[.int .i64 x.t, .int .i64 x.a, .int .i64 x.r, .int .i64 x.k, .slice C x.c.length cc] 71))) := Lib.hid ((Below.refl _ _).alloc (Nat.le_refl _) _)
   generalize hW1 : (wr.alloc (.cells #[.int .i64 x.t, .int .i64 x.a, .int .i64 x.r, .int .i64 x.k, .slice C x.c.length cc] 71)) = W1 at *
   have hb8 : M + 1 < wr.heap.size := hI.out.arr.lt
   have BW := Lib.hid (hI.out.bel.trans (B1.out.mono hI.out.bel.size))
   have AW := Lib.hid (hI.out.arr.later B1.out)
   generalize hb8e : wr.heap.size = b8 at *
   have HB8 := Lib.hid hb8e
   clear hb8e
   clear c0 c1 c2 c3 c4 hW1
   obtain ⟨f0, f1, f2, f3, f4⟩ := F1.out.z
   go_upto_region 9 with (go_at_call 95; (with_reducible refine (K2.out _).mono ?_); rintro e w2 ⟨rfl, rfl⟩)
   clear f0 f1 f2 f3 f4
   obtain ⟨tb, tq, y, rfl, hy, hyw, htb, hT⟩ := ROW.out.get (k := p) (by omega)
   have hyt : tk ts (p : Int) = y := tk_get hy
   have hyo := HV.out.tk (p : Int)
   rw [hyt] at hyo
   have hT1 := hT.later BW.out
   have HDm := Lib.hid (D9.mk hT1 F1.out AW.out)
   have HD0 := Lib.hid (D9.step HDm.out (below_drew W1))
   have hgood := decF_good HV.out ((rs.take 4096).take k) (by rw [List.length_take, List.length_take]; omega)
   obtain ⟨js, hjs⟩ : ∃ js, decF ts [] ((rs.take 4096).take k) = js := ⟨_, rfl⟩
   rw [hjs] at hI AW hgood
   have hjl : js.length ≤ 4096 := by rw [← hjs, decF_len]; simp; omega
   have hbd : Bd js := by rw [← hjs]; exact decF_bd HV.out _ [] Bd.nil
   have hsb := soon_bd HV.out hbd (p : Int)
   have KS : Hid (∀ W, D9 W1 tb (tq + p * 7) b8 M y x C cc (some ⟨tb, tq, none⟩) ts.length cap W → Calls Tryz.prog 39 #[.agg #[.slice (some ⟨tb, tq, none⟩) ts.length cap, .map (some M)], .int .i64 (p : Int)] W fun e w' => e = .returned (.int .i64 (soonI ts js p)) ∧ Below W.heap.size W w') :=
    Lib.hid fun W hD => (AW.out.later hD.lt).soon (((ROW.out.later BW.out)).later hD.lt) HV.out (p : Int) hgood
   have hs0 : 0 ≤ soonI ts js p := hsb.1
   have hs1 : soonI ts js p ≤ 35184372088832 := by omega
   have KD : Hid (∀ W, D9 W1 tb (tq + p * 7) b8 M y x C cc (some ⟨tb, tq, none⟩) ts.length cap W → Calls Tryz.prog 96 #[tsV y, fvV x C cc, .int .i64 (soonI ts js p)] W (DecPost ⟨0, soonI ts js p + x.a % 1048576, soonI ts js p + x.a % 1048576 + x.r % (y.j + 1), 1 + x.k % y.c, secs y.q (1 + x.k % y.c) x.c⟩ W)) :=
    Lib.hid fun W hD => decoded_any y x C cc (soonI ts js p) W hyo F1.out.wf (F1.out.s.later hD.lt) hs0 hs1
   have hdj : decJ ts js x = ⟨p, soonI ts js p + x.a % 1048576, soonI ts js p + x.a % 1048576 + x.r % (y.j + 1), 1 + x.k % y.c, secs y.q (1 + x.k % y.c) x.c⟩ := by
    simp only [decJ, HP.out, hyt]
   obtain ⟨jv, hjv⟩ : ∃ jv : Fv, jv = ⟨0, soonI ts js p + x.a % 1048576, soonI ts js p + x.a % 1048576 + x.r % (y.j + 1), 1 + x.k % y.c, secs y.q (1 + x.k % y.c) x.c⟩ := ⟨_, rfl⟩
   rw [← hjv] at KD
   have HJW : Hid (FvW jv) := Lib.hid (by
    have e1 := emod_bd x.a 1048576 (by omega)
    have e2 := emod_bd x.k y.c (by have := hyo.c0; omega)
    have e3 := emod_bd x.r (y.j + 1) (by have := hyo.j0; omega)
    have e4 := hyo.c1
    have e5 := hyo.j1
    rw [hjv]
    exact ⟨⟨by show _ ≤ (0 : Int); omega, by show (0 : Int) ≤ _; omega⟩, ⟨by show _ ≤ soonI ts js p + x.a % 1048576; omega, by show soonI ts js p + x.a % 1048576 ≤ _; omega⟩, ⟨by show _ ≤ soonI ts js p + x.a % 1048576 + x.r % (y.j + 1); omega, by show soonI ts js p + x.a % 1048576 + x.r % (y.j + 1) ≤ _; omega⟩, ⟨by show _ ≤ 1 + x.k % y.c; omega, by show 1 + x.k % y.c ≤ _; omega⟩⟩)
   have hdj2 : decJ ts js x = { jv with t := (p : Int) } := by rw [hdj, hjv]
   have HDJ := Lib.hid hdj2
   have HJS := Lib.hid hjs
   have HI := hI
   generalize soonI ts js p = sp at *
   have tp0 : (0 : Int) ≤ (p : Int) := by omega
   have tp1 : (p : Int) < (ts.length : Int) := by omega
   clear hyt hyo hT hT1 hy hyw hgood hjs hjl hbd hsb hs0 hs1 hdj hdj2 hjv hI
   have B0x : ∀ V : World, Below V.heap.size V (V.alloc (.cells #[.int .i64 0, .int .i64 0, .int .i64 0, .int .i64 0, .slice none 0 0] 74)) := fun V => (Below.refl _ _).alloc (Nat.le_refl _) _
   have B0x := Lib.hid B0x
   have K1a := Lib.hid (KS.out _ HD0.out)
   have HD1 := Lib.hid (D9.step (D9.step HDm.out (B0x.out W1)) (below_drew _))
   have K1b := Lib.hid (KS.out _ HD1.out)
   go_cut [10] from 32 to 40 (fun s10 wx => ∃ b10 C3 cc3, s10 = .pointer (some ⟨b10, 0, none⟩) ∧ JB W1 wx b10 jv C3 cc3)
   case first =>
    go_region_held_law (fun W => D9 W1 tb (tq + p * 7) b8 M y x C cc (some ⟨tb, tq, none⟩) ts.length cap W)
     (first | (with_reducible assumption) | (with_reducible exact HD0.out) | (with_reducible exact (D9.step HD0.out (B0x.out _))) | (with_reducible exact HD1.out) | (with_reducible exact HD2.out) | (with_reducible exact (D9.step HD2.out (B0x.out _))) | (with_reducible exact HD3.out) | (with_reducible exact (D9.step HD3.out ((Below.refl _ _).alloc (Nat.le_refl _) _))) | (with_reducible exact (D9.set5 HD3.out HG3.out _ _ _ _ _)) | fail)
     (first
     | (go_at_call 39; (with_reducible refine K1a.out.mono ?_); rintro e w2 ⟨rfl, h2⟩; have HD2 := Lib.hid (D9.step HD0.out h2); have K2a := Lib.hid (KD.out _ HD2.out); have K2b := Lib.hid (KD.out _ (D9.step HD2.out (B0x.out _))))
     | (go_at_call 39; (with_reducible refine K1b.out.mono ?_); rintro e w2 ⟨rfl, h2⟩; have HD2 := Lib.hid (D9.step HD1.out h2); have HFB2 := Lib.hid (((FB.new W1 74 (.int .i64 0) (.int .i64 0) (.int .i64 0) (.int .i64 0) (.slice none 0 0)).later (below_drew _)).later h2); have K2a := Lib.hid (KD.out _ HD2.out))
     | (go_at_call 96; (with_reducible refine K2b.out.mono ?_); rintro e w3 ⟨C3, cc3, rfl, hC3, hs3, h3⟩; have HD3 := Lib.hid (D9.step (D9.step HD2.out (B0x.out _)) h3); have HG3 := Lib.hid (show W1.heap.size ≤ w2.heap.size from HD2.out.lt.size); have HC3 := Lib.hid hC3; have HS3 := Lib.hid hs3; have hFB := (FB.new w2 74 (.int .i64 0) (.int .i64 0) (.int .i64 0) (.int .i64 0) (.slice none 0 0)).later h3; have HFB3 := Lib.hid hFB; obtain ⟨z0, z1, z2, z3, z4⟩ := hFB.z; have y0 := hFB.fz 0; have y1 := hFB.fz 1; have y2 := hFB.fz 2; have y3 := hFB.fz 3; have y4 := hFB.fz 4; clear hC3 hs3 hFB)
     | (go_at_call 96; have hFB0 := HFB2.out; (with_reducible refine K2a.out.mono ?_); rintro e w3 ⟨C3, cc3, rfl, hC3, hs3, h3⟩; have HD3 := Lib.hid (D9.step HD2.out h3); have HG3 := Lib.hid (show W1.heap.size ≤ W1.heap.size from Nat.le_refl _); have HC3 := Lib.hid hC3; have HS3 := Lib.hid hs3; have hFB := hFB0.later h3; have HFB3 := Lib.hid hFB; obtain ⟨z0, z1, z2, z3, z4⟩ := hFB.z; have y0 := hFB.fz 0; have y1 := hFB.fz 1; have y2 := hFB.fz 2; have y3 := hFB.fz 3; have y4 := hFB.fz 4; clear hC3 hs3 hFB hFB0)
     | (go_at_call 96; (with_reducible refine K2a.out.mono ?_); rintro e w3 ⟨C3, cc3, rfl, hC3, hs3, h3⟩; have HD3 := Lib.hid (D9.step HD2.out h3); have HC3 := Lib.hid hC3; have HS3 := Lib.hid hs3; clear hC3 hs3)
     | fail)
    ·go_wp2
     go_meet
     exact ⟨_, C3, cc3, rfl, JB.ofAlloc HJW.out HC3.out (fun h a ha => (HS3.out h a ha).2) HD3.out.lt⟩
    ·go_wp2
     go_meet
     exact ⟨_, C3, cc3, rfl, JB.ofSet HFB3.out HJW.out HC3.out (fun h a ha => (HS3.out h a ha).2) HD3.out.lt HG3.out⟩
    ·go_wp2
     go_meet
     exact ⟨_, C3, cc3, rfl, JB.ofSet HFB3.out HJW.out HC3.out (fun h a ha => (HS3.out h a ha).2) HD3.out.lt HG3.out⟩
   case rest =>
    obtain ⟨b10, C3, cc3, rfl, hJ⟩ := hcut
    have c1 := (AW.out.later hJ.bel).c0
    have c2 := (AW.out.later hJ.bel).c1
    obtain ⟨z0, z1, z2, z3, z4⟩ := hJ.fb.z
    have y0 := hJ.fb.fz 0
    have hJt := Lib.hid (hJ.setT (p : Int) ⟨by omega, by omega⟩)
    have AW2 := Lib.hid ((AW.out.later hJ.bel).kept ((Kept.refl [b10] wc).set b10 0 (.int .i64 (p : Int)) (by simp)) (by have := AW.out.lt; have := hJ.ge; simp; omega) (by have := AW.out.lt; have := hJ.ge; simp; omega))
    have hMb : M + 1 ≠ b10 := by have := AW.out.lt; have := hJ.ge; omega
    have hown := HI.out.own
    have HW := Lib.hid HI.out.bel
    have HGE := Lib.hid HI.out.ge
    have B1w := Lib.hid (B1.out)
    apply_assumption
    go_upto_region 11 with (fail)
    generalize wc.setCell ⟨b10, 0, none⟩ (.int .i64 (p : Int)) = W6 at *
    clear c1 c2 z0 z1 z2 z3 z4 y0 hJ
    have c1 := AW2.out.c0
    have c2 := AW2.out.c1
    obtain ⟨z0, z1, z2, z3, z4⟩ := hJt.out.fb.z
    have KN := Lib.hid (note_any (some ⟨tb, tq, none⟩) C3 ts.length cap cc3 M (lastF js) { jv with t := (p : Int) } W6 AW2.out.map)
    go_upto_region 12 with (go_at_call 41; (with_reducible refine KN.out.mono ?_); rintro e w7 ⟨rfl, hm7, hk7⟩)
    obtain ⟨es, mc, hMap⟩ := AW2.out.map.is
    have AW7 := Lib.hid (AW2.out.note (j := { jv with t := (p : Int) }) hm7 hk7)
    obtain ⟨gs, hG, hgs⟩ := hown
    have hG1 := hG.later (show Below wr.heap.size wr W1 by rw [HB8.out]; exact B1w.out)
    have hG6 := hG1.later hJt.out.bel
    have hG7 := hG6.map hk7 hMap HGE.out
    have hbm : b10 ∉ [M] := by have h1 := AW.out.lt; have h2 := hJt.out.ge; rw [List.mem_singleton]; omega
    have hJ7 : FB w7 b10 74 (.int .i64 (p : Int)) (.int .i64 jv.a) (.int .i64 jv.r) (.int .i64 jv.k) (.slice C3 jv.c.length cc3) := hJt.out.fb.kept hk7 hbm
    have hcx : ∀ k ∈ [M], ∀ o, W6.cell? ⟨k, o, none⟩ = none := fun k hk o => by rw [List.mem_singleton] at hk; subst hk; exact cell_of_map hMap o
    have hC7 : CRow w7 C3 cc3 jv.c := hJt.out.s.cells (cells_kept hk7 hcx)
    have hT7 : jv.c ≠ [] → ∀ a, C3 = some a → ∃ cs fr, w7.heap[a.block]? = some (.cells cs 2 fr) := fun h a ha => by
     obtain ⟨cs, fr, ht⟩ := hJt.out.ty h a ha
     refine ⟨cs, fr, (hk7.block a.block (Array.getElem?_eq_some_iff.1 ht).1 (fun hm => ?_)).trans ht⟩
     rw [List.mem_singleton] at hm
     rw [hm, hMap] at ht
     cases ht
    have hO7 : GOk 74 w.heap.size w7 ⟨{ jv with t := (p : Int) }, C3, cc3⟩ := ⟨hJt.out.wf, hC7, fun h a ha => by
     obtain ⟨cs, fr, ht⟩ := hT7 h a ha
     exact .inr ⟨cs, _, fr, ht, by decide⟩⟩
    have hB7 : Below w.heap.size w w7 := ((HW.out.trans ((show Below wr.heap.size wr W1 by rw [HB8.out]; exact B1w.out).mono HW.out.size)).trans (hJt.out.bel.mono (by have := B1w.out.size; have := HW.out.size; have := HB8.out; omega))).trans (hk7.below (by have h1 := hJt.out.bel.size; have := B1w.out.size; have := HW.out.size; have := HB8.out; omega) (by simp; exact HGE.out))
    obtain ⟨z0, z1, z2, z3, z4⟩ := hJ7.z
    have hlen : gs.length = k := by
     have h1 := congrArg List.length hgs
     rw [List.length_map] at h1
     rw [h1, ← HJS.out, decF_len]
     simp
     have := HNL.out
     omega
    have HLEN := Lib.hid hlen
    have HG7 := Lib.hid hG7
    have HO7 := Lib.hid hO7
    have HB7 := Lib.hid hB7
    have HGS := Lib.hid hgs
    have hFA := fun (V : World) => FAt.new V { jv with t := (p : Int) } C3 cc3 74
    have HFA := Lib.hid (fun j u hu => by
     have := (FAt.new w7 { jv with t := (p : Int) } C3 cc3 74 hJt.out.wf hC7).r j u hu
     rw [Nat.zero_add] at this
     rw [add_none, Nat.zero_add]
     exact this : ∀ j u, (fvL { jv with t := (p : Int) } C3 cc3)[j]? = some u → (w7.alloc (.cells #[.int .i64 (p : Int), .int .i64 jv.a, .int .i64 jv.r, .int .i64 jv.k, .slice C3 jv.c.length cc3] 74)).cell? ((⟨w7.heap.size, 0, none⟩ : Addr).add j) = some u)
    clear hG hgs hG1 hG6 hG7 hbm hJ7 hcx hC7 hT7 hO7 hB7 hlen hFA hm7 hk7 hMap c1 c2
    go_wp2_with (refine wpList_append_own _ rfl _ _ 37 rfl w.heap.size 74 i0 _ 5 56 Tryz.underlying37 hi hz0 hz1 hz2 rfl (by decide) _ gs.length (gvC gs) rfl (HG7.out.row.alloc _) ⟨w7.heap.size, 0, none⟩ 1 1 (fvL { jv with t := (p : Int) } C3 cc3) rfl rfl HFA.out (fvL_one _ _ _) (by have := HLEN.out; unfold maxLen; omega) (by have := HLEN.out; omega) (by have := HB7.out.size; simp; omega) ?_; intro v' w8 hown' hgrow hnil')
    go_roundw
    case rel =>
     have ba : Below w7.heap.size w7 (w7.alloc (.cells #[.int .i64 (p : Int), .int .i64 jv.a, .int .i64 jv.r, .int .i64 jv.k, .slice C3 jv.c.length cc3] 74)) := (Below.refl _ _).alloc (Nat.le_refl _) _
     have hG8 := (HG7.out.later ba).push (HO7.out.kept fun b hl _ => ba.block b hl) hown' hgrow
     have hL8 : Below w.heap.size w w8 := (HB7.out.trans (ba.mono HB7.out.size)).grown hgrow (by have := HB7.out.size; simp; omega) (fun q hq => (HG7.out.row.lt q hq).1)
     refine ⟨k + 1, by omega, by go_num, Lib.hid ⟨⟨_, hG8, ?_⟩, ?_, hL8, HGE.out⟩⟩
     ·have hx4 : (rs.take 4096)[k]? = some x := by rw [List.getElem?_take_of_lt (by omega)]; exact HX.out
      rw [take_one hx4, decF_snoc, HJS.out, HDJ.out, List.map_append, HGS.out]
      rfl
     ·have hx4 : (rs.take 4096)[k]? = some x := by rw [List.getElem?_take_of_lt (by omega)]; exact HX.out
      rw [take_one hx4, decF_snoc, HJS.out, HDJ.out]
      exact (AW7.out.later ba).grown (HG7.out.later ba).row (by decide) hgrow
    case measure => simp [intOf]; omega
  ·obtain rfl : k = n := by omega
   obtain ⟨gs, hG, hgs⟩ := hI.out.own
   have HB := Lib.hid hI.out.bel
   have HG := Lib.hid hG
   have HGS := Lib.hid hgs
   clear hG hgs hI
   go_wp2
   go_ret
   refine ⟨_, gs, rfl, HG.out, ?_, HB.out⟩
   rw [HGS.out, decS, List.take_of_length_le (by rw [HNL.out]; exact Nat.le_refl _)]
end
section
open Go.RowKit
theorem decode_rowo (A R : Option Addr) (cap rc : Nat) (ts : List Ts) (rs : List Fv) (w : World) (hT : Row w A cap ts) (hR : FRow w R rc rs) (h0 : (chkAll ts).2 = 0) :
  Calls Tryz.prog 75 #[.slice A ts.length cap, .slice R rs.length rc] w fun e w' => ∃ B c, e = .returned (.slice B (decS ts rs).length c) ∧ FRow w' B c (decS ts rs) ∧ (decS ts rs ≠ [] → ∃ b o, B = some ⟨b, o, none⟩ ∧ w.heap.size ≤ b) ∧ Below w.heap.size w w' :=
 (decode_good A R cap rc ts rs w hT hR h0).mono fun e w' h => by
  obtain ⟨v, gs, rfl, hf, hm, hb⟩ := h
  obtain ⟨B, c, rfl, hF⟩ := hf.frow
  rw [hm] at hF
  have hl : gs.length = (decS ts rs).length := by rw [← hm, List.length_map]
  refine ⟨B, c, by rw [hl], hF, fun hne => ?_, hb⟩
  obtain ⟨g, cap', e1, hB, -, -, -, -⟩ := own_form hf.row (by rw [hl]; exact List.length_pos_iff.2 hne)
  simp only [Value.slice.injEq] at e1
  exact ⟨g, 0, e1.1, hB⟩
def RunO (sp : List Spn) (en : List Int) (w : World) (e : Ending) (w' : World) : Prop := ∃ A c B d, e = .returned (.tuple #[.slice A sp.length c, .slice B en.length d]) ∧ SpR w' A c sp ∧ CRow w' B d en ∧ (en ≠ [] → ∀ a, B = some a → w.heap.size ≤ a.block) ∧ Below w.heap.size w w'
def DrnP (js : List Fv) (en : List Int) (w : World) (e : Ending) (w' : World) : Prop := ∃ Aj cj Ae ce, e = .returned (.tuple #[.slice Aj js.length cj, .slice Ae en.length ce]) ∧ FRow w' Aj cj js ∧ CRow w' Ae ce en ∧ (js ≠ [] → ∃ b o, Aj = some ⟨b, o, none⟩ ∧ w.heap.size ≤ b) ∧ (en ≠ [] → ∀ a, Ae = some a → w.heap.size ≤ a.block) ∧ Below w.heap.size w w'
theorem srun_any (A R : Option Addr) (cap rc : Nat) (ts : List Ts) (rs js : List Fv) (sp : List Spn) (en : List Int) (w : World) (hT : Row w A cap ts) (hR : FRow w R rc rs) (h0 : (chkAll ts).2 = 0)
  (hjs : decS ts rs = js) (hrun : ∀ W Aj cj, Row W A cap ts → FRow W Aj cj js → Calls Tryz.prog 76 #[.slice A ts.length cap, .slice Aj js.length cj] W (RunO sp en W)) :
  Calls Tryz.prog 45 #[.slice A ts.length cap, .slice R rs.length rc] w (DrnP js en w) := by
 have K1 := decode_rowo A R cap rc ts rs w hT hR h0
 rw [hjs] at K1
 have K1 := Lib.hid K1
 have KR := Lib.hid (fun (W : World) Aj cj (h : Lt w W) hF => hrun W Aj cj (hT.later h) hF)
 unfold RunO at KR
 unfold DrnP
 generalize ts.length = N at *
 generalize rs.length = M at *
 obtain ⟨J, hJ⟩ : ∃ J, js.length = J := ⟨_, rfl⟩
 obtain ⟨EN, hEN⟩ : ∃ EN, en.length = EN := ⟨_, rfl⟩
 rw [hJ] at K1 KR ⊢
 rw [hEN] at KR ⊢
 clear hT hR h0 hjs hrun hJ hEN
 go_enter Tryz.func45, Tryz.ntmps45
 go_upto_region 2 with (go_at_call 75; (with_reducible refine K1.out.mono ?_); rintro e w1 ⟨Aj, cj, rfl, hF, hfr, h⟩; have KR1 := Lib.hid (KR.out w1 Aj cj h hF); have HF := Lib.hid hF; have HFR := Lib.hid hfr; have HL := Lib.hid (show Lt w w1 from h); clear h hF hfr)
 go_upto_region 3 with (go_at_call 76; (with_reducible refine KR1.out.mono ?_); rintro e w2 ⟨As, cs, Ae, ce, rfl, hS, hE, hf2, h⟩; have HE := Lib.hid hE; have HF := Lib.hid (HF.out.later h); have HFE := Lib.hid hf2; have HG := Lib.hid (Below.size HL.out); have HL := Lib.hid (lt_step _ _ HL.out h); clear h hE hS hf2)
 go_wp2
 exact bodyPost_ret (v := .tuple #[.slice Aj J cj, .slice Ae EN ce]) (by simp [results, Tryz.f45, go_sem]) rfl ⟨Aj, cj, Ae, ce, rfl, HF.out, HE.out, HFR.out, fun hne a ha => Nat.le_trans HG.out (HFE.out hne a ha), HL.out⟩
end
section
open Go.RowKit
theorem untp_runo {sp : List Spn} {en : List Int} {w : World} (he : ∀ x ∈ en, in64 x) (e : Ending) (w' : World) (h : UntP (sp, en) w e w') : RunO sp en w e w' := by
 obtain ⟨vs, ve, rfl, h1, h2, h3⟩ := h
 obtain ⟨A, c, rfl, F⟩ := spr_own h1
 obtain ⟨B, d, rfl, hn, G, hs⟩ := crow_own h2 he
 exact ⟨A, c, B, d, rfl, F, G, fun hne a ha => (hs hne a ha).1, h3⟩
theorem run_lego {A R : Option Addr} {cap rc : Nat} {ts : List Ts} {js : List Fv} (w : World) (hT : Row w A cap ts) (hR : FRow w R rc js) (hD : Dist ts) (ft : ts.length ≤ 1000) (fj : js.length ≤ 1000) (htot : (js.map (·.k)).sum ≤ 1000000000000) (hl : legS ts js = true) :
  Calls Tryz.prog 76 #[.slice A ts.length cap, .slice R js.length rc] w (RunO (tst ts js 9223372036854775807).sp (tst ts js 9223372036854775807).en w) := by
 have h := run_any w hT hR hD ft fj htot
 rw [untS, if_pos hl] at h
 obtain ⟨h1, h2, h3⟩ := legS_parts hl
 exact h.mono (untp_runo (en_bd (lg_of (ljs_of (vs_of h1) js h3)) (Nat.le_refl _)))
structure Few1 (ts : List Ts) (js : List Fv) : Prop where
 lg : legS ts js = true
 le : js.length ≤ 1000
 tot : (js.map (·.k)).sum ≤ 1000000000000
structure RunA (ts : List Ts) (E : List Fv → List Int) (SP : List Fv → List Spn) : Prop where
 rn : ∀ js, Few1 ts js → Rn ts js (E js)
 run : ∀ js, Few1 ts js → ∀ (W : World) (A : Option Addr) (cap : Nat) (Aj : Option Addr) (cj : Nat), Row W A cap ts → FRow W Aj cj js → Calls Tryz.prog 76 #[.slice A ts.length cap, .slice Aj js.length cj] W (RunO (SP js) (E js) W)
 sc : ∀ (k : Nat) (y : Ts), ts[k]? = some y → ScR ts k y (E (sceneS ts (k : Int)))
theorem few_scene {ts : List Ts} (hs : St ts) {k : Nat} {y : Ts} (hy : ts[k]? = some y) : Few1 ts (sceneS ts (k : Int)) :=
 ⟨scene_leg2 hs hy, (st_sms hs (k : Int)).js (isB_at hs.chk hy), scene_tot hs hy⟩
theorem few_dec {ts : List Ts} (hs : St ts) {fs : List Fv} (hf : fs.length ≤ 10) (ha : ∀ r ∈ fs, 0 ≤ r.a ∧ r.a < 12) : Few1 ts (decS ts fs) := by
 have h := sm_of (M := 6) (n := 10) hs.n1 hs.n6 (by omega) hs.d hs.s hs.p hf (by omega) ha
 exact ⟨h.lg, by have := h.le; omega, by have := h.tot (by omega); omega⟩
theorem run_all {ts : List Ts} (hs : St ts) : ∃ E SP, RunA ts E SP := by
 obtain ⟨R, hR⟩ : ∃ R : Nat, R = 20000000000000 := ⟨_, rfl⟩
 obtain ⟨S, hS⟩ : ∃ S : Nat, S = 1000000000000 := ⟨_, rfl⟩
 have h6 := hs.n6
 exact ⟨fun js => (tst ts js 9223372036854775807).en, fun js => (tst ts js 9223372036854775807).sp,
  ⟨fun js h => rn_gen h.lg h.tot hR hS (by omega),
   fun js h W A cap Aj cj h1 h2 => run_lego W h1 h2 hs.d (by omega) h.le h.tot h.lg,
   fun k y hy => scr_gen hs hy (few_scene hs hy).lg (few_scene hs hy).tot hR hS (by omega)⟩⟩
end
section
open Go.RowKit
def gapI (ts : List Ts) (js : List Fv) (j : Fv) : Int := j.a - soonI ts js j.t
def encA (ts : List Ts) : List Fv → List Fv → List Fv
 | _, [] => []
 | js, j :: r => encJ (gapI ts js j) j :: encA ts (js ++ [j]) r
theorem encA_snoc (ts : List Ts) : ∀ (l js : List Fv) (x : Fv), encA ts js (l ++ [x]) = encA ts js l ++ [encJ (gapI ts (js ++ l) x) x]
 | [], js, x => by simp [encA]
 | j :: r, js, x => by
   rw [List.cons_append, encA, encA, encA_snoc ts r]
   simp
theorem encA_len (ts : List Ts) : ∀ (l js : List Fv), (encA ts js l).length = l.length
 | [], js => rfl
 | j :: r, js => by rw [encA, List.length_cons, encA_len ts r, List.length_cons]
theorem encF_some (ts : List Ts) : ∀ (l js : List Fv), (∀ k x, l[k]? = some x → gapI ts (js ++ l.take k) x < 1048576) → encF ts js l = some (encA ts js l)
 | [], js, _ => rfl
 | j :: r, js, h => by
   have h0 := h 0 j rfl
   rw [List.take_zero, List.append_nil, gapI] at h0
   rw [encF, if_neg (by omega), encF_some ts r (js ++ [j]) (fun k x hx => by
    have := h (k + 1) x (by simpa using hx)
    rw [List.take_succ_cons] at this
    simpa using this)]
   rfl
theorem encF_none (ts : List Ts) : ∀ (l js : List Fv) (k : Nat) (x : Fv), l[k]? = some x → 1048576 ≤ gapI ts (js ++ l.take k) x → encF ts js l = none
 | [], js, k, x, hx, _ => by simp at hx
 | j :: r, js, 0, x, hx, h => by
   obtain rfl : j = x := by simpa using hx
   rw [List.take_zero, List.append_nil, gapI] at h
   rw [encF, if_pos (by omega)]
 | j :: r, js, k + 1, x, hx, h => by
   rw [List.take_succ_cons] at h
   have ih := encF_none ts r (js ++ [j]) k x (by simpa using hx) (by simpa using h)
   rw [encF, ih]
   split <;> rfl
theorem legF_get {ts : List Ts} : ∀ (l pre : List Fv) (k : Nat) (x : Fv), legF ts pre l = true → l[k]? = some x → legJ ts (pre ++ l.take k) x = true
 | [], pre, k, x, _, hx => by simp at hx
 | j :: r, pre, 0, x, h, hx => by
   obtain rfl : j = x := by simpa using hx
   rw [legF, Bool.and_eq_true] at h
   rw [List.take_zero, List.append_nil]
   exact h.1
 | j :: r, pre, k + 1, x, h, hx => by
   rw [legF, Bool.and_eq_true] at h
   have := legF_get r (pre ++ [j]) k x h.2 (by simpa using hx)
   rw [List.take_succ_cons]
   simpa using this
theorem soon_nn {ts : List Ts} (hv : Vs ts) {js : List Fv} (h : ∀ j ∈ js, 0 ≤ j.a) (p : Int) : 0 ≤ soonI ts js p := by
 unfold soonI
 cases hl : lastT js p with
 | none => simp
 | some j =>
   have h1 := h j (lastT_mem hl).1
   have h2 := (hv.tk p).t0
   simp only
   omega
theorem legF_good {ts : List Ts} (hv : Vs ts) : ∀ (l pre : List Fv), (∀ j ∈ pre, 0 ≤ j.t ∧ j.t < ts.length ∧ 0 ≤ j.a ∧ j.a ≤ 35184372088832) → legF ts pre l = true → ∀ j ∈ l, 0 ≤ j.t ∧ j.t < ts.length ∧ 0 ≤ j.a ∧ j.a ≤ 35184372088832
 | [], pre, _, _, j, hj => by simp at hj
 | x :: r, pre, hp, h, j, hj => by
   rw [legF, Bool.and_eq_true] at h
   obtain ⟨⟨t0, t1⟩, ⟨a0, a1⟩, -, -, -⟩ := legJ_parts h.1
   have hs := soon_nn hv (fun j hj => (hp j hj).2.2.1) x.t
   have hx : 0 ≤ x.t ∧ x.t < ts.length ∧ 0 ≤ x.a ∧ x.a ≤ 35184372088832 := by omega
   rcases List.mem_cons.1 hj with rfl | hj
   ·exact hx
   ·refine legF_good hv r (pre ++ [x]) (fun y hy => ?_) h.2 j hj
    rcases List.mem_append.1 hy with hy | hy
    ·exact hp y hy
    ·obtain rfl := List.mem_singleton.1 hy
     exact hx
theorem fit_len (q : Int) : ∀ (c : List Int) (left : Int), 0 ≤ left → fitB q left c = true → (c.length : Int) ≤ left
 | [], left, h, _ => h
 | a :: r, left, h, hf => by
   simp only [fitB, Bool.and_eq_true, decide_eq_true_eq] at hf
   have := fit_len q r (left - a) (by omega) hf.2
   simp only [List.length_cons]
   omega
theorem fit_pos (q : Int) : ∀ (c : List Int) (left : Int), fitB q left c = true → ∀ x ∈ c, 1 ≤ x
 | [], left, _, x, hx => by simp at hx
 | a :: r, left, hf, x, hx => by
   simp only [fitB, Bool.and_eq_true, decide_eq_true_eq] at hf
   rcases List.mem_cons.1 hx with rfl | hx
   ·exact hf.1.1
   ·exact fit_pos q r _ hf.2 x hx
theorem encS_good {ts : List Ts} {js : List Fv} (h : legS ts js = true) : encS ts js = encF ts [] js := by rw [encS, if_pos h]
theorem encS_bad {ts : List Ts} {js : List Fv} (h : legS ts js = false) : encS ts js = none := by rw [encS, h]; rfl
def EncPost (x : Fv) (w : World) (e : Ending) (w' : World) : Prop :=
 ∃ C cc, e = .returned (fvV x C cc) ∧ CRow w' C cc x.c ∧ (x.c ≠ [] → ∀ a, C = some a → w.heap.size ≤ a.block ∧ ∃ cs fr, w'.heap[a.block]? = some (.cells cs 3 fr)) ∧ Below w.heap.size w w'
structure ES (w wr : World) (v0 v1 v2 v3 : Value) (b4 b5 B : Nat) (v : Value) (pre : List Int) : Prop where
 f4 : FB wr b4 71 (.int .i64 0) (.int .i64 0) (.int .i64 0) (.int .i64 0) (.slice none 0 0)
 f5 : FB wr b5 71 v0 v1 v2 v3 v
 row : wr.ownsRow B 3 1 v pre.length (numL pre)
 wf : ∀ y ∈ pre, in64 y
 bel : Below w.heap.size w wr
 lt : b4 < B ∧ b5 < B
 ge : w.heap.size ≤ b4 ∧ w.heap.size ≤ b5
 ne : b4 ≠ b5
 sz : B ≤ wr.heap.size
theorem fb_off {w w' : World} {b : Nat} {T : TypeId} {v0 v1 v2 v3 v4 : Value} (h : FB w b T v0 v1 v2 v3 v4) {row : Option Nat} {B : Nat} (hg : w.grownBy w' row) (hr : ∀ k, row = some k → B ≤ k) (hb : b < B) : FB w' b T v0 v1 v2 v3 v4 := by
 refine h.kept (X := row.toList) (kept_grown hg (fun k hk => by rw [hk]; simp)) (fun hm => ?_)
 rw [Option.mem_toList] at hm
 have := hr b hm
 omega
theorem ES.mid {w wr w4 : World} {v0 v1 v2 v3 : Value} {b4 b5 B : Nat} {v : Value} {pre : List Int} (h : ES w wr v0 v1 v2 v3 b4 b5 B v pre) (o : Obj) (hg : (wr.alloc o).grownBy w4 v.ownBlock) : FB w4 b5 71 v0 v1 v2 v3 v :=
 fb_off (h.f5.later ((Below.refl _ _).alloc (Nat.le_refl _) o)) hg (fun k hk => (h.row.lt k hk).1) h.lt.2
theorem ES.push {w wr w4 : World} {v0 v1 v2 v3 : Value} {b4 b5 B : Nat} {v v' : Value} {pre : List Int} (h : ES w wr v0 v1 v2 v3 b4 b5 B v pre) (o : Obj) (hg : (wr.alloc o).grownBy w4 v.ownBlock) (y : Int) (hy : in64 y)
  (hown : w4.ownsRow B 3 1 v' (pre.length + 1) (numL pre ++ [.int .i64 y])) : ES w (w4.setCell ⟨b5, 4, none⟩ v') v0 v1 v2 v3 b4 b5 B v' (pre ++ [y]) := by
 have ba : Below wr.heap.size wr (wr.alloc o) := (Below.refl _ _).alloc (Nat.le_refl _) o
 have hr : ∀ k, v.ownBlock = some k → B ≤ k := fun k hk => (h.row.lt k hk).1
 have hs := h.sz
 have hl := h.lt
 have hge := h.ge
 have k5 := (Kept.refl [b5] w4).set b5 4 v' (by simp)
 refine ⟨(fb_off (h.f4.later ba) hg hr hl.1).kept k5 (by rw [List.mem_singleton]; exact h.ne), (h.mid o hg).set v' rfl, ?_, fun z hz => ?_, ?_, hl, hge, h.ne, ?_⟩
 ·rw [List.length_append, List.length_singleton, numL_snoc]
  exact k5.row hown (fun k hk hm => by rw [List.mem_singleton] at hm; have := (hown.lt k hk).1; omega)
 ·rcases List.mem_append.1 hz with hz | hz
  ·exact h.wf z hz
  ·obtain rfl := List.mem_singleton.1 hz
   exact hy
 ·have hb := h.bel.size
  exact (((h.bel.trans (ba.mono hb)).grown hg (by simp; omega) (fun k hk => by have := hr k hk; omega))).setCell (p := ⟨b5, 4, none⟩) hge.2 v'
 ·have := hg.size
  simp only [World.size_alloc] at this
  simp only [World.setCell]
  simp
  omega
theorem encoded_any (x : Fv) (A : Option Addr) (cap : Nat) (g : Int) (w : World) (hx : FvW x) (hR : CRow w A cap x.c) (hg : in64 g) (hr : in64 (x.r - x.a)) (hk : 1 ≤ x.k) (hc : ∀ y ∈ x.c, 1 ≤ y) (hl : x.c.length ≤ 2147483647) :
  Calls Tryz.prog 40 #[fvV x A cap, .int .i64 g] w (EncPost (encJ g x) w) := by
 obtain ⟨j0, hj, hy0, hy1, hy2⟩ := info_parts infoI
 obtain ⟨xt, xa, xr, xk, xc⟩ := x
 obtain ⟨ht0, ha0, hr0, hk0⟩ := hx
 simp only at hR hr hk hc hl ht0 ha0 hr0 hk0
 have hk1 := hk0
 have hk0 : (-9223372036854775808 : Int) ≤ xk ∧ xk ≤ 9223372036854775807 := hk0
 have hr : (-9223372036854775808 : Int) ≤ xr - xa ∧ xr - xa ≤ 9223372036854775807 := hr
 have hle := hR.le
 have hmx := hR.mx
 have ROW := Lib.hid hR
 have HC := Lib.hid hc
 have HW := Lib.hid (show in64 xt ∧ in64 g ∧ in64 (xr - xa) ∧ in64 (xk - 1) from ⟨ht0, hg, hr, ⟨by omega, by omega⟩⟩)
 clear hR hc hg
 go_enter Tryz.func40, Tryz.ntmps40
 go_upto_region 2 with (fail)
 have F0 := FAt.new w ⟨xt, xa, xr, xk, xc⟩ A cap 74 ⟨ht0, ha0, hr0, hk1⟩ ROW.out
 have b1 : Below w.heap.size w (w.alloc (.cells #[.int .i64 xt, .int .i64 xa, .int .i64 xr, .int .i64 xk, .slice A xc.length cap] 74)) := (Below.refl _ _).alloc (Nat.le_refl _) _
 have s1 : (w.alloc (.cells #[.int .i64 xt, .int .i64 xa, .int .i64 xr, .int .i64 xk, .slice A xc.length cap] 74)).heap.size = w.heap.size + 1 := by simp
 generalize (w.alloc (.cells #[.int .i64 xt, .int .i64 xa, .int .i64 xr, .int .i64 xk, .slice A xc.length cap] 74)) = W1 at *
 have b2 : Below W1.heap.size W1 (W1.alloc (.cells #[.int .i64 0, .int .i64 0, .int .i64 0, .int .i64 0, .slice none 0 0] 71)) := (Below.refl _ _).alloc (Nat.le_refl _) _
 have f2 := FB.new W1 71 (.int .i64 0) (.int .i64 0) (.int .i64 0) (.int .i64 0) (.slice none 0 0)
 have s2 : (W1.alloc (.cells #[.int .i64 0, .int .i64 0, .int .i64 0, .int .i64 0, .slice none 0 0] 71)).heap.size = W1.heap.size + 1 := by simp
 generalize (W1.alloc (.cells #[.int .i64 0, .int .i64 0, .int .i64 0, .int .i64 0, .slice none 0 0] 71)) = W2 at *
 have b3 : Below W2.heap.size W2 (W2.alloc (.cells #[.int .i64 xt, .int .i64 g, .int .i64 (xr - xa), .int .i64 (xk - 1), .slice none 0 0] 71)) := (Below.refl _ _).alloc (Nat.le_refl _) _
 have f3 := FB.new W2 71 (.int .i64 xt) (.int .i64 g) (.int .i64 (xr - xa)) (.int .i64 (xk - 1)) (.slice none 0 0)
 have s3 : (W2.alloc (.cells #[.int .i64 xt, .int .i64 g, .int .i64 (xr - xa), .int .i64 (xk - 1), .slice none 0 0] 71)).heap.size = W2.heap.size + 1 := by simp
 have F3 := Lib.hid ((F0.later b2).later b3)
 have hE : ES w (W2.alloc (.cells #[.int .i64 xt, .int .i64 g, .int .i64 (xr - xa), .int .i64 (xk - 1), .slice none 0 0] 71)) (.int .i64 xt) (.int .i64 g) (.int .i64 (xr - xa)) (.int .i64 (xk - 1)) W1.heap.size W2.heap.size (W2.heap.size + 1) (.slice none 0 0) [] :=
  ⟨f2.later b3, f3, World.ownsRow_nil _ _ _ _, by simp, (b1.trans (b2.mono b1.size)).trans (b3.mono (by omega)), by omega, by omega, by omega, by omega⟩
 rw [s1, s2, s1] at hE
 have HE := Lib.hid hE
 generalize (W2.alloc (.cells #[.int .i64 xt, .int .i64 g, .int .i64 (xr - xa), .int .i64 (xk - 1), .slice none 0 0] 71)) = W3 at *
 obtain ⟨N, hN⟩ : ∃ N, w.heap.size = N := ⟨_, rfl⟩
 rw [hN] at HE F3 ⊢
 clear F0 b1 s1 b2 f2 s2 b3 f3 s3 hE ht0 ha0 hr0 hk1
 obtain ⟨q0, q1, q2, q3, q4⟩ := F3.out.z
 generalize N + 1 + 1 + 1 = B at *
 generalize N + 1 + 1 = b5 at *
 generalize N + 1 = b4 at *
 go_wp2
 go_loopw [23] (fun i wr => ∃ (k : Nat) (v : Value), k ≤ xc.length ∧ i = .int .i64 k ∧ Hid (ES w wr (.int .i64 xt) (.int .i64 g) (.int .i64 (xr - xa)) (.int .i64 (xk - 1)) b4 b5 B v ((xc.take k).map (· - 1)))) (fun i _ => xc.length - (intOf i).toNat)
 case atStart => exact ⟨0, _, Nat.zero_le _, rfl, HE⟩
 case round =>
  obtain ⟨k, v, hk, rfl, hE⟩ := hrel
  by_cases hlt : k < xc.length
  ·obtain ⟨b, o, y, rfl, hy, hyw, hbl, hcell⟩ := ROW.out.get hlt
   have hcell := cells_below hE.out.bel _ _ _ hcell
   have hi0 : (0 : Int) ≤ (k : Int) := by omega
   have hi1 : (k : Int) < (xc.length : Int) := by omega
   have hyp := HC.out y (List.mem_of_getElem? hy)
   obtain ⟨yl, yh⟩ := hyw
   obtain ⟨z0, z1, z2, z3, z4⟩ := hE.out.f5.z
   have htk := take_one hy
   have HT : Hid ((xc.take (k + 1)).map (· - 1) = (xc.take k).map (· - 1) ++ [y - 1]) := Lib.hid (by rw [htk, List.map_append]; rfl)
   have hpl : ((xc.take k).map (· - 1)).length = k := by rw [List.length_map, List.length_take]; omega
   have HYW : Hid (in64 (y - 1)) := Lib.hid ⟨by omega, by omega⟩
   generalize (xc.take k).map (· - 1) = pre at *
   have HPL := Lib.hid hpl
   obtain ⟨Av, cv, hvv, -, -⟩ := own_len hE.out.row
   subst hvv
   have hsz := hE.out.sz
   have HC1 := Lib.hid (fun (V : World) => cell_one_new V (.int .i64 (y - 1)) 3)
   clear hy htk hpl
   go_wp2_with (at_builtin; refine wpList_append_own _ rfl _ _ 51 rfl B 3 j0 _ 1 8 Tryz.underlying51 hj hy0 hy1 hy2 rfl (by decide) _ _ _ rfl (hE.out.row.alloc _) ⟨wr.heap.size, 0, none⟩ 1 1 [.int .i64 (y - 1)] rfl rfl (by simpa using HC1.out wr) (by simp [Value.oneCell']) (by rw [HPL.out]; unfold maxLen; omega) (by rw [HPL.out]; omega) (by simp; omega) ?_; intro v' w4 hown' hgrow hnil'; obtain ⟨A', cap', hv', -, -⟩ := own_len hown'; subst hv'; have hFa := hE.out.mid _ hgrow; obtain ⟨zz0, zz1, zz2, zz3, zz4⟩ := hFa.z; have y4 := hFa.fz 4; have HO := Lib.hid hown'; have HGW := Lib.hid hgrow; clear hown' hgrow hnil' hFa z0 z1 z2 z3 z4)
   go_roundw
   case rel => exact ⟨k + 1, _, by omega, by go_num, by rw [HT.out]; exact Lib.hid (hE.out.push _ HGW.out (y - 1) HYW.out HO.out)⟩
   case measure => simp [intOf]; omega
  ·obtain rfl : k = xc.length := by omega
   rw [List.take_length] at hE
   have hgg : decide ((xc.length : Int) < (xc.length : Int)) = false := decide_eq_false (by omega)
   obtain ⟨C, cc, hv, hcl, hC, hCs⟩ := crow_own hE.out.row hE.out.wf
   subst hv
   obtain ⟨z0, z1, z2, z3, z4⟩ := hE.out.f5.z
   obtain ⟨u0, u1, u2, u3, u4⟩ := hE.out.f4.z
   have y0 := hE.out.f4.fz 0
   have y1 := hE.out.f4.fz 1
   have y2 := hE.out.f4.fz 2
   have y3 := hE.out.f4.fz 3
   have y4 := hE.out.f4.fz 4
   have HF4 := Lib.hid (((((hE.out.f4.set (i := 0) (.int .i64 xt) rfl).set (i := 1) (.int .i64 g) rfl).set (i := 2) (.int .i64 (xr - xa)) rfl).set (i := 3) (.int .i64 (xk - 1)) rfl).set (i := 4) (.slice C xc.length cc) rfl)
   have HK4 := Lib.hid ((((((Kept.refl [b4] wr).set b4 0 (.int .i64 xt) (by simp)).set b4 1 (.int .i64 g) (by simp)).set b4 2 (.int .i64 (xr - xa)) (by simp)).set b4 3 (.int .i64 (xk - 1)) (by simp)).set b4 4 (.slice C xc.length cc) (by simp))
   have HCS := Lib.hid hCs
   have HCC := Lib.hid hC
   have HLT := hE.out.lt
   have HGE := Lib.hid hE.out.ge
   have HSZ := Lib.hid hE.out.sz
   have HBL := Lib.hid hE.out.bel
   have HWW := HW
   have HNE := Lib.hid (show (xc.map (· - 1)) ≠ [] → ∀ a, C = some a → B ≤ a.block ∧ ∃ cs fr, wr.heap[a.block]? = some (.cells cs 3 fr) from HCS.out)
   clear hCs hC hcl hE
   go_wp2
   generalize (((((wr.setCell ⟨b4, 0, none⟩ (.int .i64 xt)).setCell ⟨b4, 1, none⟩ (.int .i64 g)).setCell ⟨b4, 2, none⟩ (.int .i64 (xr - xa))).setCell ⟨b4, 3, none⟩ (.int .i64 (xk - 1))).setCell ⟨b4, 4, none⟩ (.slice C xc.length cc)) = W9 at *
   refine bodyPost_ret (results_raw rfl _ _ b4 _ _ _ _ _ rfl HF4.out) rfl ?_
   have hne : (xc.map (· - 1)) ≠ [] → ∀ a, C = some a → a.block ∉ [b4] := fun h a ha hm => by
    have := (HNE.out h a ha).1
    rw [List.mem_singleton] at hm
    omega
   refine ⟨C, cc, by simp [fvV, encJ], HCC.out.kept HK4.out hne, fun h a ha => ?_, ?_⟩
   ·obtain ⟨h1, cs, fr, h2⟩ := HNE.out h a ha
    refine ⟨by have := HGE.out; omega, cs, fr, (HK4.out.block a.block (Array.getElem?_eq_some_iff.1 h2).1 (hne h a ha)).trans h2⟩
   ·exact HBL.out.trans (HK4.out.below HBL.out.size (by simp; have := HGE.out; omega))
end
section
open Go.RowKit
def EncodePost (r : Option (List Fv)) (w : World) (e : Ending) (w' : World) : Prop :=
 (match r with
 | none => e = .returned (.tuple #[.slice none 0 0, .bool false])
 | some rs => ∃ v gs, e = .returned (.tuple #[v, .bool true]) ∧ FOwn 71 w.heap.size w' v gs ∧ gs.map (·.x) = rs) ∧ Below w.heap.size w w'
structure EIn (w : World) (A : Option Addr) (n cap M : Nat) (wr : World) (v : Value) (rs js : List Fv) : Prop where
 own : ∃ gs, FOwn 71 w.heap.size wr v gs ∧ gs.map (·.x) = rs
 arr : Arr A n cap M wr js
 bel : Below w.heap.size w wr
 ge : w.heap.size ≤ M
def LtE (W1 W : World) : Prop := Below W1.heap.size W1 W
abbrev E8 (W1 : World) (b9 M : Nat) (x : Fv) (A : Option Addr) (n cap : Nat) (W : World) : Prop :=
 W.cell? ⟨b9, 0, none⟩ = some (.int .i64 x.t) ∧ W.cell? ⟨b9, 1, none⟩ = some (.int .i64 x.a) ∧ W.cell? ⟨M + 1, 0, none⟩ = some (.slice A n cap) ∧ W.cell? ⟨M + 1, 1, none⟩ = some (.map (some M)) ∧ LtE W1 W
theorem E8.step {W1 : World} {b9 M : Nat} {x : Fv} {A : Option Addr} {n cap : Nat} {W W' : World} (h : E8 W1 b9 M x A n cap W) (hb : Below W.heap.size W W') : E8 W1 b9 M x A n cap W' := by
 obtain ⟨h0, h1, h2, h3, h4⟩ := h
 have hc := cells_below hb
 exact ⟨hc _ _ _ h0, hc _ _ _ h1, hc _ _ _ h2, hc _ _ _ h3, Below.trans h4 (hb.mono (Below.size h4))⟩
theorem fb_row {w w' : World} {b B e size n : Nat} {T : TypeId} {v0 v1 v2 v3 v4 v : Value} {xs : List Value} (h : FB w b T v0 v1 v2 v3 v4) (hr : w.ownsRow B e size v n xs) (hT : T ≠ e) (hg : w.grownBy w' v.ownBlock) : FB w' b T v0 v1 v2 v3 v4 := by
 refine h.kept (X := v.ownBlock.toList) (kept_grown hg (fun k hk => by rw [hk]; simp)) (fun hm => ?_)
 rw [Option.mem_toList] at hm
 exact own_ne hr h.is hT hm
theorem FAt.news (w : World) (x : Fv) (A : Option Addr) (cap : Nat) (T : TypeId) (hw : FvW x) (hs : CRow w A cap x.c) : ∀ j u, (fvL x A cap)[j]? = some u → (w.alloc (.cells #[.int .i64 x.t, .int .i64 x.a, .int .i64 x.r, .int .i64 x.k, .slice A x.c.length cap] T)).cell? ((⟨w.heap.size, 0, none⟩ : Addr).add j) = some u := fun j u hu => by
 have := (FAt.new w x A cap T hw hs).r j u hu
 rw [Nat.zero_add] at this
 rw [add_none, Nat.zero_add]
 exact this
theorem encode_bad (A R : Option Addr) (cap rc : Nat) (ts : List Ts) (js : List Fv) (w : World) (hT : Row w A cap ts) (hR : FRow w R rc js) (hb : legS ts js = false) :
  Calls Tryz.prog 15 #[.slice A ts.length cap, .slice R js.length rc] w (EncodePost none w) := by
 have K := legal_any A R cap rc ts js w hT hR
 rw [hb] at K
 have K := Lib.hid K
 clear hT hR hb
 go_enter Tryz.func15, Tryz.ntmps15
 go_wp2_with (go_at_call 38; (with_reducible refine K.out.mono ?_); rintro e w1 ⟨rfl, h1⟩)
 refine bodyPost_ret (results_tmp2 rfl _ _ _) rfl ?_
 exact ⟨rfl, h1⟩
theorem encode_good (A R : Option Addr) (cap rc : Nat) (ts : List Ts) (js : List Fv) (w : World) (hT : Row w A cap ts) (hR : FRow w R rc js) (hb : legS ts js = true) :
  Calls Tryz.prog 15 #[.slice A ts.length cap, .slice R js.length rc] w (EncodePost (encF ts [] js) w) := by
 obtain ⟨i0, hi, hz0, hz1, hz2⟩ := info_parts infoRs
 have K := legal_any A R cap rc ts js w hT hR
 rw [hb] at K
 rw [legS, Bool.and_eq_true, decide_eq_true_eq] at hb
 obtain ⟨⟨h0, hl⟩, hlf⟩ := hb
 have hv := vs_of h0
 have hgood := legF_good hv js [] (by simp) hlf
 have hle := hR.le
 have hmx := hR.mx
 have HV := Lib.hid hv
 have ROW := Lib.hid hT
 have RAW := Lib.hid hR
 have HLF := Lib.hid hlf
 have HGD := Lib.hid hgood
 have K := Lib.hid K
 clear h0 hT hR hv hlf hgood
 have hmm := @run_makeMap Tryz.prog
 go_enter Tryz.func15, Tryz.ntmps15
 go_upto_region 5 with (go_at_call 38; (with_reducible refine K.out.mono ?_); rintro e w1 ⟨rfl, h1⟩)
 have A0 := Arr.new A ts.length cap w1
 have B0 : Below w.heap.size w ((w1.alloc (.map #[] 0)).alloc (.cells #[.slice A ts.length cap, .map (some w1.heap.size)] 88)) := (h1.alloc h1.size _).alloc (by have := h1.size; simp; omega) _
 have HM := h1.size
 generalize ((w1.alloc (.map #[] 0)).alloc (.cells #[.slice A ts.length cap, .map (some w1.heap.size)] 88)) = W0 at *
 generalize w1.heap.size = M at *
 have A0 := Lib.hid A0
 have B0 := Lib.hid B0
 clear hmm h1
 go_wp2
 go_loopw [6, 20] (fun v i wr => ∃ k : Nat, k ≤ js.length ∧ i = .int .i64 k ∧ Hid (EIn w A ts.length cap M wr v (encA ts [] (js.take k)) (js.take k)) ∧ Hid (∀ (i : Nat) (x : Fv), i < k → js[i]? = some x → gapI ts (js.take i) x < 1048576)) (fun _ i _ => js.length - (intOf i).toNat)
 case atStart => exact ⟨0, Nat.zero_le _, rfl, Lib.hid ⟨⟨[], FOwn.nil _ _ _, rfl⟩, A0.out, B0.out, HM⟩, Lib.hid (by omega)⟩
 case round =>
  obtain ⟨k, hk, rfl, hI, hgap⟩ := hrel
  by_cases hlt : k < js.length
  ·obtain ⟨rb, ro, x, C, cc, rfl, hx, hrb, hF⟩ := RAW.out.get (k := k) hlt
   have hF := hF.later hI.out.bel
   have c0 := hF.c0
   have c1 := hF.c1
   have c2 := hF.c2
   have c3 := hF.c3
   have c4 := hF.c4
   have hi0 : (0 : Int) ≤ (k : Int) := by omega
   have hi1 : (k : Int) < (js.length : Int) := by omega
   have hleg := legF_get js [] k x HLF.out hx
   rw [List.nil_append] at hleg
   obtain ⟨⟨t0, t1⟩, ⟨a0, a1⟩, ⟨r0, r1⟩, ⟨k0, k1⟩, hfit⟩ := legJ_parts hleg
   have hyo := HV.out.tk x.t
   have hn0 := soon_nn HV.out (fun j hj => (HGD.out j (List.mem_of_mem_take hj)).2.2.1) (js := js.take k) x.t
   have hfl := fit_len _ x.c x.k (by omega) hfit
   have hfp := fit_pos _ x.c x.k hfit
   have hgk : ∀ j ∈ js.take k, 0 ≤ j.t ∧ j.t < ts.length ∧ 0 ≤ j.a ∧ j.a ≤ 35184372088832 := fun j hj => HGD.out j (List.mem_of_mem_take hj)
   have HGK := Lib.hid hgk
   have yc1 := hyo.c1
   have yj1 := hyo.j1
   have hxr : in64 (x.r - x.a) := ⟨by omega, by omega⟩
   have hxl : x.c.length ≤ 2147483647 := by omega
   have HX := Lib.hid hx
   have HF := Lib.hid hF
   have HPP := Lib.hid (show in64 (x.r - x.a) ∧ 1 ≤ x.k ∧ (∀ y ∈ x.c, 1 ≤ y) ∧ x.c.length ≤ 2147483647 from ⟨hxr, k0, hfp, hxl⟩)
   have HGI : Hid (gapI ts (js.take k) x = x.a - soonI ts (js.take k) x.t) := Lib.hid rfl
   have hsb : 0 ≤ soonI ts (js.take k) x.t ∧ soonI ts (js.take k) x.t ≤ x.a ∧ x.a ≤ 17592186044416 := ⟨hn0, a0, a1⟩
   clear hF hx hleg t0 t1 a0 a1 r0 r1 k0 k1 hfit hyo hn0 hfl hfp hgk yc1 yj1 hxr hxl
   go_upto_region 8 with (fail)
   have F1 := Lib.hid (FAt.new wr x C cc 74 HF.out.wf HF.out.s)
   have FB1 := Lib.hid (FB.new wr 74 (.int .i64 x.t) (.int .i64 x.a) (.int .i64 x.r) (.int .i64 x.k) (.slice C x.c.length cc))
   have B1 : Hid (Below wr.heap.size wr (wr.alloc (.cells #[.int .i64 x.t, .int .i64 x.a, .int .i64 x.r, .int .i64 x.k, .slice C x.c.length cc] 74))) := Lib.hid ((Below.refl _ _).alloc (Nat.le_refl _) _)
   generalize (wr.alloc (.cells #[.int .i64 x.t, .int .i64 x.a, .int .i64 x.r, .int .i64 x.k, .slice C x.c.length cc] 74)) = W1 at *
   have BW := Lib.hid (hI.out.bel.trans (B1.out.mono hI.out.bel.size))
   have AW := Lib.hid (hI.out.arr.later B1.out)
   have HGE := Lib.hid hI.out.ge
   obtain ⟨gs, hG, hgs⟩ := hI.out.own
   have HG1 := Lib.hid (hG.later B1.out)
   have HGS := Lib.hid hgs
   generalize wr.heap.size = b9 at *
   clear c0 c1 c2 c3 c4 hI hG hgs
   obtain ⟨f0, f1, f2, f3, f4⟩ := F1.out.z
   have HD0 : Hid (E8 W1 b9 M x A ts.length cap W1.drew) := Lib.hid (E8.step (W := W1) ⟨f0, f1, AW.out.c0, AW.out.c1, Below.refl _ _⟩ (below_drew W1))
   have KS : Hid (∀ W, E8 W1 b9 M x A ts.length cap W → Calls Tryz.prog 39 #[.agg #[.slice A ts.length cap, .map (some M)], .int .i64 x.t] W fun e w' => e = .returned (.int .i64 (soonI ts (js.take k) x.t)) ∧ Below W.heap.size W w') :=
    Lib.hid fun W hD => (AW.out.later hD.2.2.2.2).soon ((ROW.out.later BW.out).later hD.2.2.2.2) HV.out x.t HGK.out
   obtain ⟨hsb1, hsb2, hsb3⟩ := hsb
   have HEN := Lib.hid (fun (W : World) (g : Int) (hb : Below W1.heap.size W1 W) (hg : in64 g) => encoded_any x C cc g W F1.out.wf (F1.out.s.later hb) hg HPP.out.1 HPP.out.2.1 HPP.out.2.2.1 HPP.out.2.2.2)
   generalize soonI ts (js.take k) x.t = sp at *
   have hwg : IntKind.i64.wrap (x.a - sp) = x.a - sp := IntWalk.i64_in _ (by omega)
   clear f0 f1 f2 f3 f4
   go_region_held_law (fun W => E8 W1 b9 M x A ts.length cap W)
    (first | (with_reducible assumption) | (with_reducible exact HD0.out) | (with_reducible exact HD2.out) | fail)
    (first
    | (go_at_call 39; (with_reducible refine (KS.out _ HD0.out).mono ?_); rintro e w2 ⟨rfl, h2⟩; have HD2 := Lib.hid (E8.step HD0.out h2))
    | fail)
   have H2 : Hid (Below W1.heap.size W1 w2) := Lib.hid HD2.out.2.2.2.2
   obtain ⟨g, hg⟩ : ∃ g, x.a - sp = g := ⟨_, rfl⟩
   have hg0 : 0 ≤ g ∧ g ≤ 17592186044416 := by omega
   rw [hg] at HGI ⊢
   clear hwg hg hsb1 hsb2 hsb3
   by_cases hbig : g ≥ 1048576
   ·have d1 : decide (g ≥ 1048576) = true := decide_eq_true hbig
    have d2 : decide (1048576 ≤ g) = true := decide_eq_true hbig
    have HN : Hid (encF ts [] js = none) := Lib.hid (encF_none ts js [] k x HX.out (by rw [List.nil_append, HGI.out]; exact hbig))
    go_wp2
    refine bodyPost_ret (results_tmp2 rfl _ _ _) rfl ?_
    exact ⟨by rw [HN.out]; rfl, BW.out.trans (H2.out.mono BW.out.size)⟩
   ·have d1 : decide (g ≥ 1048576) = false := decide_eq_false hbig
    have d2 : decide (1048576 ≤ g) = false := decide_eq_false hbig
    have hg64 : in64 g := ⟨by omega, by omega⟩
    have FB2 := Lib.hid (FB1.out.later H2.out)
    obtain ⟨z0, z1, z2, z3, z4⟩ := FB2.out.z
    have hgl : gs.length = k := by
     have := congrArg List.length HGS.out
     rw [List.length_map, encA_len, List.length_take] at this
     omega
    obtain ⟨Av, cv, hvv, -, -⟩ := own_len HG1.out.row
    subst hvv
    rw [hgl] at HG1 ⊢
    have hw := HPP.out
    have HRW : Hid (FvW (encJ g x)) := Lib.hid ⟨F1.out.wf.t, hg64, hw.1, ⟨by have := F1.out.wf.k.1; have := hw.2.1; show _ ≤ x.k - 1; omega, by have := F1.out.wf.k.2; show x.k - 1 ≤ _; omega⟩⟩
    have HEN2 := Lib.hid (HEN.out w2 g H2.out hg64)
    have HGL := Lib.hid hgl
    clear hw hgl
    have hb2s : w.heap.size ≤ w2.heap.size := by have := BW.out.size; have := H2.out.size; omega
    go_upto_region 12 with (first
     | (go_at_call 40; (with_reducible refine HEN2.out.mono ?_); rintro e w3 ⟨C3, cc3, rfl, hC3, hs3, h3⟩; have H3 := Lib.hid h3; have HC3 := Lib.hid hC3; have HS3 := Lib.hid hs3; have hb3s : w.heap.size ≤ w3.heap.size := Nat.le_trans hb2s h3.size; have HFA := Lib.hid (FAt.news w3 (encJ g x) C3 cc3 71 HRW.out hC3); have HG3 := Lib.hid ((HG1.out.later H2.out).later h3); clear hC3 hs3 h3)
     | (at_builtin; refine wpList_append_own _ rfl _ _ 35 rfl w.heap.size 71 i0 _ 5 56 Tryz.underlying35 hi hz0 hz1 hz2 rfl (by decide) _ k (gvC gs) rfl (by have := HG3.out.row; rw [HGL.out] at this; exact this.alloc _) ⟨w3.heap.size, 0, none⟩ 1 1 (fvL (encJ g x) C3 cc3) rfl rfl HFA.out (fvL_one _ _ _) (by unfold maxLen; omega) (by omega) (by simp; omega) ?_; intro v' w4 hown' hgrow hnil'; obtain ⟨Aw, cw, hvw, -, -⟩ := own_len hown'; subst hvw; have HO := Lib.hid hown'; have HGW := Lib.hid hgrow; clear hown' hgrow hnil'))
    have ba : Below w3.heap.size w3 (w3.alloc (.cells #[.int .i64 (encJ g x).t, .int .i64 (encJ g x).a, .int .i64 (encJ g x).r, .int .i64 (encJ g x).k, .slice C3 (encJ g x).c.length cc3] 71)) := (Below.refl _ _).alloc (Nat.le_refl _) _
    have hO : GOk 71 w.heap.size (w3.alloc (.cells #[.int .i64 (encJ g x).t, .int .i64 (encJ g x).a, .int .i64 (encJ g x).r, .int .i64 (encJ g x).k, .slice C3 (encJ g x).c.length cc3] 71)) ⟨encJ g x, C3, cc3⟩ := ⟨HRW.out, HC3.out.later ba, fun hne a ha => by
     obtain ⟨_, cs, fr, ht⟩ := HS3.out hne a ha
     exact .inr ⟨cs, _, fr, (ba.block a.block (Array.getElem?_eq_some_iff.1 ht).1).trans ht, by decide⟩⟩
    have hrow3 := (HG3.out.later ba).row
    have hG4 := (HG3.out.later ba).push hO (by have := HO.out; rw [HGL.out]; exact this) HGW.out
    have hA4 := (((AW.out.later H2.out).later H3.out).later ba).grown hrow3 (by decide) HGW.out
    have hF4 := fb_row (((FB1.out.later H2.out).later H3.out).later ba) hrow3 (by decide) HGW.out
    have hb13 : Below w.heap.size w w3 := (BW.out.trans (H2.out.mono BW.out.size)).trans (H3.out.mono hb2s)
    have hB4 : Below w.heap.size w w4 := (hb13.trans (ba.mono hb3s)).grown HGW.out (by simp; omega) (fun q hq => (hrow3.lt q hq).1)
    have HG4 := Lib.hid hG4
    have HA4 := Lib.hid hA4
    have HB4 := Lib.hid hB4
    have c1 := hA4.c0
    have c2 := hA4.c1
    have KN := Lib.hid (note_any A C ts.length cap cc M (lastF (js.take k)) x w4 hA4.map)
    obtain ⟨es, mc, hMap⟩ := hA4.map.is
    have HMAP := Lib.hid hMap
    clear z0 z1 z2 z3 z4 ba hO hrow3 hG4 hA4 hb13 hB4 hMap
    obtain ⟨z0, z1, z2, z3, z4⟩ := hF4.z
    clear hF4
    go_wp2_with (go_at_call 41; (with_reducible refine KN.out.mono ?_); rintro e w7 ⟨rfl, hm7, hk7⟩)
    go_roundw
    case rel =>
     refine ⟨k + 1, by omega, by go_num, Lib.hid ⟨⟨_, HG4.out.map hk7 HMAP.out HGE.out, ?_⟩, ?_, HB4.out.trans (hk7.below HB4.out.size (by simp; exact HGE.out)), HGE.out⟩, Lib.hid (fun i y hi hy => ?_)⟩
     ·rw [take_one HX.out, encA_snoc, List.nil_append, HGI.out, List.map_append, HGS.out]
      rfl
     ·rw [take_one HX.out]
      exact HA4.out.note hm7 hk7
     ·rcases Nat.lt_or_ge i k with h | h
      ·exact hgap.out i y h hy
      ·obtain rfl : i = k := by omega
       have hxy := HX.out
       rw [hy] at hxy
       obtain rfl := Option.some.inj hxy
       rw [HGI.out]
       omega
    case measure => simp [intOf]; omega
  ·obtain rfl : k = js.length := by omega
   have hgg : decide ((js.length : Int) < (js.length : Int)) = false := decide_eq_false (by omega)
   obtain ⟨gs, hG, hgs⟩ := hI.out.own
   have HB := Lib.hid hI.out.bel
   have HG := Lib.hid hG
   have HGS := Lib.hid hgs
   have HS : Hid (encF ts [] js = some (encA ts [] js)) := Lib.hid (encF_some ts js [] (fun i x hx => hgap.out i x (List.getElem?_eq_some_iff.1 hx).1 hx))
   clear hG hgs hI
   go_wp2
   refine bodyPost_ret (results_tmp2 rfl _ _ _) rfl ?_
   refine ⟨?_, HB.out⟩
   rw [HS.out]
   refine ⟨_, gs, rfl, HG.out, ?_⟩
   rw [HGS.out, List.take_length]
theorem encode_any (A R : Option Addr) (cap rc : Nat) (ts : List Ts) (js : List Fv) (w : World) (hT : Row w A cap ts) (hR : FRow w R rc js) :
  Calls Tryz.prog 15 #[.slice A ts.length cap, .slice R js.length rc] w (EncodePost (encS ts js) w) := by
 cases h : legS ts js with
 | true => rw [encS_good h]; exact encode_good A R cap rc ts js w hT hR h
 | false => rw [encS_bad h]; exact encode_bad A R cap rc ts js w hT hR h
end
end Go.Proofs.YthfkbbiaemmndaaGreatDoor
