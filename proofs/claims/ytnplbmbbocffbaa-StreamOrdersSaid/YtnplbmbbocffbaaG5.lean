/- Texts about the program, one after the other: RDec, JFewR, JRead, SBase, ClM, MaM, LowM. -/
import Derived.Test.YtnplbmbbocffbaaG4
import Derived.StillTailTactics
import Derived.Below
import Derived.WalkKit
import Derived.WalkMore
import Derived.ProofKit
import Derived.LaidMore
import Derived.Laws.AppendOwn
import Derived.Laws.CopyOwn
import Derived.Lib.Hide
import Derived.IntWalk
import Derived.Handy
import Derived.OwnWalk
import Derived.RangeFuncBox
import Derived.Deep.QuietTactic
import Derived.BigQuiet
import Derived.Deep.RegionHeld3
import Derived.Deep.RegionLaw
import Derived.BigRegion
import Derived.Deep.CutBlock
import Derived.Deep.DrawnRows
import Derived.Deep.LoopGhost
import Derived.Deep.MidRow
import Derived.Deep.Quiet
import Derived.Deep.RegionHeldLaw
import Derived.LoopIn
import Derived.LoopNIn
import Derived.TacticsInMore
import Derived.OwnWalkIn
import Derived.RangeFuncNested
import Derived.RangeFuncBound
import Derived.RangeFuncCalls
import Derived.RangeFuncLeaves
import Derived.RangeFuncWrites
import Derived.Shelf.Abstract
import Derived.Lib.SliceRun
import Derived.Deep.AppendSrc
import Derived.Deep.Upon
import Derived.Deep.DeepAppendWide
import Derived.OrdersIn
import Derived.RangeFuncRecord
import Derived.Sort.LoopGhostIn
/- The document's Decode. -/
namespace Go.Proofs.Ytnplbmbbocffbaa
open Go.RowKit
set_option linter.unusedVariables false
set_option linter.unusedSimpArgs false

theorem rcheck_g (A : Option Addr) (cap : Nat) (l : List Ts) (w : World) (hR : Row w A cap l) :
    Calls Try.prog 32 #[.slice A l.length cap] w fun e w' => ∃ a, e = .returned (.agg #[.int .i64 a, .int .i64 (chkAll l).2]) ∧ Below w.heap.size w w' :=
  (rcheckAll_any A cap l w hR).mono fun e w' h => ⟨_, h⟩
set_option maxRecDepth 100000 in
theorem got_field (a q : Int) (w : World) : (Instr.field 76 (.agg #[.int .i64 a, .int .i64 q]) 1).run Try.prog w = .ok (.int .i64 q) w := by rfl
set_option maxRecDepth 100000 in
set_option maxHeartbeats 4000000 in
theorem rdecode_bad (A R : Option Addr) (cap rc : Nat) (ts : List Ts) (rs : List Fv) (w : World) (hT : Row w A cap ts) (h0 : (chkAll ts).2 ≠ 0) :
    Calls Try.prog 13 #[.slice A ts.length cap, .slice R rs.length rc] w (DecodePost [] w) := by
  have K := rcheck_g A cap ts w hT
  have h1 : ((chkAll ts).2 != 0) = true := by simpa using h0
  generalize (chkAll ts).2 = q at *
  have K := Lib.hid K
  clear h0
  have hgf := got_field
  go_enter Try.func13, Try.ntmps13
  go_wp2_with (go_at_call 32; (with_reducible refine K.out.mono ?_); rintro e w1 ⟨a, rfl, h1⟩)
  go_ret
  exact ⟨_, [], rfl, FOwn.nil _ _ _, rfl, h1⟩

/-- A task in a block of its own. -/
theorem TAt.zz {w : World} {b : Nat} {x : Ts} (h : TAt w b 0 x) : w.cell? ⟨b, 0, none⟩ = some (.string x.n) ∧ w.cell? ⟨b, 1, none⟩ = some (.int .i64 x.c) ∧ w.cell? ⟨b, 2, none⟩ = some (.int .i64 x.t) ∧ w.cell? ⟨b, 3, none⟩ = some (.int .i64 x.d) ∧ w.cell? ⟨b, 4, none⟩ = some (.int .i64 x.j) ∧ w.cell? ⟨b, 5, none⟩ = some (.int .i64 x.q) ∧ w.cell? ⟨b, 6, none⟩ = some (.int .i64 x.p) :=
  ⟨h.c0, h.c1, h.c2, h.c3, h.c4, h.c5, h.c6⟩
theorem TAt.kept {X : List Nat} {w w' : World} {b o : Nat} {x : Ts} (h : TAt w b o x) (hk : Kept X w w') (hx : b ∉ X) : TAt w' b o x := h.keep fun i => hk.cell h.lt hx
theorem SecIn.later {B : Nat} {w w' : World} {v : Value} {pre : List Int} (h : SecIn B w v pre) (hb : Below w.heap.size w w') : SecIn B w' v pre := ⟨(Kept.of [] hb).row h.row (by simp), h.wf⟩
theorem SecIn.set {B : Nat} {w : World} {v : Value} {pre : List Int} (h : SecIn B w v pre) (b i : Nat) (u : Value) (hb : b < B) : SecIn B (w.setCell ⟨b, i, none⟩ u) v pre :=
  ⟨((Kept.refl [b] w).set b i u (by simp)).row h.row (fun g hg hm => by rw [List.mem_singleton] at hm; have := (h.row.lt g hg).1; omega), h.wf⟩
/-- A job that is being made, and its task. -/
structure RS (wr W : World) (b7 b8 : Nat) (y : Ts) (v0 v1 v2 v3 v4 : Value) : Prop where
  fb : FB W b7 37 v0 v1 v2 v3 v4
  tt : TAt W b8 0 y
  bel : Below wr.heap.size wr W
  ge : wr.heap.size ≤ b7
  ne : b8 ≠ b7
theorem RS.later {wr W W' : World} {b7 b8 : Nat} {y : Ts} {v0 v1 v2 v3 v4 : Value} (h : RS wr W b7 b8 y v0 v1 v2 v3 v4) (hb : Below W.heap.size W W') : RS wr W' b7 b8 y v0 v1 v2 v3 v4 :=
  ⟨h.fb.later hb, h.tt.later hb, h.bel.trans (hb.mono h.bel.size), h.ge, h.ne⟩
theorem RS.set {wr W : World} {b7 b8 i : Nat} {y : Ts} {v0 v1 v2 v3 v4 u0 u1 u2 u3 u4 : Value} (h : RS wr W b7 b8 y v0 v1 v2 v3 v4) (u : Value) (he : (#[v0, v1, v2, v3, v4].setIfInBounds i u) = #[u0, u1, u2, u3, u4]) : RS wr (W.setCell ⟨b7, i, none⟩ u) b7 b8 y u0 u1 u2 u3 u4 :=
  ⟨h.fb.set u he, h.tt.kept ((Kept.refl [b7] W).set b7 i u (by simp)) (by rw [List.mem_singleton]; exact h.ne), h.bel.setCell (p := ⟨b7, i, none⟩) h.ge u, h.ge, h.ne⟩
theorem RS.grown {wr W W' : World} {b7 b8 : Nat} {y : Ts} {v0 v1 v2 v3 v4 : Value} {row : Option Nat} (h : RS wr W b7 b8 y v0 v1 v2 v3 v4) (hg : W.grownBy W' row) (hr : ∀ k, row = some k → b7 < k ∧ b8 < k) : RS wr W' b7 b8 y v0 v1 v2 v3 v4 := by
  have hk : Kept row.toList W W' := kept_grown hg (fun k hk => by rw [hk]; simp)
  refine ⟨h.fb.kept hk (fun hm => ?_), h.tt.kept hk (fun hm => ?_), h.bel.grown hg h.bel.size (fun k hk => by have := hr k hk; have := h.ge; omega), h.ge, h.ne⟩
  · rw [Option.mem_toList] at hm; have := hr b7 hm; omega
  · rw [Option.mem_toList] at hm; have := hr b8 hm; omega
/-- The walk's state ahead of each job. -/
structure RIn (w wr : World) (v : Value) (js : List Fv) : Prop where
  own : ∃ gs, FOwn 37 w.heap.size wr v gs ∧ gs.map (·.x) = js
  bel : Below w.heap.size w wr
set_option maxRecDepth 100000 in
set_option maxHeartbeats 8000000 in
theorem rdecode_good (A R : Option Addr) (cap rc : Nat) (ts : List Ts) (rs : List Fv) (w : World) (hT : Row w A cap ts) (hR : FRow w R rc rs) (h0 : (chkAll ts).2 = 0) :
    Calls Try.prog 13 #[.slice A ts.length cap, .slice R rs.length rc] w (DecodePost (decS ts rs) w) := by
  obtain ⟨i0, hi, hz0, hz1, hz2⟩ := info_parts infoJs
  obtain ⟨j0, hj, hy0, hy1, hy2⟩ := info_parts info64
  have hv := vs_of h0
  have K := rcheck_g A cap ts w hT
  rw [h0] at K
  have hle := hR.le
  have hmx := hR.mx
  have hn0 := hv.n0
  have hn1 := hv.n1
  have HV := Lib.hid hv
  have ROW := Lib.hid hT
  have RAW := Lib.hid hR
  have K0 := Lib.hid K
  clear h0 hT hR hv K
  obtain ⟨n, hn⟩ : ∃ n, n = min rs.length 4096 := ⟨_, rfl⟩
  have hnl : (rs.take 4096).length = n := by rw [List.length_take]; omega
  have hn2 : n ≤ rs.length := by omega
  have hn3 : n ≤ rc := by omega
  have hn4 : n ≤ 4096 := by omega
  have HN := Lib.hid hn
  have HNL := Lib.hid hnl
  clear hn hnl
  have hgf := got_field
  go_enter Try.func13, Try.ntmps13
  go_upto_region 4 with (go_at_call 32; (with_reducible refine K0.out.mono ?_); rintro e w1 ⟨a, rfl, h1⟩)
  have HB1 := Lib.hid h1
  clear h1
  go_wp2
  go_loopw [5, 6] (fun v i wr => ∃ k : Nat, k ≤ n ∧ i = .int .i64 k ∧ Hid (RIn w wr v (decF ts [] ((rs.take 4096).take k)))) (fun _ i _ => n - (intOf i).toNat)
  case atStart => exact ⟨0, Nat.zero_le _, rfl, Lib.hid ⟨⟨[], FOwn.nil _ _ _, rfl⟩, HB1.out⟩⟩
  case round =>
    obtain ⟨k, hk, rfl, hI⟩ := hrel
    by_cases hlt : k < n
    · obtain ⟨rb, ro, x, C, cc, rfl, hx, hrb, hF⟩ := RAW.out.get (k := k) (by omega)
      have hF := hF.later hI.out.bel
      have g1 : decide ((k : Int) < (rs.length : Int)) = true := decide_eq_true (by omega)
      have g2 : decide ((k : Int) < 4096) = true := decide_eq_true (by omega)
      have g3 : decide (k < rs.length) = true := decide_eq_true (by omega)
      have hi0 : (0 : Int) ≤ (k : Int) := by omega
      have hi1 : (k : Int) < (rs.length : Int) := by omega
      have c0 := hF.c0
      have hpb := emod_bd x.t (ts.length : Int) (by omega)
      have K2 := Lib.hid (fun W => r8rest_any x.t (ts.length : Int) W hF.wf.t (by omega) (by omega))
      have K3 := Lib.hid (fun W => r8rest_any x.a 1048576 W hF.wf.a (by omega) (by omega))
      obtain ⟨p, hp⟩ : ∃ p : Nat, x.t % (ts.length : Int) = (p : Int) := ⟨(x.t % (ts.length : Int)).toNat, by omega⟩
      rw [hp] at K2 hpb
      have hab := emod_bd x.a 1048576 (by omega)
      obtain ⟨tb, tq, y, rfl, hy, hyw, htb, hT⟩ := ROW.out.get (k := p) (by omega)
      have hyt : tk ts (p : Int) = y := tk_get hy
      have hyo := HV.out.tk (p : Int)
      rw [hyt] at hyo
      have hT := hT.later hI.out.bel
      have tp0 : (0 : Int) ≤ (p : Int) := by omega
      have tp1 : (p : Int) < (ts.length : Int) := by omega
      generalize hga : x.a % 1048576 = ga at *
      have HGA := Lib.hid hga
      have HP := Lib.hid hp
      have HF := Lib.hid hF
      have HX := Lib.hid hx
      have HT := Lib.hid hT
      have HY := Lib.hid hyt
      have HYO := Lib.hid hyo
      clear hga hp hF hx hy hyt hyo hT
      go_upto_region 8 with (go_at_call 33; (with_reducible refine (K2.out _).mono ?_); rintro e w2 ⟨rfl, rfl⟩)
      have F1 := Lib.hid (FB.new wr 37 (.int .i64 (p : Int)) (.int .i64 0) (.int .i64 0) (.int .i64 0) (.slice none 0 0))
      have B1 : Hid (Below wr.heap.size wr (wr.alloc (.cells #[.int .i64 (p : Int), .int .i64 0, .int .i64 0, .int .i64 0, .slice none 0 0] 37))) := Lib.hid ((Below.refl _ _).alloc (Nat.le_refl _) _)
      have s1 : (wr.alloc (.cells #[.int .i64 (p : Int), .int .i64 0, .int .i64 0, .int .i64 0, .slice none 0 0] 37)).heap.size = wr.heap.size + 1 := by simp
      generalize (wr.alloc (.cells #[.int .i64 (p : Int), .int .i64 0, .int .i64 0, .int .i64 0, .slice none 0 0] 37)) = W1 at *
      obtain ⟨z0, z1, z2, z3, z4⟩ := F1.out.z
      have hT1 := HT.out.later B1.out
      have t0 := hT1.c0
      have t1 := hT1.c1
      have t2 := hT1.c2
      have t3 := hT1.c3
      have t4 := hT1.c4
      have t5 := hT1.c5
      have t6 := hT1.c6
      clear hT1 c0
      go_upto_region 9 with (fail)
      have HR2 := Lib.hid (show RS wr (W1.alloc (.cells #[.string y.n, .int .i64 y.c, .int .i64 y.t, .int .i64 y.d, .int .i64 y.j, .int .i64 y.q, .int .i64 y.p] 68)) wr.heap.size (wr.heap.size + 1) y (.int .i64 (p : Int)) (.int .i64 0) (.int .i64 0) (.int .i64 0) (.slice none 0 0) from
        ⟨F1.out.later ((Below.refl _ _).alloc (Nat.le_refl _) _), by have := TAt.new W1 y; rwa [s1] at this, B1.out.trans (((Below.refl _ _).alloc (Nat.le_refl _) _).mono B1.out.size), Nat.le_refl _, by omega⟩)
      generalize (W1.alloc (.cells #[.string y.n, .int .i64 y.c, .int .i64 y.t, .int .i64 y.d, .int .i64 y.j, .int .i64 y.q, .int .i64 y.p] 68)) = W2 at *
      obtain ⟨b8, hb8⟩ : ∃ b8, b8 = wr.heap.size + 1 := ⟨_, rfl⟩
      rw [← hb8] at HR2 ⊢
      obtain ⟨b7, hb7⟩ : ∃ b7, b7 = wr.heap.size := ⟨_, rfl⟩
      have HR2 : Hid (RS wr W2 b7 b8 y (.int .i64 (p : Int)) (.int .i64 0) (.int .i64 0) (.int .i64 0) (.slice none 0 0)) := by rw [hb7]; exact HR2
      rw [← hb7]
      clear z0 z1 z2 z3 z4 t0 t1 t2 t3 t4 t5 t6 s1 B1 F1 hb8 hb7
      obtain ⟨z0, z1, z2, z3, z4⟩ := HR2.out.fb.z
      have y1 := HR2.out.fb.fz 1
      have c1 := (HF.out.later HR2.out.bel).c1
      go_upto_region 10 with (go_at_call 33; (with_reducible refine (K3.out _).mono ?_); rintro e w2 ⟨rfl, rfl⟩)
      have HR3 := Lib.hid (HR2.out.set (i := 1) (.int .i64 ga) rfl)
      generalize W2.setCell ⟨b7, 1, none⟩ (.int .i64 ga) = W3 at *
      clear z0 z1 z2 z3 z4 y1 c1
      obtain ⟨js, hjs⟩ : ∃ js, decF ts [] ((rs.take 4096).take k) = js := ⟨_, rfl⟩
      rw [hjs] at hI
      have hjl : js.length = k := by rw [← hjs, decF_len]; have := HNL.out; simp; omega
      have hbd : Bd js := by rw [← hjs]; exact decF_bd HV.out _ [] Bd.nil
      have hsb := soon_bd HV.out hbd (p : Int)
      obtain ⟨gs, hG, hgs⟩ := hI.out.own
      obtain ⟨Aj, cj, rfl, hFr⟩ := hG.frow
      rw [hgs] at hFr
      have hgl : gs.length = js.length := by rw [← hgs, List.length_map]
      rw [hgl]
      have KL := Lib.hid (last_any Aj cj js (p : Int) W3 (hFr.later HR3.out.bel))
      have HJS := Lib.hid hjs
      have HG := Lib.hid hG
      have HGS := Lib.hid hgs
      have HGL := Lib.hid hgl
      have HFR := Lib.hid hFr
      have HIB := Lib.hid hI.out.bel
      have HSB := Lib.hid hsb
      have HBD := Lib.hid hbd
      have HJL := Lib.hid hjl
      clear hjs hG hgs hFr hI hgl hbd hsb hjl
      obtain ⟨z0, z1, z2, z3, z4⟩ := HR3.out.fb.z
      go_upto_region 11 with (go_at_call 34; (with_reducible refine KL.out.mono ?_); rintro e w2 ⟨lr, rfl, hlr, rfl⟩)
      have HLR := Lib.hid hlr
      have hav : (decJ ts js x).a = soonI ts js p + ga := by simp only [decJ, HP.out, HGA.out]
      have HAV := Lib.hid hav
      clear hav hlr
      go_upto_if 53 with (fail)
      go_cut [] from 17 to 131 (fun wx => ∃ av, RS wr wx b7 b8 y (.int .i64 (p : Int)) (.int .i64 av) (.int .i64 0) (.int .i64 0) (.slice none 0 0) ∧ av = soonI ts js p + ga)
      case first =>
        rcases HLR.out with ⟨rfl, hl⟩ | ⟨li, lx, rfl, hlx, hl⟩
        · have HZ : Hid (ga = soonI ts js p + ga) := Lib.hid (by rw [soonI, hl]; simp)
          go_wp2
          go_meet
          exact ⟨ga, HR3.out, HZ.out⟩
        · have hli : li < js.length := (List.getElem?_eq_some_iff.1 hlx).1
          have hla := HBD.out lx (List.mem_of_getElem? hlx)
          have hlb : lx.a ≤ 17592186044416 := by have := HJL.out; omega
          obtain ⟨jb, jo, lx', C', cc', rfl, hlx', hjb, hJ⟩ := HFR.out.get hli
          obtain rfl : lx = lx' := by rw [hlx] at hlx'; exact Option.some.inj hlx'
          have l1 := (hJ.later HR3.out.bel).c1
          have HZ : Hid (ga + lx.a + y.t = soonI ts js p + ga) := Lib.hid (by rw [soonI, hl, HY.out]; simp only; omega)
          have li0 : (0 : Int) ≤ (li : Int) := by omega
          have li1 : (li : Int) < (js.length : Int) := by omega
          have g4 : decide ((li : Int) ≥ 0) = true := decide_eq_true li0
          have yt0 := HYO.out.t0
          have yt1 := HYO.out.t1
          have hw1 : IntKind.i64.wrap (ga + lx.a) = ga + lx.a := IntWalk.i64_in _ (by omega)
          have hw2 : IntKind.i64.wrap (ga + lx.a + y.t) = ga + lx.a + y.t := IntWalk.i64_in _ (by omega)
          obtain ⟨t0, t1, t2, t3, t4, t5, t6⟩ := HR3.out.tt.zz
          have l1' : W3.drew.cell? ⟨jb, jo + li * 5 + 1, none⟩ = some (.int .i64 lx.a) := l1
          have z1' : W3.drew.cell? ⟨b7, 1, none⟩ = some (.int .i64 ga) := z1
          have t2' : W3.drew.cell? ⟨b8, 2, none⟩ = some (.int .i64 y.t) := t2
          have HR4 := Lib.hid ((HR3.out.later (below_drew W3)).set (i := 1) (.int .i64 (ga + lx.a + y.t)) rfl)
          have yf := (HR3.out.later (below_drew W3)).fb.fz 1
          clear hlx hla hl hlx' hJ
          go_wp2
          go_still_tail 12, (by kernel_rfl)
          change wpList _ _ _ _ _ W3.drew
          generalize W3.drew = W4 at *
          go_wp2
          go_meet
          exact ⟨_, HR4.out, HZ.out⟩
      case rest =>
        obtain ⟨av, hR4, hav2⟩ := hcut
        have HR4 := Lib.hid hR4
        have HAV2 : Hid (av = (decJ ts js x).a) := Lib.hid (by rw [HAV.out, hav2])
        have sb1 := HSB.out.1
        have sb2 := HSB.out.2
        have sb3 := HJL.out
        have sb4 : 0 ≤ av ∧ av ≤ 35184372088832 := by omega
        have yc0 := HYO.out.c0
        have yc1 := HYO.out.c1
        have yj0 := HYO.out.j0
        have yj1 := HYO.out.j1
        have yq0 := HYO.out.q0
        have yq1 := HYO.out.q1
        have hrb2 := emod_bd x.r (y.j + 1) (by omega)
        have hkb2 := emod_bd x.k y.c (by omega)
        have K4 : Hid (∀ W, Calls Try.prog 33 #[.int .i64 x.r, .int .i64 (y.j + 1)] W fun e w' => e = .returned (.int .i64 (x.r % (y.j + 1))) ∧ w' = W) := Lib.hid fun W => (r8rest_any x.r (y.j + 1) W HF.out.wf.r (by omega) (by omega)).mono fun e w' h => ⟨h.1, h.2.symm⟩
        have K5 : Hid (∀ W, Calls Try.prog 33 #[.int .i64 x.k, .int .i64 y.c] W fun e w' => e = .returned (.int .i64 (x.k % y.c)) ∧ w' = W) := Lib.hid fun W => (r8rest_any x.k y.c W HF.out.wf.k (by omega) (by omega)).mono fun e w' h => ⟨h.1, h.2.symm⟩
        have HDJ : Hid (decJ ts js x = ⟨p, av, av + x.r % (y.j + 1), 1 + x.k % y.c, secs y.q (1 + x.k % y.c) x.c⟩) := Lib.hid (by
          have := HAV2.out
          simp only [decJ, HP.out, HY.out, HGA.out] at this ⊢
          rw [this])
        generalize x.r % (y.j + 1) = rr at *
        generalize x.k % y.c = rk at *
        have hw3 : IntKind.i64.wrap (y.j + 1) = y.j + 1 := IntWalk.i64_in _ (by omega)
        have hw4 : IntKind.i64.wrap (av + rr) = av + rr := IntWalk.i64_in _ (by omega)
        have hw5 : IntKind.i64.wrap (1 + rk) = 1 + rk := IntWalk.i64_in _ (by omega)
        clear hR4 hav2 sb1 sb2 sb3 z0 z1 z2 z3 z4
        obtain ⟨z0, z1, z2, z3, z4⟩ := HR4.out.fb.z
        obtain ⟨t0, t1, t2, t3, t4, t5, t6⟩ := HR4.out.tt.zz
        have c2 := (HF.out.later HR4.out.bel).c2
        apply_assumption
        go_upto_region 13 with (fail)
        go_still_tail 13, (by kernel_rfl)
        still_call (K4.out _)
        repeat still_step
        refine wpStill_nil ?_
        change wpList _ _ _ _ _ wc.drew
        have HR5 := Lib.hid (HR4.out.later (below_drew wc))
        clear z0 z1 z2 z3 z4 t0 t1 t2 t3 t4 t5 t6 c2
        generalize wc.drew = W5 at *
        obtain ⟨z0, z1, z2, z3, z4⟩ := HR5.out.fb.z
        have y2 := HR5.out.fb.fz 2
        go_upto_region 14 with (fail)
        have HR6 := Lib.hid (HR5.out.set (i := 2) (.int .i64 (av + rr)) rfl)
        generalize W5.setCell ⟨b7, 2, none⟩ (.int .i64 (av + rr)) = W6 at *
        clear z0 z1 z2 z3 z4 y2
        obtain ⟨z0, z1, z2, z3, z4⟩ := HR6.out.fb.z
        obtain ⟨t0, t1, t2, t3, t4, t5, t6⟩ := HR6.out.tt.zz
        have c3 := (HF.out.later HR6.out.bel).c3
        go_still_tail 10, (by kernel_rfl)
        still_call (K5.out _)
        repeat still_step
        refine wpStill_nil ?_
        change wpList _ _ _ _ _ W6.drew
        have HR7 := Lib.hid (HR6.out.later (below_drew W6))
        clear z0 z1 z2 z3 z4 t0 t1 t2 t3 t4 t5 t6 c3
        generalize W6.drew = W7 at *
        have y3 := HR7.out.fb.fz 3
        obtain ⟨z0, z1, z2, z3, z4⟩ := HR7.out.fb.z
        go_upto_region 15 with (fail)
        have HR8 := Lib.hid (HR7.out.set (i := 3) (.int .i64 (1 + rk)) rfl)
        generalize W7.setCell ⟨b7, 3, none⟩ (.int .i64 (1 + rk)) = W8 at *
        clear z0 z1 z2 z3 z4 y3
        obtain ⟨z0, z1, z2, z3, z4⟩ := HR8.out.fb.z
        have kv1 : 1 ≤ 1 + rk ∧ 1 + rk ≤ 2147483647 := by omega
        generalize 1 + rk = kv at *
        have hs78 : b7 < W8.heap.size ∧ b8 < W8.heap.size := ⟨HR8.out.fb.lt, HR8.out.tt.lt⟩
        obtain ⟨Bs, hBs⟩ : ∃ Bs, W8.heap.size = Bs := ⟨_, rfl⟩
        rw [hBs] at hs78
        have HBS := Lib.hid hBs
        have hlc := HF.out.s.le
        have hmc := HF.out.s.mx
        go_wp2
        go_loopw [10, 11] (fun lf c wr2 => ∃ (m : Nat) (pre : List Int) (left : Int) (v : Value), m ≤ x.c.length ∧ c = .int .i64 m ∧ lf = .int .i64 left ∧ 0 ≤ left ∧ left ≤ kv ∧ (pre.length : Int) ≤ kv - left ∧ Hid (RS wr wr2 b7 b8 y (.int .i64 (p : Int)) (.int .i64 av) (.int .i64 (av + rr)) (.int .i64 kv) v) ∧ Hid (SecIn Bs wr2 v pre) ∧ Hid (secs y.q kv x.c = pre ++ secs y.q left (x.c.drop m)) ∧ Bs ≤ wr2.heap.size) (fun _ c _ => x.c.length - (intOf c).toNat)
        case atStart => exact ⟨0, [], kv, _, Nat.zero_le _, rfl, rfl, by omega, by omega, by simp, HR8, Lib.hid ⟨World.ownsRow_nil _ _ _ _, by simp⟩, Lib.hid rfl, by rw [HBS.out]; exact Nat.le_refl _⟩
        case round =>
          obtain ⟨m, pre, left, v, hm, rfl, rfl, l0, l1, hpl, hRS, hSI, hq, hbs⟩ := hrel
          have c4 := (HF.out.later hRS.out.bel).c4
          by_cases hgo : m < x.c.length ∧ 0 < left
          · obtain ⟨hml, hlp⟩ := hgo
            obtain ⟨cb, co, cut, rfl, hct, hcw, hcb, hcell⟩ := HF.out.s.get hml
            have hcell := (hRS.out.bel.cell (p := ⟨cb, co + m, none⟩) hcb).trans hcell
            have g6 : decide ((m : Int) < (x.c.length : Int)) = true := decide_eq_true (by omega)
            have g7 : decide (left > 0) = true := decide_eq_true hlp
            have g7' : decide (0 < left) = true := decide_eq_true hlp
            have m0 : (0 : Int) ≤ (m : Int) := by omega
            have m1 : (m : Int) < (x.c.length : Int) := by omega
            have hmb := min_bd y.q left yq0 (by omega)
            have hrb3 := emod_bd cut (min y.q left) (by omega)
            have K6 : Hid (∀ (W : World) (n' : Int), n' = min y.q left → Calls Try.prog 33 #[.int .i64 cut, .int .i64 n'] W fun e w' => e = .returned (.int .i64 (cut % min y.q left)) ∧ w' = W) := Lib.hid fun W n' hn' => by subst hn'; exact (r8rest_any cut (min y.q left) W hcw (by omega) (by omega)).mono fun e w' h => ⟨h.1, h.2.symm⟩
            have hd : x.c.drop m = cut :: x.c.drop (m + 1) := by
              obtain ⟨hlt', he⟩ := List.getElem?_eq_some_iff.1 hct
              rw [← he]
              exact (List.drop_eq_getElem_cons hlt')
            have hQ : secs y.q kv x.c = (pre ++ [1 + cut % min y.q left]) ++ secs y.q (left - (1 + cut % min y.q left)) (x.c.drop (m + 1)) := by rw [hq.out, hd, secs, if_neg (by omega)]; simp
            have HQ := Lib.hid hQ
            generalize cut % min y.q left = sc at *
            have hw6 : IntKind.i64.wrap (1 + sc) = 1 + sc := IntWalk.i64_in _ (by omega)
            obtain ⟨t0, t1, t2, t3, t4, t5, t6⟩ := hRS.out.tt.zz
            clear hd hQ hq hct
            go_upto_region 19 with (fail)
            go_still_tail 14, (by kernel_rfl)
            still_call (K6.out _ _ rfl)
            repeat still_step
            refine wpStill_nil ?_
            change wpList _ _ _ _ _ wr.drew
            have HR9 := Lib.hid (hRS.out.later (below_drew wr))
            have HS9 := Lib.hid (hSI.out.later (below_drew wr))
            have hb9 : Bs ≤ wr.drew.heap.size := hbs
            obtain ⟨t, ht⟩ : ∃ t, 1 + sc = t := ⟨_, rfl⟩
            rw [ht] at HQ
            have ht0 : 1 ≤ t ∧ t ≤ left := by omega
            clear t0 t1 t2 t3 t4 t5 t6 c4 hcell hRS hSI hbs K6
            generalize wr.drew = W9 at *
            obtain ⟨z0, z1, z2, z3, z4⟩ := HR9.out.fb.z
            have HC1 := Lib.hid (fun (V : World) => cell_one_new V (.int .i64 t) 2)
            have ba : Hid (Below W9.heap.size W9 (W9.alloc (.cells #[.int .i64 t] 2))) := Lib.hid ((Below.refl _ _).alloc (Nat.le_refl _) _)
            go_wp2_with (refine wpList_append_own _ rfl _ _ 22 rfl Bs 2 j0 _ 1 8 Try.underlying22 hj hy0 hy1 hy2 rfl (by decide) _ _ _ rfl (HS9.out.row.alloc _) ⟨W9.heap.size, 0, none⟩ 1 1 [.int .i64 t] rfl rfl (by simpa using HC1.out W9) (by simp [Value.oneCell']) (by unfold maxLen; omega) (by omega) (by simp; omega) ?_; intro v' w4 hown' hgrow hnil'; obtain ⟨A', cap', hv', -, -⟩ := own_len hown'; subst hv'; have HRa := Lib.hid ((HR9.out.later ba.out).grown hgrow (fun k hk => by have := (HS9.out.row.lt k hk).1; omega)); obtain ⟨zz0, zz1, zz2, zz3, zz4⟩ := HRa.out.fb.z; have y4 := HRa.out.fb.fz 4; have HO := Lib.hid hown'; have HGW := Lib.hid hgrow; clear hown' hgrow hnil' z0 z1 z2 z3 z4)
            go_roundw
            case rel =>
              have HRb := HRa.out.set (i := 4) (.slice A' (pre.length + 1) cap') rfl
              have hSb : SecIn Bs w4 (.slice A' (pre.length + 1) cap') (pre ++ [t]) := ⟨by rw [List.length_append, numL_snoc]; exact HO.out, fun y hy => by
                rcases List.mem_append.1 hy with hy | hy
                · exact HS9.out.wf y hy
                · obtain rfl := List.mem_singleton.1 hy
                  exact ⟨by omega, by omega⟩⟩
              exact ⟨m + 1, pre ++ [t], left - t, _, by omega, by go_num, rfl, by omega, by omega, by rw [List.length_append]; simp; omega, Lib.hid HRb, Lib.hid (hSb.set b7 4 _ (by omega)), HQ, by have h1 := HGW.out.size; rw [World.size_alloc] at h1; simp only [World.setCell]; simp; omega⟩
            case measure => simp [intOf]; omega
          · by_cases hml : m < x.c.length
            · have hl0 : left = 0 := by omega
              subst hl0
              have g6 : decide ((m : Int) < (x.c.length : Int)) = true := decide_eq_true (by omega)
              have hdone : secs y.q kv x.c = pre := by
                rw [hq.out, List.drop_eq_getElem_cons hml, secs, if_pos rfl, List.append_nil]
              have hSI2 := hSI.out
              obtain ⟨C7, cc7, hv7, -, hC7, hs7⟩ := crow_own hSI2.row hSI2.wf
              subst hv7
              obtain ⟨z0, z1, z2, z3, z4⟩ := hRS.out.fb.z
              have HJX : Hid (decJ ts js x = ⟨p, av, av + rr, kv, pre⟩) := Lib.hid (by rw [HDJ.out, hdone])
              have hwf : FvW ⟨(p : Int), av, av + rr, kv, pre⟩ := ⟨⟨by show _ ≤ (p : Int); omega, by show (p : Int) ≤ _; omega⟩, ⟨by show _ ≤ av; omega, by show av ≤ _; omega⟩, ⟨by show _ ≤ av + rr; omega, by show av + rr ≤ _; omega⟩, ⟨by show _ ≤ kv; omega, by show kv ≤ _; omega⟩⟩
              have HO := Lib.hid (show GOk 37 w.heap.size wr ⟨⟨(p : Int), av, av + rr, kv, pre⟩, C7, cc7⟩ from ⟨hwf, hC7, fun h a ha => by
                obtain ⟨_, cs, fr, ht⟩ := hs7 h a ha
                exact .inr ⟨cs, _, fr, ht, by decide⟩⟩)
              have hG9 := HG.out.later hRS.out.bel
              rw [HGL.out] at hG9
              have HG9 := Lib.hid hG9
              have HB9 := Lib.hid (HIB.out.trans (hRS.out.bel.mono HIB.out.size))
              have HFA := Lib.hid (fun j u hu => by
                have := (FAt.new wr ⟨(p : Int), av, av + rr, kv, pre⟩ C7 cc7 37 hwf hC7).r j u hu
                rw [Nat.zero_add] at this
                rw [add_none, Nat.zero_add]
                exact this : ∀ j u, (fvL ⟨(p : Int), av, av + rr, kv, pre⟩ C7 cc7)[j]? = some u → (wr.alloc (.cells #[.int .i64 (p : Int), .int .i64 av, .int .i64 (av + rr), .int .i64 kv, .slice C7 pre.length cc7] 37)).cell? ((⟨wr.heap.size, 0, none⟩ : Addr).add j) = some u)
              clear hSI hSI2 hC7 hs7 hwf hG9 hdone hq hRS
              go_wp2_with (refine wpList_append_own _ rfl _ _ 29 rfl w.heap.size 37 i0 _ 5 56 Try.underlying29 hi hz0 hz1 hz2 rfl (by decide) _ gs.length (gvC gs) rfl (HG9.out.row.alloc _) ⟨wr.heap.size, 0, none⟩ 1 1 (fvL ⟨(p : Int), av, av + rr, kv, pre⟩ C7 cc7) rfl rfl HFA.out (fvL_one _ _ _) (by have := HGL.out; have := HJL.out; unfold maxLen; omega) (by have := HGL.out; have := HJL.out; omega) (by have := HB9.out.size; simp; omega) ?_; intro v' w8 hown' hgrow hnil')
              go_roundw
              case rel =>
                have ba : Below wr.heap.size wr (wr.alloc (.cells #[.int .i64 (p : Int), .int .i64 av, .int .i64 (av + rr), .int .i64 kv, .slice C7 pre.length cc7] 37)) := (Below.refl _ _).alloc (Nat.le_refl _) _
                have hG8 := (HG9.out.later ba).push (HO.out.kept fun b hl _ => ba.block b hl) hown' hgrow
                have hL8 : Below w.heap.size w w8 := (HB9.out.trans (ba.mono HB9.out.size)).grown hgrow (by have := HB9.out.size; simp; omega) (fun q hq => (HG9.out.row.lt q hq).1)
                have hx4 : (rs.take 4096)[k]? = some x := by rw [List.getElem?_take_of_lt (by omega)]; exact HX.out
                refine ⟨k + 1, by omega, by go_num, Lib.hid ⟨⟨_, hG8, ?_⟩, hL8⟩⟩
                rw [take_one hx4, decF_snoc, HJS.out, HJX.out, List.map_append, HGS.out]
                rfl
              case measure => simp [intOf]; omega
            · have g6 : decide ((m : Int) < (x.c.length : Int)) = false := decide_eq_false (by omega)
              have g6' : decide (m < x.c.length) = false := decide_eq_false hml
              have hdone : secs y.q kv x.c = pre := by
                rw [hq.out, List.drop_eq_nil_of_le (by omega), secs, List.append_nil]
              have hSI2 := hSI.out
              obtain ⟨C7, cc7, hv7, -, hC7, hs7⟩ := crow_own hSI2.row hSI2.wf
              subst hv7
              obtain ⟨z0, z1, z2, z3, z4⟩ := hRS.out.fb.z
              have HJX : Hid (decJ ts js x = ⟨p, av, av + rr, kv, pre⟩) := Lib.hid (by rw [HDJ.out, hdone])
              have hwf : FvW ⟨(p : Int), av, av + rr, kv, pre⟩ := ⟨⟨by show _ ≤ (p : Int); omega, by show (p : Int) ≤ _; omega⟩, ⟨by show _ ≤ av; omega, by show av ≤ _; omega⟩, ⟨by show _ ≤ av + rr; omega, by show av + rr ≤ _; omega⟩, ⟨by show _ ≤ kv; omega, by show kv ≤ _; omega⟩⟩
              have HO := Lib.hid (show GOk 37 w.heap.size wr ⟨⟨(p : Int), av, av + rr, kv, pre⟩, C7, cc7⟩ from ⟨hwf, hC7, fun h a ha => by
                obtain ⟨_, cs, fr, ht⟩ := hs7 h a ha
                exact .inr ⟨cs, _, fr, ht, by decide⟩⟩)
              have hG9 := HG.out.later hRS.out.bel
              rw [HGL.out] at hG9
              have HG9 := Lib.hid hG9
              have HB9 := Lib.hid (HIB.out.trans (hRS.out.bel.mono HIB.out.size))
              have HFA := Lib.hid (fun j u hu => by
                have := (FAt.new wr ⟨(p : Int), av, av + rr, kv, pre⟩ C7 cc7 37 hwf hC7).r j u hu
                rw [Nat.zero_add] at this
                rw [add_none, Nat.zero_add]
                exact this : ∀ j u, (fvL ⟨(p : Int), av, av + rr, kv, pre⟩ C7 cc7)[j]? = some u → (wr.alloc (.cells #[.int .i64 (p : Int), .int .i64 av, .int .i64 (av + rr), .int .i64 kv, .slice C7 pre.length cc7] 37)).cell? ((⟨wr.heap.size, 0, none⟩ : Addr).add j) = some u)
              clear hSI hSI2 hC7 hs7 hwf hG9 hdone hq hRS
              go_wp2_with (refine wpList_append_own _ rfl _ _ 29 rfl w.heap.size 37 i0 _ 5 56 Try.underlying29 hi hz0 hz1 hz2 rfl (by decide) _ gs.length (gvC gs) rfl (HG9.out.row.alloc _) ⟨wr.heap.size, 0, none⟩ 1 1 (fvL ⟨(p : Int), av, av + rr, kv, pre⟩ C7 cc7) rfl rfl HFA.out (fvL_one _ _ _) (by have := HGL.out; have := HJL.out; unfold maxLen; omega) (by have := HGL.out; have := HJL.out; omega) (by have := HB9.out.size; simp; omega) ?_; intro v' w8 hown' hgrow hnil')
              go_roundw
              case rel =>
                have ba : Below wr.heap.size wr (wr.alloc (.cells #[.int .i64 (p : Int), .int .i64 av, .int .i64 (av + rr), .int .i64 kv, .slice C7 pre.length cc7] 37)) := (Below.refl _ _).alloc (Nat.le_refl _) _
                have hG8 := (HG9.out.later ba).push (HO.out.kept fun b hl _ => ba.block b hl) hown' hgrow
                have hL8 : Below w.heap.size w w8 := (HB9.out.trans (ba.mono HB9.out.size)).grown hgrow (by have := HB9.out.size; simp; omega) (fun q hq => (HG9.out.row.lt q hq).1)
                have hx4 : (rs.take 4096)[k]? = some x := by rw [List.getElem?_take_of_lt (by omega)]; exact HX.out
                refine ⟨k + 1, by omega, by go_num, Lib.hid ⟨⟨_, hG8, ?_⟩, hL8⟩⟩
                rw [take_one hx4, decF_snoc, HJS.out, HJX.out, List.map_append, HGS.out]
                rfl
              case measure => simp [intOf]; omega
    · obtain rfl : k = n := by omega
      obtain ⟨gs, hG, hgs⟩ := hI.out.own
      have HB := Lib.hid hI.out.bel
      have HG := Lib.hid hG
      have HGS := Lib.hid hgs
      clear hG hgs hI
      by_cases hkr : k < rs.length
      · have g1 : decide ((k : Int) < (rs.length : Int)) = true := decide_eq_true (by omega)
        have g2 : decide ((k : Int) < 4096) = false := decide_eq_false (by have := HN.out; omega)
        have g2' : decide (k < 4096) = false := decide_eq_false (by have := HN.out; omega)
        go_wp2
        go_ret
        refine ⟨_, gs, rfl, HG.out, ?_, HB.out⟩
        rw [HGS.out, decS, List.take_of_length_le (by rw [HNL.out]; exact Nat.le_refl _)]
      · have g1 : decide ((k : Int) < (rs.length : Int)) = false := decide_eq_false (by omega)
        have g1' : decide (k < rs.length) = false := decide_eq_false hkr
        go_wp2
        go_ret
        refine ⟨_, gs, rfl, HG.out, ?_, HB.out⟩
        rw [HGS.out, decS, List.take_of_length_le (by rw [HNL.out]; exact Nat.le_refl _)]
end Go.Proofs.Ytnplbmbbocffbaa
/- The law's few raw jobs. -/
namespace Go.Proofs.Ytnplbmbbocffbaa
open Go.RowKit
set_option linter.unusedVariables false
set_option linter.unusedSimpArgs false

def fewRS1 (r : Fv) : Fv := { r with a := r.a % 12, c := r.c.take 5 }
def fewRS (rs : List Fv) : List Fv := (rs.take 12).map fewRS1
def fewRSPost (rs : List Fv) (w : World) (e : Ending) (w' : World) : Prop := ∃ v gs, e = .returned v ∧ FOwn 80 w.heap.size w' v gs ∧ gs.map (·.x) = fewRS rs ∧ Below w.heap.size w w'
structure fewRSIn (w wr : World) (v : Value) (rs : List Fv) : Prop where
  own : ∃ gs, FOwn 80 w.heap.size wr v gs ∧ gs.map (·.x) = rs.map fewRS1
  bel : Below w.heap.size w wr
set_option maxRecDepth 100000 in
set_option maxHeartbeats 8000000 in
theorem fewR_any (R : Option Addr) (rc : Nat) (rs : List Fv) (w : World) (hR : FRow w R rc rs) :
    Calls Try.prog 14 #[.slice R rs.length rc, .int .i64 12] w (fewRSPost rs w) := by
  obtain ⟨i0, hi, hz0, hz1, hz2⟩ := info_parts infoRs
  have hle := hR.le
  have hmx := hR.mx
  have RAW := Lib.hid hR
  clear hR
  go_enter Try.func14, Try.ntmps14
  go_wp2
  go_loopw [5, 6] (fun v i wr => ∃ k : Nat, k ≤ min rs.length 12 ∧ i = .int .i64 k ∧ Hid (fewRSIn w wr v (rs.take k))) (fun _ i _ => 12 - (intOf i).toNat)
  case atStart => exact ⟨0, Nat.zero_le _, rfl, Lib.hid ⟨⟨[], FOwn.nil _ _ _, rfl⟩, Below.refl _ _⟩⟩
  case round =>
    obtain ⟨k, hk, rfl, hI⟩ := hrel
    have hk1 : k ≤ rs.length := by omega
    have hk2 : k ≤ 12 := by omega
    by_cases hlt : k < rs.length ∧ k < 12
    · obtain ⟨hl1, hl2⟩ := hlt
      obtain ⟨rb, ro, x, C, cc, rfl, hx, hrb, hF0⟩ := RAW.out.get (k := k) (by omega)
      have hF := hF0.later hI.out.bel
      have c0 := hF.c0
      have c1 := hF.c1
      have c2 := hF.c2
      have c3 := hF.c3
      have c4 := hF.c4
      have g1 : decide ((k : Int) < (rs.length : Int)) = true := decide_eq_true (by omega)
      have g2 : decide ((k : Int) < 12) = true := decide_eq_true (by omega)
      have g2' : decide (k < 12) = true := decide_eq_true (by omega)
      have hi0 : (0 : Int) ≤ (k : Int) := by omega
      have hi1 : (k : Int) < (rs.length : Int) := by omega
      obtain ⟨gs, hG, hgs⟩ := hI.out.own
      have hgl : gs.length = k := by
        have := congrArg List.length hgs
        rw [List.length_map, List.length_map, List.length_take] at this
        omega
      have hlc := hF.s.le
      have hmc := hF.s.mx
      have HSF : Hid (Safe 80 w.heap.size w C x.c) := Lib.hid (fun hne a ha => by
        obtain ⟨b, o, n, hA, _, _, hbl, _⟩ := hF0.s.get (k := 0) (by rcases Nat.eq_zero_or_pos x.c.length with h0 | h0; exact absurd (List.length_eq_zero_iff.1 h0) hne; exact h0)
        rw [ha] at hA
        cases hA
        exact .inl hbl)
      have hgb := emod_bd x.a 12 (by omega)
      have HGB := Lib.hid hgb
      have KR0 := fun W => r8rest_any x.a 12 W hF.wf.a (by omega) (by omega)
      obtain ⟨ga, hga⟩ : ∃ ga, x.a % 12 = ga := ⟨_, rfl⟩
      have KR1 := KR0
      rw [hga] at KR1
      have KR := Lib.hid KR1
      have HGA0 := Lib.hid hga
      clear hgb KR0 KR1 hga
      have HX := Lib.hid hx
      have HF := Lib.hid hF
      have HG := Lib.hid hG
      have HGA := Lib.hid hG
      have HGS := Lib.hid hgs
      have HGL := Lib.hid hgl
      have HBW := Lib.hid hI.out.bel
      clear hF hF0 hx hG hgs hgl hI
      go_upto_region 6 with (fail)
      have F1 := Lib.hid (FB.new wr 80 (.int .i64 x.t) (.int .i64 x.a) (.int .i64 x.r) (.int .i64 x.k) (.slice C x.c.length cc))
      have B1 : Hid (Below wr.heap.size wr (wr.alloc (.cells #[.int .i64 x.t, .int .i64 x.a, .int .i64 x.r, .int .i64 x.k, .slice C x.c.length cc] 80))) := Lib.hid ((Below.refl _ _).alloc (Nat.le_refl _) _)
      generalize (wr.alloc (.cells #[.int .i64 x.t, .int .i64 x.a, .int .i64 x.r, .int .i64 x.k, .slice C x.c.length cc] 80)) = W1 at *
      obtain ⟨bx, hbx⟩ : ∃ bx, bx = wr.heap.size := ⟨_, rfl⟩
      have F1 : Hid (FB W1 bx 80 (.int .i64 x.t) (.int .i64 x.a) (.int .i64 x.r) (.int .i64 x.k) (.slice C x.c.length cc)) := by rw [hbx]; exact F1
      have HBX : Hid (wr.heap.size ≤ bx) := Lib.hid (by rw [hbx]; exact Nat.le_refl _)
      rw [← hbx]
      clear c0 c1 c2 c3 c4 hbx
      obtain ⟨z0, z1, z2, z3, z4⟩ := F1.out.z
      have y1 := F1.out.fz 1
      go_upto_region 7 with (go_at_call 33; (with_reducible refine (KR.out _).mono ?_); rintro e w2 ⟨rfl, rfl⟩)
      have F2 := Lib.hid (F1.out.set (i := 1) (.int .i64 ga) rfl)
      have B2 : Hid (Below wr.heap.size wr (W1.setCell ⟨bx, 1, none⟩ (.int .i64 ga))) := Lib.hid (B1.out.setCell (p := ⟨bx, 1, none⟩) HBX.out _)
      generalize W1.setCell ⟨bx, 1, none⟩ (.int .i64 ga) = W2 at *
      clear z0 z1 z2 z3 z4 y1
      obtain ⟨z0, z1, z2, z3, z4⟩ := F2.out.z
      have y1 := F2.out.fz 1
      by_cases hlong : 5 < x.c.length
      · have g5 : decide ((x.c.length : Int) > 5) = true := decide_eq_true (by omega)
        have g5' : decide (5 < x.c.length) = true := decide_eq_true hlong
        have hc6 : (5 : Int) ≤ (cc : Int) := by omega
        have hcz : cc ≠ 0 := by omega
        have y4 := F2.out.fz 4
        have HCL : Hid (x.c.take 5 = x.c.take 5) := Lib.hid rfl
        have hc66 : (x.c.take 5).length = 5 := by rw [List.length_take]; omega
        have HC66 := Lib.hid hc66
        clear hc66
        go_upto_region 9 with (fail)
        have F3 := Lib.hid (F2.out.set (i := 4) (.slice C 5 cc) rfl)
        have B3 : Hid (Below wr.heap.size wr (W2.setCell ⟨bx, 4, none⟩ (.slice C 5 cc))) := Lib.hid (B2.out.setCell (p := ⟨bx, 4, none⟩) HBX.out _)
        generalize W2.setCell ⟨bx, 4, none⟩ (.slice C 5 cc) = W3 at *
        clear z0 z1 z2 z3 z4 y1 y4
        have G3 : Hid (GOk 80 w.heap.size W3 ⟨⟨x.t, ga, x.r, x.k, x.c.take 5⟩, C, cc⟩) := Lib.hid ⟨⟨HF.out.wf.t, ⟨by show _ ≤ ga; have := HGB.out; have := HGA0.out; omega, by show ga ≤ _; have := HGB.out; have := HGA0.out; omega⟩, HF.out.wf.r, HF.out.wf.k⟩, (HF.out.s.later B3.out).take 5, fun hne a ha => by
          rcases HSF.out (by intro h0; rw [h0] at hne; exact hne (by simp)) a ha with h1 | ⟨cs, T, fr, h1, h2⟩
          · exact .inl h1
          · exact .inl (by have := (Array.getElem?_eq_some_iff.1 h1).1; exact this)⟩
        obtain ⟨z0, z1, z2, z3, z4⟩ := F3.out.z
        have hO := G3.out
        have HFA := Lib.hid (fun j u hu => by
          have := (FAt.new W3 ⟨x.t, ga, x.r, x.k, x.c.take 5⟩ C cc 80 hO.wf hO.s).r j u hu
          rw [Nat.zero_add] at this
          rw [add_none, Nat.zero_add]
          simp only [HC66.out] at this
          exact this : ∀ j u, (fvL ⟨x.t, ga, x.r, x.k, x.c.take 5⟩ C cc)[j]? = some u → (W3.alloc (.cells #[.int .i64 x.t, .int .i64 ga, .int .i64 x.r, .int .i64 x.k, .slice C 5 cc] 80)).cell? ((⟨W3.heap.size, 0, none⟩ : Addr).add j) = some u)
        have HG2 := Lib.hid (HGA.out.later B3.out)
        clear hO
        go_wp2_with (refine wpList_append_own _ rfl _ _ 24 rfl w.heap.size 80 i0 _ 5 56 Try.underlying24 hi hz0 hz1 hz2 rfl (by decide) _ gs.length (gvC gs) rfl (HG2.out.row.alloc _) ⟨W3.heap.size, 0, none⟩ 1 1 (fvL ⟨x.t, ga, x.r, x.k, x.c.take 5⟩ C cc) rfl rfl HFA.out (fvL_one _ _ _) (by have := HGL.out; unfold maxLen; omega) (by have := HGL.out; omega) (by have := HBW.out.size; have := B3.out.size; simp; omega) ?_; intro v' w8 hown' hgrow hnil')
        go_roundw
        case rel =>
          have ba : Below W3.heap.size W3 (W3.alloc (.cells #[.int .i64 x.t, .int .i64 ga, .int .i64 x.r, .int .i64 x.k, .slice C 5 cc] 80)) := (Below.refl _ _).alloc (Nat.le_refl _) _
          have hG8 := (HG2.out.later ba).push (G3.out.kept fun b hl _ => ba.block b hl) hown' hgrow
          have hB2 := HBW.out.trans (B3.out.mono HBW.out.size)
          have hL8 : Below w.heap.size w w8 := (hB2.trans (ba.mono hB2.size)).grown hgrow (by have := hB2.size; simp; omega) (fun q hq => (HG2.out.row.lt q hq).1)
          refine ⟨k + 1, by omega, by go_num, Lib.hid ⟨⟨_, hG8, ?_⟩, hL8⟩⟩
          rw [take_one HX.out, List.map_append, List.map_append, HGS.out]
          simp [fewRS1, HCL.out, HGA0.out]
        case measure => simp [intOf]; omega
      · have g5 : decide ((x.c.length : Int) > 5) = false := decide_eq_false (by omega)
        have g5' : decide (5 < x.c.length) = false := decide_eq_false hlong
        have HCL : Hid (x.c.take 5 = x.c) := Lib.hid (List.take_of_length_le (by omega))
        go_upto_region 9 with (fail)
        have F3 := F2
        have B3 := B2
        clear z0 z1 z2 z3 z4 y1
        have G3 : Hid (GOk 80 w.heap.size W2 ⟨⟨x.t, ga, x.r, x.k, x.c⟩, C, cc⟩) := Lib.hid ⟨⟨HF.out.wf.t, ⟨by show _ ≤ ga; have := HGB.out; have := HGA0.out; omega, by show ga ≤ _; have := HGB.out; have := HGA0.out; omega⟩, HF.out.wf.r, HF.out.wf.k⟩, HF.out.s.later B3.out, fun hne a ha => by
          rcases HSF.out hne a ha with h1 | ⟨cs, T, fr, h1, h2⟩
          · exact .inl h1
          · exact .inl (by have := (Array.getElem?_eq_some_iff.1 h1).1; exact this)⟩
        obtain ⟨z0, z1, z2, z3, z4⟩ := F3.out.z
        have hO := G3.out
        have HFA := Lib.hid (fun j u hu => by
          have := (FAt.new W2 ⟨x.t, ga, x.r, x.k, x.c⟩ C cc 80 hO.wf hO.s).r j u hu
          rw [Nat.zero_add] at this
          rw [add_none, Nat.zero_add]
          exact this : ∀ j u, (fvL ⟨x.t, ga, x.r, x.k, x.c⟩ C cc)[j]? = some u → (W2.alloc (.cells #[.int .i64 x.t, .int .i64 ga, .int .i64 x.r, .int .i64 x.k, .slice C x.c.length cc] 80)).cell? ((⟨W2.heap.size, 0, none⟩ : Addr).add j) = some u)
        have HG2 := Lib.hid (HGA.out.later B3.out)
        clear hO
        go_wp2_with (refine wpList_append_own _ rfl _ _ 24 rfl w.heap.size 80 i0 _ 5 56 Try.underlying24 hi hz0 hz1 hz2 rfl (by decide) _ gs.length (gvC gs) rfl (HG2.out.row.alloc _) ⟨W2.heap.size, 0, none⟩ 1 1 (fvL ⟨x.t, ga, x.r, x.k, x.c⟩ C cc) rfl rfl HFA.out (fvL_one _ _ _) (by have := HGL.out; unfold maxLen; omega) (by have := HGL.out; omega) (by have := HBW.out.size; have := B3.out.size; simp; omega) ?_; intro v' w8 hown' hgrow hnil')
        go_roundw
        case rel =>
          have ba : Below W2.heap.size W2 (W2.alloc (.cells #[.int .i64 x.t, .int .i64 ga, .int .i64 x.r, .int .i64 x.k, .slice C x.c.length cc] 80)) := (Below.refl _ _).alloc (Nat.le_refl _) _
          have hG8 := (HG2.out.later ba).push (G3.out.kept fun b hl _ => ba.block b hl) hown' hgrow
          have hB2 := HBW.out.trans (B3.out.mono HBW.out.size)
          have hL8 : Below w.heap.size w w8 := (hB2.trans (ba.mono hB2.size)).grown hgrow (by have := hB2.size; simp; omega) (fun q hq => (HG2.out.row.lt q hq).1)
          refine ⟨k + 1, by omega, by go_num, Lib.hid ⟨⟨_, hG8, ?_⟩, hL8⟩⟩
          rw [take_one HX.out, List.map_append, List.map_append, HGS.out]
          simp [fewRS1, HCL.out, HGA0.out]
        case measure => simp [intOf]; omega
    · obtain ⟨gs, hG, hgs⟩ := hI.out.own
      have HB := Lib.hid hI.out.bel
      have HG := Lib.hid hG
      have HGS := Lib.hid hgs
      clear hG hgs hI
      by_cases hkr : k < rs.length
      · have g1 : decide ((k : Int) < (rs.length : Int)) = true := decide_eq_true (by omega)
        have g2 : decide ((k : Int) < 12) = false := decide_eq_false (by omega)
        have g2' : decide (k < 12) = false := decide_eq_false (by omega)
        have HK : Hid (k = 12) := Lib.hid (by omega)
        go_wp2
        go_ret
        refine ⟨_, gs, rfl, HG.out, ?_, HB.out⟩
        rw [HGS.out, fewRS, HK.out]
      · have g1 : decide ((k : Int) < (rs.length : Int)) = false := decide_eq_false (by omega)
        have g1' : decide (k < rs.length) = false := decide_eq_false hkr
        have HK : Hid (rs.take 12 = rs.take k) := Lib.hid (by rw [List.take_of_length_le (by omega), List.take_of_length_le (by omega)])
        go_wp2
        go_ret
        refine ⟨_, gs, rfl, HG.out, ?_, HB.out⟩
        rw [HGS.out, fewRS, HK.out]
end Go.Proofs.Ytnplbmbbocffbaa
/- Raw jobs that come in. -/
namespace Go.Proofs.Ytnplbmbbocffbaa
open Go.RowKit
set_option linter.unusedVariables false
set_option linter.unusedSimpArgs false

section
open Go.ChangeShapes Go.WideShapes Go.ChangeAt
variable {H : Type} {enc : TypeId × Value → H} {W : World} {base : Nat} {sp : Nat → Bool} {hd : Bool}
set_option maxRecDepth 100000 in
theorem read_cuts {fuel : Nat} {v : Value} {y : DataW H × List MemPlace} (h : DataW.trod enc Try.prog W base sp hd fuel 34 [v] = some y) :
    ∃ A cap l, v = .slice A l.length cap ∧ CRow W A cap l := by
  rcases DataW.trod_slice Try.underlying34 h with ⟨hcs, _⟩ | ⟨a, len, cap, elems, rest, n, _, hcs, _, _, hl', hm, hlen, hel, _, _⟩
  · obtain rfl : v = .slice none 0 0 := by simpa using hcs
    exact ⟨none, 0, [], rfl, CRow.nil _ _ (by omega)⟩
  · obtain rfl : v = .slice (some a) len cap := by simpa using hcs
    have c1 : Try.prog.cellsOf 3 = 1 := by kernel_rfl
    rw [c1] at hel
    unfold maxLen at hm
    rcases Nat.eq_zero_or_pos len with h0 | h0
    · subst h0
      exact ⟨_, cap, [], rfl, CRow.nil _ _ hm⟩
    have hsp := slice_spot hlen h0 (by omega) hel
    obtain ⟨ab, ao, asp⟩ := a
    obtain rfl : asp = none := by injection hsp
    clear hsp
    have key : ∀ i, i < len → ∃ x : Int, in64 x ∧ W.cell? ⟨ab, ao + i, none⟩ = some (.int .i64 x) := by
      intro i hi
      have h1 := hel i hi
      rw [List.getElem?_eq_getElem (by omega)] at h1
      obtain ⟨cl, hcs2, ht⟩ := Option.bind_eq_some_iff.1 h1
      obtain ⟨_, hcl, hat⟩ := World.cells?_some hcs2
      match cl, hcl, hat, ht with
      | [v0], _, hat, ht =>
        obtain ⟨z0, e0, _, w0⟩ := DataW.trod_int Try.underlying3 ht
        obtain rfl : v0 = .int .i64 z0 := by simpa using e0
        have := hat 0 (by simp)
        simp only [add_none, Nat.mul_one, Nat.add_zero] at this
        exact ⟨z0, in64_of w0, by simpa using this⟩
    obtain ⟨l, hl, hp⟩ := list_of len key
    subst hl
    refine ⟨some ⟨ab, ao, none⟩, cap, l, rfl, ⟨hl', hm, fun x hx => ?_, fun i x hx => ⟨ab, ao, rfl, (hp i x hx).2⟩⟩⟩
    obtain ⟨i, hi, rfl⟩ := List.getElem_of_mem hx
    exact (hp i _ (List.getElem?_eq_getElem hi)).1
set_option maxRecDepth 100000 in
theorem read_raws {fuel : Nat} {v : Value} {y : DataW H × List MemPlace} (h : DataW.trod enc Try.prog W base sp hd fuel 24 [v] = some y) :
    ∃ A cap l, v = .slice A l.length cap ∧ FRow W A cap l := by
  rcases DataW.trod_slice Try.underlying24 h with ⟨hcs, _⟩ | ⟨a, len, cap, elems, rest, n, _, hcs, _, _, hl', hm, hlen, hel, _, _⟩
  · obtain rfl : v = .slice none 0 0 := by simpa using hcs
    exact ⟨none, 0, [], rfl, FRow.nil _ _ (by omega)⟩
  · obtain rfl : v = .slice (some a) len cap := by simpa using hcs
    have c5 : Try.prog.cellsOf 80 = 5 := by kernel_rfl
    rw [c5] at hel
    unfold maxLen at hm
    rcases Nat.eq_zero_or_pos len with h0 | h0
    · subst h0
      exact ⟨_, cap, [], rfl, FRow.nil _ _ hm⟩
    have hsp := slice_spot hlen h0 (by omega) hel
    obtain ⟨ab, ao, asp⟩ := a
    obtain rfl : asp = none := by injection hsp
    clear hsp
    have key : ∀ i, i < len → ∃ x : Fv, ∃ C cc, FAt W ab (ao + i * 5) x C cc := by
      intro i hi
      have h1 := hel i hi
      have ci : Try.prog.cellsOf 3 = 1 := by kernel_rfl
      have cs : Try.prog.cellsOf 34 = 1 := by kernel_rfl
      rw [List.getElem?_eq_getElem (by omega)] at h1
      obtain ⟨cl, hcs2, ht⟩ := Option.bind_eq_some_iff.1 h1
      obtain ⟨_, hcl, hat⟩ := World.cells?_some hcs2
      obtain ⟨ys, n', _, _, _, hyl, hf⟩ := DataW.trod_struct Try.underlying80 ht
      match cl, hcl, hat, hf with
      | [v0, v1, v2, v3, v4], _, hat, hf =>
        have g0 : DataW.trod enc Try.prog W base sp hd n' 3 [v0] = ys[0]? := by
          have e : DataW.trod enc Try.prog W base sp hd n' 3 (([v0, v1, v2, v3, v4].drop 0).take (Try.prog.cellsOf 3)) = ys[0]? := hf 0 _ rfl
          rw [ci] at e
          exact e
        have g1 : DataW.trod enc Try.prog W base sp hd n' 3 [v1] = ys[1]? := by
          have e : DataW.trod enc Try.prog W base sp hd n' 3 (([v0, v1, v2, v3, v4].drop 1).take (Try.prog.cellsOf 3)) = ys[1]? := hf 1 _ rfl
          rw [ci] at e
          exact e
        have g2 : DataW.trod enc Try.prog W base sp hd n' 3 [v2] = ys[2]? := by
          have e : DataW.trod enc Try.prog W base sp hd n' 3 (([v0, v1, v2, v3, v4].drop 2).take (Try.prog.cellsOf 3)) = ys[2]? := hf 2 _ rfl
          rw [ci] at e
          exact e
        have g3 : DataW.trod enc Try.prog W base sp hd n' 3 [v3] = ys[3]? := by
          have e : DataW.trod enc Try.prog W base sp hd n' 3 (([v0, v1, v2, v3, v4].drop 3).take (Try.prog.cellsOf 3)) = ys[3]? := hf 3 _ rfl
          rw [ci] at e
          exact e
        have g4 : DataW.trod enc Try.prog W base sp hd n' 34 [v4] = ys[4]? := by
          have e : DataW.trod enc Try.prog W base sp hd n' 34 (([v0, v1, v2, v3, v4].drop 4).take (Try.prog.cellsOf 34)) = ys[4]? := hf 4 _ rfl
          rw [cs] at e
          exact e
        have hy5 : ys.length = 5 := hyl
        rw [List.getElem?_eq_getElem (by omega)] at g0 g1 g2 g3 g4
        obtain ⟨z0, e0, _, w0⟩ := DataW.trod_int Try.underlying3 g0
        obtain ⟨z1, e1, _, w1⟩ := DataW.trod_int Try.underlying3 g1
        obtain ⟨z2, e2, _, w2⟩ := DataW.trod_int Try.underlying3 g2
        obtain ⟨z3, e3, _, w3⟩ := DataW.trod_int Try.underlying3 g3
        obtain ⟨C, cc, cl, e4, w4⟩ := read_cuts g4
        obtain rfl : v0 = .int .i64 z0 := by simpa using e0
        obtain rfl : v1 = .int .i64 z1 := by simpa using e1
        obtain rfl : v2 = .int .i64 z2 := by simpa using e2
        obtain rfl : v3 = .int .i64 z3 := by simpa using e3
        obtain rfl : v4 = .slice C cl.length cc := e4
        refine ⟨⟨z0, z1, z2, z3, cl⟩, C, cc, ⟨fun j u hu => ?_, ⟨in64_of w0, in64_of w1, in64_of w2, in64_of w3⟩, w4⟩⟩
        have hj : j < 5 := by
          rcases Nat.lt_or_ge j 5 with h | h
          · exact h
          · rw [List.getElem?_eq_none (by simp [fvL]; omega)] at hu; cases hu
        have := hat j (by simpa using hj)
        simp only [add_none] at this
        rw [this]
        rw [← hu]
        rfl
    obtain ⟨l, hl, hp⟩ := list_of len key
    subst hl
    refine ⟨some ⟨ab, ao, none⟩, cap, l, rfl, ⟨hl', hm, fun i x hx => ?_⟩⟩
    obtain ⟨C, cc, hF⟩ := hp i x hx
    exact ⟨ab, ao, C, cc, rfl, hF⟩
end
end Go.Proofs.Ytnplbmbbocffbaa
/- What the texts of this stage lean on. -/
namespace Go.Proofs.Ytnplbmbbocffbaa
open Go.RowKit
set_option linter.unusedVariables false
theorem KeepC.kept {X : List Nat} {A B : World} (h : Kept X A B) : KeepC X A B := ⟨h.size, fun i cs T fr hx hi => (h.block i (Array.getElem?_eq_some_iff.1 hi).1 hx).trans hi⟩
theorem KeepC.below {X : List Nat} {A B : World} (h : Below A.heap.size A B) : KeepC X A B := KeepC.kept (Kept.of X h)
theorem KeepC.cell {X : List Nat} {A B : World} (h : KeepC X A B) {b i : Nat} {v : Value} (hc : A.cell? ⟨b, i, none⟩ = some v) (hx : b ∉ X) : B.cell? ⟨b, i, none⟩ = some v := by
  have hl := World.block_lt_of_cell? A _ hc
  cases ho : A.heap[b]? with
  | none => simp [World.cell?, ho] at hc
  | some o =>
    cases o with
    | cells cs T fr => rw [World.cell?_of_block (w := A) (a := ⟨b, i, none⟩) ((h.block b cs T fr hx ho).trans ho.symm)]; exact hc
    | _ => simp [World.cell?, ho] at hc
end Go.Proofs.Ytnplbmbbocffbaa
/- slices.Clone of a row of M. -/



namespace Go.Proofs.Ytnplbmbbocffbaa
open Go.RowKit Go.Shelf
set_option linter.unusedVariables false
set_option linter.unusedSimpArgs false
attribute [local go_sem ↓] Go.wp_at_zero Go.wp_at_succ
theorem infoEM : (Try.prog.info? 54).map (fun i => (i.zero, i.size, i.bytes)) = some (some (.agg #[.int .i64 0, .int .i64 0]), 2, 16) := by kernel_rfl
def ClonePM (n : Nat) (cs : List Value) (w : World) (e : Ending) (w' : World) : Prop := ∃ v', e = .returned v' ∧ w'.ownsRow w.heap.size 54 2 v' n cs ∧ Below w.heap.size w w'
theorem own_emptyM {w : World} {base : Nat} (hb : base ≤ w.heap.size) : (w.alloc (.cells #[] 54)).ownsRow base 54 2 (.slice (some ⟨w.heap.size, 0, none⟩) 0 0) 0 [] := World.ownsRow_lit w #[] 0 hb (by unfold maxLen; omega) rfl
set_option maxRecDepth 100000 in
set_option maxHeartbeats 4000000 in
theorem cloneM (g o n cap : Nat) (cs : List Value) (w : World) (hc : ∀ j u, cs[j]? = some u → w.cell? ⟨g, o + j, none⟩ = some u) (hl : cs.length = n * 2) (h1 : ∀ u ∈ cs, u.oneCell' = true) (hn : n ≤ 100000) (hgl : g < w.heap.size) :
    Calls Try.prog 60 #[.slice (some ⟨g, o, none⟩) n cap] w (ClonePM n cs w) := by
  obtain ⟨i0, hi, hz0, hz1, hz2⟩ := info_parts infoEM
  have HC := Lib.hid (show ∀ (j : Nat) (u : Value), cs[j]? = some u → (w.alloc (.cells #[] 54)).cell? ((⟨g, o, none⟩ : Addr).add j) = some u from fun j u hj => by
    have := hc j u hj
    rw [add_none, World.cell?_alloc_lt _ _ _ (by simpa using hgl)]
    exact this)
  have HL := Lib.hid hl
  have HO := Lib.hid (own_emptyM (w := w) (Nat.le_refl _))
  have HA := Lib.hid (show Below w.heap.size w (w.alloc (.cells #[] 54)) from (Below.refl _ _).alloc (Nat.le_refl _) _)
  have H1 := Lib.hid h1
  have hne := fun w => Lib.run_eql_slice_nil (P := Try.prog) w 56 _ (some ⟨g, o, none⟩) n cap 0 0 Try.underlying56
  clear hc hl h1 hgl
  go_enter Try.func60, Try.ntmps60
  go_wp2_with (at_builtin; go_loud (refine wpList_append_own _ rfl _ _ 56 rfl w.heap.size 54 i0 _ 2 16 Try.underlying56 hi hz0 hz1 hz2 rfl (by decide) (.slice (some ⟨w.heap.size, 0, none⟩) 0 0) 0 [] rfl HO.out ⟨g, o, none⟩ n cap cs rfl HL.out HC.out H1.out (by unfold maxLen; omega) (by omega) (by simp) ?_; intro v' w1 hown hgrow hnil; have hB1 : Below w.heap.size w w1 := HA.out.grown hgrow (by simp) (fun k e => by simp [Value.ownBlock] at e; omega)))
  go_ret
  exact ⟨v', rfl, by simpa using hown, hB1⟩
set_option maxHeartbeats 1000000 in
theorem cloneNilM (w : World) : Calls Try.prog 60 #[.slice none 0 0] w (ClonePM 0 [] w) := by
  have hne := fun w => Lib.run_eql_slice_nil (P := Try.prog) w 56 _ none 0 0 0 0 Try.underlying56
  go_enter Try.func60, Try.ntmps60
  go_wp2
  go_ret
  exact ⟨_, rfl, World.ownsRow_nil _ _ _ _, Below.refl _ _⟩
end Go.Proofs.Ytnplbmbbocffbaa
/- Rows of M in memory; which is less. -/
namespace Go.Proofs.Ytnplbmbbocffbaa
open Go.RowKit Go.Shelf
set_option linter.unusedVariables false
set_option linter.unusedSimpArgs false
attribute [local go_sem ↓] Go.wp_at_zero Go.wp_at_succ
abbrev keyM : (Int × Int) → Int := fun x : Int × Int => x.1
def cEM (x : (Int × Int)) : List Value := [.int .i64 x.1, .int .i64 x.2]
def cLM (l : List (Int × Int)) : List Value := l.flatMap cEM
theorem cL_lenM (l : List (Int × Int)) : (cLM l).length = l.length * 2 := by
  induction l with
  | nil => rfl
  | cons a r ih => rw [cLM, List.flatMap_cons, List.length_append, ← cLM, ih]; simp only [cEM, List.length_cons, List.length_nil]; omega
theorem cL_oneM (l : List (Int × Int)) : ∀ u ∈ cLM l, u.oneCell' = true := by
  intro u hu
  obtain ⟨x, -, hx⟩ := List.mem_flatMap.1 hu
  simp only [cEM, List.mem_cons, List.not_mem_nil, or_false] at hx
  first | (rcases hx with rfl | rfl <;> rfl) | (rcases hx with rfl; rfl)
theorem cL_getM (l : List (Int × Int)) : ∀ (i : Nat) (x : (Int × Int)), l[i]? = some x → ∀ j v, (cEM x)[j]? = some v → (cLM l)[i * 2 + j]? = some v := by
  induction l with
  | nil => intro i x h; simp at h
  | cons a r ih =>
    intro i x h j v hv
    cases i with
    | zero =>
      simp at h; subst h
      have hj : j < 2 := (List.getElem?_eq_some_iff.1 hv).1
      rw [Nat.zero_mul, Nat.zero_add, cLM, List.flatMap_cons, List.getElem?_append_left (by simp only [cEM, List.length_cons, List.length_nil]; omega)]
      exact hv
    | succ i =>
      simp only [List.getElem?_cons_succ] at h
      have := ih i x h j v hv
      rw [cLM, List.flatMap_cons, List.getElem?_append_right (by simp only [cEM, List.length_cons, List.length_nil]; omega)]
      rw [show (i + 1) * 2 + j - (cEM a).length = i * 2 + j by simp only [cEM, List.length_cons, List.length_nil]; omega]
      exact this
/-- A slice that reads as a row. -/
structure RowAtM (N : Nat) (w : World) (v : Value) (l : List (Int × Int)) : Prop where
  ex : ∃ A cap, v = .slice A l.length cap ∧ l.length ≤ cap ∧ cap ≤ 9223372036854775807 ∧ ∀ i x, l[i]? = some x → ∃ g q, A = some ⟨g, q, none⟩ ∧ g < N ∧ g < w.heap.size ∧ ∀ j u, (cEM x)[j]? = some u → w.cell? ⟨g, q + i * 2 + j, none⟩ = some u
section
variable {N : Nat} {w w' : World} {v : Value} {l : List (Int × Int)}
theorem RowAtM.keep {X : List Nat} (h : RowAtM N w v l) (hk : KeepC X w w') (hX : ∀ k ∈ X, N ≤ k) : RowAtM N w' v l := by
  obtain ⟨A, cap, e, h1, h2, h3⟩ := h.ex
  refine ⟨A, cap, e, h1, h2, fun i x hx => ?_⟩
  obtain ⟨g, q, a1, a2, a3, a4⟩ := h3 i x hx
  exact ⟨g, q, a1, a2, Nat.lt_of_lt_of_le a3 hk.size, fun j u hu => hk.cell (a4 j u hu) (fun hm => by have := hX g hm; omega)⟩
theorem RowAtM.later (h : RowAtM N w v l) (hb : Below w.heap.size w w') : RowAtM N w' v l := h.keep (KeepC.below (X := []) hb) (by simp)
theorem RowAtM.mono {M : Nat} (h : RowAtM N w v l) (hN : N ≤ M) : RowAtM M w v l := by
  obtain ⟨A, cap, e, h1, h2, h3⟩ := h.ex
  refine ⟨A, cap, e, h1, h2, fun i x hx => ?_⟩
  obtain ⟨g, q, a1, a2, a3, a4⟩ := h3 i x hx
  exact ⟨g, q, a1, by omega, a3, a4⟩
theorem RowAtM.head {x : (Int × Int)} {xs : List (Int × Int)} (h : RowAtM N w v (x :: xs)) : ∃ g q cap, v = .slice (some ⟨g, q, none⟩) (xs.length + 1) cap ∧ xs.length + 1 ≤ cap ∧ cap ≤ 9223372036854775807 ∧ g < N ∧ g < w.heap.size ∧ ∀ j u, (cEM x)[j]? = some u → w.cell? ⟨g, q + j, none⟩ = some u := by
  obtain ⟨A, cap, e, h1, h2, h3⟩ := h.ex
  obtain ⟨g, q, rfl, a2, a3, a4⟩ := h3 0 x rfl
  exact ⟨g, q, cap, e, h1, h2, a2, a3, fun j u hu => by have := a4 j u hu; rwa [Nat.zero_mul, Nat.add_zero] at this⟩
/-- What is behind the first. -/
theorem RowAtM.tail {x : (Int × Int)} {xs : List (Int × Int)} {g q cap : Nat} {A : Option Addr} (h : RowAtM N w (.slice (some ⟨g, q, none⟩) (xs.length + 1) cap) (x :: xs)) (hA : 0 < xs.length → A = some ⟨g, q + 2, none⟩) : RowAtM N w (.slice A xs.length (cap - 1)) xs := by
  obtain ⟨A', cap', e, h1, h2, h3⟩ := h.ex
  simp only [Value.slice.injEq] at e
  obtain ⟨rfl, _, rfl⟩ := e
  rw [List.length_cons] at h1
  refine ⟨A, cap - 1, rfl, by omega, by omega, fun i y hy => ?_⟩
  obtain ⟨g', q', a1, a2, a3, a4⟩ := h3 (i + 1) y (by simpa using hy)
  simp only [Option.some.injEq, Addr.mk.injEq] at a1
  obtain ⟨rfl, rfl, _⟩ := a1
  have hil := (List.getElem?_eq_some_iff.1 hy).1
  refine ⟨g, q + 2, hA (by omega), a2, a3, fun j u hu => ?_⟩
  have := a4 j u hu
  rwa [show q + (i + 1) * 2 + j = q + 2 + i * 2 + j by omega] at this
end
/-- Rows, by the cells of a row of slices. -/
structure RwsM (N : Nat) (w : World) (b o : Nat) (rs : List (List (Int × Int))) : Prop where
  at_ : ∀ i l, rs[i]? = some l → ∃ v, w.cell? ⟨b, o + i, none⟩ = some v ∧ RowAtM N w v l
theorem RwsM.later {N b o : Nat} {w w' : World} {rs : List (List (Int × Int))} (h : RwsM N w b o rs) (hb : Below w.heap.size w w') : RwsM N w' b o rs := ⟨fun i l hl => by
  obtain ⟨v, h1, h2⟩ := h.at_ i l hl
  exact ⟨v, (hb.cell (p := ⟨b, o + i, none⟩) (World.block_lt_of_cell? w _ h1)).trans h1, h2.later hb⟩⟩
set_option maxHeartbeats 1000000 in
theorem lessM (x y : (Int × Int)) (w : World) : Calls Try.prog 21 #[(.agg #[.int .i64 x.1, .int .i64 x.2] : Value), (.agg #[.int .i64 y.1, .int .i64 y.2] : Value)] w fun e w' => e = .returned (.bool (decide (keyM x < keyM y))) ∧ Below w.heap.size w w' := by
  obtain ⟨x1, x2⟩ := x; obtain ⟨y1, y2⟩ := y
  go_enter Try.func21, Try.ntmps21
  go_wp2
  go_ret
  first
  | exact ⟨rfl, Below.refl _ _⟩
  | exact ⟨rfl, ((Below.refl _ _).alloc (Nat.le_refl _) _).alloc (by simp) _⟩
end Go.Proofs.Ytnplbmbbocffbaa
/- Of rows of M, one whose first is least. -/
namespace Go.Proofs.Ytnplbmbbocffbaa
open Go.RowKit Go.Shelf
set_option linter.unusedVariables false
set_option linter.unusedSimpArgs false
attribute [local go_sem ↓] Go.wp_at_zero Go.wp_at_succ
/-- Two rows with their first things. -/
abbrev TwoRM (w0 : World) (b a1 a2 : Nat) (v1 v2 : Value) (g1 q1 g2 q2 : Nat) (x y : (Int × Int)) (W : World) : Prop :=
  W.cell? ⟨b, a1, none⟩ = some v1 ∧ W.cell? ⟨b, a2, none⟩ = some v2 ∧ (W.cell? ⟨g1, q1, none⟩ = some (.int .i64 x.1) ∧ W.cell? ⟨g1, q1 + 1, none⟩ = some (.int .i64 x.2)) ∧ (W.cell? ⟨g2, q2, none⟩ = some (.int .i64 y.1) ∧ W.cell? ⟨g2, q2 + 1, none⟩ = some (.int .i64 y.2)) ∧ Below w0.heap.size w0 W ∧ b < w0.heap.size ∧ g1 < w0.heap.size ∧ g2 < w0.heap.size
theorem TwoRM.step {w0 : World} {b a1 a2 : Nat} {v1 v2 : Value} {g1 q1 g2 q2 : Nat} {x y : (Int × Int)} {W W' : World} (h : TwoRM w0 b a1 a2 v1 v2 g1 q1 g2 q2 x y W) (hb : Below W.heap.size W W') : TwoRM w0 b a1 a2 v1 v2 g1 q1 g2 q2 x y W' := by
  have hs := h.2.2.2.2.1.size
  have k := fun (g i : Nat) (hg : g < w0.heap.size) => hb.cell (p := ⟨g, i, none⟩) (Nat.lt_of_lt_of_le hg hs)
  obtain ⟨h1, h2, h3, h4, h5, l1, l2, l3⟩ := h
  refine ⟨(k b _ l1).trans h1, (k b _ l1).trans h2, ?_, ?_, h5.trans (hb.mono hs), l1, l2, l3⟩
  · first | exact (k g1 _ l2).trans h3 | exact ⟨(k g1 _ l2).trans h3.1, (k g1 _ l2).trans h3.2⟩
  · first | exact (k g2 _ l3).trans h4 | exact ⟨(k g2 _ l3).trans h4.1, (k g2 _ l3).trans h4.2⟩
def LowOkM (rs : List (List (Int × Int))) (i low : Nat) : Prop := low < rs.length ∧ ∀ j y ys x xs, i ≤ j → rs[j]? = some (y :: ys) → rs[low]? = some (x :: xs) → keyM x ≤ keyM y
theorem rw_getM {N b o : Nat} {w : World} {rs : List (List (Int × Int))} (hR : RwsM N w b o rs) (hne : ∀ l ∈ rs, l ≠ []) {i : Nat} (hi : i < rs.length) : ∃ x xs g q cap, rs[i]? = some (x :: xs) ∧ w.cell? ⟨b, o + i, none⟩ = some (.slice (some ⟨g, q, none⟩) (xs.length + 1) cap) ∧ xs.length + 1 ≤ cap ∧ cap ≤ 9223372036854775807 ∧ g < N ∧ g < w.heap.size ∧ ∀ j u, (cEM x)[j]? = some u → w.cell? ⟨g, q + j, none⟩ = some u := by
  obtain ⟨v, h1, h2⟩ := hR.at_ i _ (List.getElem?_eq_getElem hi)
  have hm := hne _ (List.getElem_mem hi)
  cases hl : rs[i] with
  | nil => exact absurd hl hm
  | cons x xs =>
    rw [hl] at h2
    obtain ⟨g, q, cap, rfl, a1, a2, a3, a4, a5⟩ := h2.head
    exact ⟨x, xs, g, q, cap, by rw [List.getElem?_eq_getElem hi, hl], h1, a1, a2, a3, a4, a5⟩
set_option maxRecDepth 100000 in
set_option maxHeartbeats 4000000 in
theorem lowM {N b o n cap : Nat} {rs : List (List (Int × Int))} (w : World) (hR : RwsM N w b o rs) (hn : rs.length = n) (h1 : 1 ≤ n) (hne : ∀ l ∈ rs, l ≠ []) (hlim : n ≤ 100000) :
    Calls Try.prog 61 #[.func (.func 21) #[] #[], .slice (some ⟨b, o, none⟩) n cap] w fun e w' => ∃ low : Nat, e = .returned (.int .i64 (low : Int)) ∧ LowOkM rs 0 low ∧ Below w.heap.size w w' := by
  have HR := Lib.hid hR
  have HN := Lib.hid hn
  have HE := Lib.hid hne
  have hL0 : LowOkM rs (n - 1) (n - 1) := ⟨by omega, fun j y ys x xs hj hy hx => by
    have := (List.getElem?_eq_some_iff.1 hy).1
    obtain rfl : j = n - 1 := by omega
    rw [hy] at hx
    simp only [Option.some.injEq, List.cons.injEq] at hx
    rw [hx.1]; exact Int.le_refl _⟩
  have HL0 := Lib.hid hL0
  have HM := Lib.hid (show ((n - 1 : Nat) : Int) = (n : Int) - 1 by omega)
  clear hR hn hne hL0
  go_enter Try.func61, Try.ntmps61
  go_wp2
  go_loopw [5, 6] (fun a c wr => ∃ k low : Nat, k < n ∧ low < n ∧ a = .int .i64 (low : Int) ∧ c = .int .i64 ((k : Int) - 1) ∧ Hid (LowOkM rs k low) ∧ Hid (Below w.heap.size w wr)) (fun _ c _ => (intOf c + 1).toNat)
  case atStart => exact ⟨n - 1, n - 1, by omega, by omega, by rw [HM.out], by rw [HM.out], HL0, Lib.hid (Below.refl _ _)⟩
  case round =>
    obtain ⟨k, low, hk, hlow, rfl, rfl, hL, hB⟩ := hrel
    clear HL0
    by_cases h0 : 1 ≤ k
    · obtain ⟨m, rfl⟩ : ∃ m, k = m + 1 := ⟨k - 1, by omega⟩
      have hcast : ((m + 1 : Nat) : Int) - 1 = (m : Int) := by omega
      rw [hcast]
      have RR := HR.out.later hB.out
      obtain ⟨x, xs, g1, q1, c1, hx, e1, _, _, _, l1, x0⟩ := rw_getM RR HE.out (i := m) (by rw [HN.out]; omega)
      obtain ⟨y, ys, g2, q2, c2, hy, e2, _, _, _, l2, y0⟩ := rw_getM RR HE.out (i := low) (by rw [HN.out]; omega)
      have hbl := World.block_lt_of_cell? wr _ e1
      have HX := Lib.hid hx
      have HY := Lib.hid hy
      have T0 : Hid (TwoRM wr b (o + m) (o + low) (.slice (some ⟨g1, q1, none⟩) (xs.length + 1) c1) (.slice (some ⟨g2, q2, none⟩) (ys.length + 1) c2) g1 q1 g2 q2 x y wr.drew) := Lib.hid ⟨e1, e2, ⟨(x0 0 _ rfl), (x0 1 _ rfl)⟩, ⟨(y0 0 _ rfl), (y0 1 _ rfl)⟩, below_drew wr, hbl, l1, l2⟩
      have F0 := lessM x y wr.drew
      obtain ⟨t, ht⟩ : ∃ t, decide (keyM x < keyM y) = t := ⟨_, rfl⟩
      rw [ht] at F0
      have HT := Lib.hid ht
      have F0 := Lib.hid F0
      have im0 : (0 : Int) ≤ (m : Int) := by omega
      have im1 : (m : Int) < (n : Int) := by omega
      have il0 : (0 : Int) ≤ (low : Int) := by omega
      have il1 : (low : Int) < (n : Int) := by omega
      have hz1 : (0 : Int) < ((xs.length + 1 : Nat) : Int) := by omega
      have hz2 : (0 : Int) < ((ys.length + 1 : Nat) : Int) := by omega
      clear hx hy e1 e2 x0 y0 ht RR hcast h0
      generalize xs.length + 1 = n1 at *
      generalize ys.length + 1 = n2 at *
      go_upto_region 5 with (fail)
      go_region_held_law (fun W => TwoRM wr b (o + m) (o + low) (.slice (some ⟨g1, q1, none⟩) n1 c1) (.slice (some ⟨g2, q2, none⟩) n2 c2) g1 q1 g2 q2 x y W)
        (first | (with_reducible assumption) | (with_reducible exact T0.out) | (with_reducible exact T1.out) | fail)
        (first | (go_at_call 21; (with_reducible refine F0.out.mono ?_); rintro e w1 ⟨rfl, hb1⟩; have T1 := Lib.hid (TwoRM.step T0.out hb1)) | fail)
      all_goals (
        have B1 := Lib.hid (hB.out.trans (T1.out.2.2.2.2.1.mono hB.out.size))
        rcases (Bool.eq_false_or_eq_true t).symm with rfl | rfl
        · go_wp2
          refine ⟨⟨m, low, by omega, by omega, rfl, by go_num, Lib.hid ⟨by rw [HN.out]; omega, fun j z zs u us hj hz hu => ?_⟩, B1⟩, by first | (simp [intOf]; done) | (simp [intOf]; omega)⟩
          rw [HY.out] at hu
          simp only [Option.some.injEq, List.cons.injEq] at hu
          obtain ⟨rfl, rfl⟩ := hu
          rcases Nat.lt_or_ge m j with h | h
          · exact hL.out.2 j z zs y ys h hz HY.out
          · obtain rfl : j = m := by omega
            rw [HX.out] at hz
            simp only [Option.some.injEq, List.cons.injEq] at hz
            obtain ⟨rfl, rfl⟩ := hz
            have := of_decide_eq_false HT.out
            omega
        · go_wp2
          refine ⟨⟨m, m, by omega, by omega, rfl, by go_num, Lib.hid ⟨by rw [HN.out]; omega, fun j z zs u us hj hz hu => ?_⟩, B1⟩, by first | (simp [intOf]; done) | (simp [intOf]; omega)⟩
          rw [HX.out] at hu
          simp only [Option.some.injEq, List.cons.injEq] at hu
          obtain ⟨rfl, rfl⟩ := hu
          have hlt := of_decide_eq_true HT.out
          rcases Nat.lt_or_ge m j with h | h
          · have := hL.out.2 j z zs y ys h hz HY.out
            omega
          · obtain rfl : j = m := by omega
            rw [HX.out] at hz
            simp only [Option.some.injEq, List.cons.injEq] at hz
            rw [hz.1]; exact Int.le_refl _)
    · obtain rfl : k = 0 := by omega
      go_wp2
      go_ret
      exact ⟨low, rfl, hL.out, hB.out⟩
end Go.Proofs.Ytnplbmbbocffbaa
