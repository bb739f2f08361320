/- The document's Decode. -/
import Derived.Test.YtngmaiiibinkaaaJLast
import Derived.StillTailTactics
namespace Go.Proofs.Ytngmaiiibinkaaa
open Go.RowKit
set_option linter.unusedVariables false
set_option linter.unusedSimpArgs false

theorem rcheck_g (A : Option Addr) (cap : Nat) (l : List Ts) (w : World) (hR : Row w A cap l) :
    Calls Try.prog 14 #[.slice A l.length cap] w fun e w' => ∃ a, e = .returned (.agg #[.int .i64 a, .int .i64 (chkAll l).2]) ∧ Below w.heap.size w w' :=
  (rcheckAll_any A cap l w hR).mono fun e w' h => ⟨_, h⟩
set_option maxRecDepth 100000 in
theorem got_field (a q : Int) (w : World) : (Instr.field 53 (.agg #[.int .i64 a, .int .i64 q]) 1).run Try.prog w = .ok (.int .i64 q) w := by rfl
set_option maxRecDepth 100000 in
set_option maxHeartbeats 4000000 in
theorem rdecode_bad (A R : Option Addr) (cap rc : Nat) (ts : List Ts) (rs : List Fv) (w : World) (hT : Row w A cap ts) (h0 : (chkAll ts).2 ≠ 0) :
    Calls Try.prog 6 #[.slice A ts.length cap, .slice R rs.length rc] w (DecodePost [] w) := by
  have K := rcheck_g A cap ts w hT
  have h1 : ((chkAll ts).2 != 0) = true := by simpa using h0
  generalize (chkAll ts).2 = q at *
  have K := Lib.hid K
  clear h0
  have hgf := got_field
  go_enter Try.func6, Try.ntmps6
  go_wp2_with (go_at_call 14; (with_reducible refine K.out.mono ?_); rintro e w1 ⟨a, rfl, h1⟩)
  go_ret
  exact ⟨_, [], rfl, FOwn.nil _ _ _, rfl, h1⟩

/-- A task in a block of its own. -/
theorem TAt.zz {w : World} {b : Nat} {x : Ts} (h : TAt w b 0 x) : w.cell? ⟨b, 0, none⟩ = some (.string x.n) ∧ w.cell? ⟨b, 1, none⟩ = some (.int .i64 x.c) ∧ w.cell? ⟨b, 2, none⟩ = some (.int .i64 x.t) ∧ w.cell? ⟨b, 3, none⟩ = some (.int .i64 x.d) ∧ w.cell? ⟨b, 4, none⟩ = some (.int .i64 x.j) ∧ w.cell? ⟨b, 5, none⟩ = some (.int .i64 x.q) ∧ w.cell? ⟨b, 6, none⟩ = some (.int .i64 x.p) :=
  ⟨h.c0, h.c1, h.c2, h.c3, h.c4, h.c5, h.c6⟩
theorem TAt.kept {X : List Nat} {w w' : World} {b o : Nat} {x : Ts} (h : TAt w b o x) (hk : Kept X w w') (hx : b ∉ X) : TAt w' b o x := h.keep fun i => hk.cell h.lt hx
theorem SecIn.later {B : Nat} {w w' : World} {v : Value} {pre : List Int} (h : SecIn B w v pre) (hb : Below w.heap.size w w') : SecIn B w' v pre := ⟨(Kept.of [] hb).row h.row (by simp), h.wf⟩
theorem SecIn.set {B : Nat} {w : World} {v : Value} {pre : List Int} (h : SecIn B w v pre) (b i : Nat) (u : Value) (hb : b < B) : SecIn B (w.setCell ⟨b, i, none⟩ u) v pre :=
  ⟨((Kept.refl [b] w).set b i u (by simp)).row h.row (fun g hg hm => by rw [List.mem_singleton] at hm; have := (h.row.lt g hg).1; omega), h.wf⟩
/-- A job that is being made, and its task. -/
structure RS (wr W : World) (b7 b8 : Nat) (y : Ts) (v0 v1 v2 v3 v4 : Value) : Prop where
  fb : FB W b7 60 v0 v1 v2 v3 v4
  tt : TAt W b8 0 y
  bel : Below wr.heap.size wr W
  ge : wr.heap.size ≤ b7
  ne : b8 ≠ b7
theorem RS.later {wr W W' : World} {b7 b8 : Nat} {y : Ts} {v0 v1 v2 v3 v4 : Value} (h : RS wr W b7 b8 y v0 v1 v2 v3 v4) (hb : Below W.heap.size W W') : RS wr W' b7 b8 y v0 v1 v2 v3 v4 :=
  ⟨h.fb.later hb, h.tt.later hb, h.bel.trans (hb.mono h.bel.size), h.ge, h.ne⟩
theorem RS.set {wr W : World} {b7 b8 i : Nat} {y : Ts} {v0 v1 v2 v3 v4 u0 u1 u2 u3 u4 : Value} (h : RS wr W b7 b8 y v0 v1 v2 v3 v4) (u : Value) (he : (#[v0, v1, v2, v3, v4].setIfInBounds i u) = #[u0, u1, u2, u3, u4]) : RS wr (W.setCell ⟨b7, i, none⟩ u) b7 b8 y u0 u1 u2 u3 u4 :=
  ⟨h.fb.set u he, h.tt.kept ((Kept.refl [b7] W).set b7 i u (by simp)) (by rw [List.mem_singleton]; exact h.ne), h.bel.setCell (p := ⟨b7, i, none⟩) h.ge u, h.ge, h.ne⟩
theorem RS.grown {wr W W' : World} {b7 b8 : Nat} {y : Ts} {v0 v1 v2 v3 v4 : Value} {row : Option Nat} (h : RS wr W b7 b8 y v0 v1 v2 v3 v4) (hg : W.grownBy W' row) (hr : ∀ k, row = some k → b7 < k ∧ b8 < k) : RS wr W' b7 b8 y v0 v1 v2 v3 v4 := by
  have hk : Kept row.toList W W' := kept_grown hg (fun k hk => by rw [hk]; simp)
  refine ⟨h.fb.kept hk (fun hm => ?_), h.tt.kept hk (fun hm => ?_), h.bel.grown hg h.bel.size (fun k hk => by have := hr k hk; have := h.ge; omega), h.ge, h.ne⟩
  · rw [Option.mem_toList] at hm; have := hr b7 hm; omega
  · rw [Option.mem_toList] at hm; have := hr b8 hm; omega
/-- The walk's state ahead of each job. -/
structure RIn (w wr : World) (v : Value) (js : List Fv) : Prop where
  own : ∃ gs, FOwn 60 w.heap.size wr v gs ∧ gs.map (·.x) = js
  bel : Below w.heap.size w wr
set_option maxRecDepth 100000 in
set_option maxHeartbeats 8000000 in
theorem rdecode_good (A R : Option Addr) (cap rc : Nat) (ts : List Ts) (rs : List Fv) (w : World) (hT : Row w A cap ts) (hR : FRow w R rc rs) (h0 : (chkAll ts).2 = 0) :
    Calls Try.prog 6 #[.slice A ts.length cap, .slice R rs.length rc] w (DecodePost (decS ts rs) w) := by
  obtain ⟨i0, hi, hz0, hz1, hz2⟩ := info_parts infoJs
  obtain ⟨j0, hj, hy0, hy1, hy2⟩ := info_parts info64
  have hv := vs_of h0
  have K := rcheck_g A cap ts w hT
  rw [h0] at K
  have hle := hR.le
  have hmx := hR.mx
  have hn0 := hv.n0
  have hn1 := hv.n1
  have HV := Lib.hid hv
  have ROW := Lib.hid hT
  have RAW := Lib.hid hR
  have K0 := Lib.hid K
  clear h0 hT hR hv K
  obtain ⟨n, hn⟩ : ∃ n, n = min rs.length 4096 := ⟨_, rfl⟩
  have hnl : (rs.take 4096).length = n := by rw [List.length_take]; omega
  have hn2 : n ≤ rs.length := by omega
  have hn3 : n ≤ rc := by omega
  have hn4 : n ≤ 4096 := by omega
  have HN := Lib.hid hn
  have HNL := Lib.hid hnl
  clear hn hnl
  have hgf := got_field
  go_enter Try.func6, Try.ntmps6
  go_upto_region 4 with (go_at_call 14; (with_reducible refine K0.out.mono ?_); rintro e w1 ⟨a, rfl, h1⟩)
  have HB1 := Lib.hid h1
  clear h1
  go_wp2
  go_loopw [5, 6] (fun v i wr => ∃ k : Nat, k ≤ n ∧ i = .int .i64 k ∧ Hid (RIn w wr v (decF ts [] ((rs.take 4096).take k)))) (fun _ i _ => n - (intOf i).toNat)
  case atStart => exact ⟨0, Nat.zero_le _, rfl, Lib.hid ⟨⟨[], FOwn.nil _ _ _, rfl⟩, HB1.out⟩⟩
  case round =>
    obtain ⟨k, hk, rfl, hI⟩ := hrel
    by_cases hlt : k < n
    · obtain ⟨rb, ro, x, C, cc, rfl, hx, hrb, hF⟩ := RAW.out.get (k := k) (by omega)
      have hF := hF.later hI.out.bel
      have g1 : decide ((k : Int) < (rs.length : Int)) = true := decide_eq_true (by omega)
      have g2 : decide ((k : Int) < 4096) = true := decide_eq_true (by omega)
      have g3 : decide (k < rs.length) = true := decide_eq_true (by omega)
      have hi0 : (0 : Int) ≤ (k : Int) := by omega
      have hi1 : (k : Int) < (rs.length : Int) := by omega
      have c0 := hF.c0
      have hpb := emod_bd x.t (ts.length : Int) (by omega)
      have K2 := Lib.hid (fun W => r8rest_any x.t (ts.length : Int) W hF.wf.t (by omega) (by omega))
      have K3 := Lib.hid (fun W => r8rest_any x.a 1048576 W hF.wf.a (by omega) (by omega))
      obtain ⟨p, hp⟩ : ∃ p : Nat, x.t % (ts.length : Int) = (p : Int) := ⟨(x.t % (ts.length : Int)).toNat, by omega⟩
      rw [hp] at K2 hpb
      have hab := emod_bd x.a 1048576 (by omega)
      obtain ⟨tb, tq, y, rfl, hy, hyw, htb, hT⟩ := ROW.out.get (k := p) (by omega)
      have hyt : tk ts (p : Int) = y := tk_get hy
      have hyo := HV.out.tk (p : Int)
      rw [hyt] at hyo
      have hT := hT.later hI.out.bel
      have tp0 : (0 : Int) ≤ (p : Int) := by omega
      have tp1 : (p : Int) < (ts.length : Int) := by omega
      generalize hga : x.a % 1048576 = ga at *
      have HGA := Lib.hid hga
      have HP := Lib.hid hp
      have HF := Lib.hid hF
      have HX := Lib.hid hx
      have HT := Lib.hid hT
      have HY := Lib.hid hyt
      have HYO := Lib.hid hyo
      clear hga hp hF hx hy hyt hyo hT
      go_upto_region 8 with (go_at_call 15; (with_reducible refine (K2.out _).mono ?_); rintro e w2 ⟨rfl, rfl⟩)
      have F1 := Lib.hid (FB.new wr 60 (.int .i64 (p : Int)) (.int .i64 0) (.int .i64 0) (.int .i64 0) (.slice none 0 0))
      have B1 : Hid (Below wr.heap.size wr (wr.alloc (.cells #[.int .i64 (p : Int), .int .i64 0, .int .i64 0, .int .i64 0, .slice none 0 0] 60))) := Lib.hid ((Below.refl _ _).alloc (Nat.le_refl _) _)
      have s1 : (wr.alloc (.cells #[.int .i64 (p : Int), .int .i64 0, .int .i64 0, .int .i64 0, .slice none 0 0] 60)).heap.size = wr.heap.size + 1 := by simp
      generalize (wr.alloc (.cells #[.int .i64 (p : Int), .int .i64 0, .int .i64 0, .int .i64 0, .slice none 0 0] 60)) = W1 at *
      obtain ⟨z0, z1, z2, z3, z4⟩ := F1.out.z
      have hT1 := HT.out.later B1.out
      have t0 := hT1.c0
      have t1 := hT1.c1
      have t2 := hT1.c2
      have t3 := hT1.c3
      have t4 := hT1.c4
      have t5 := hT1.c5
      have t6 := hT1.c6
      clear hT1 c0
      go_upto_region 9 with (fail)
      have HR2 := Lib.hid (show RS wr (W1.alloc (.cells #[.string y.n, .int .i64 y.c, .int .i64 y.t, .int .i64 y.d, .int .i64 y.j, .int .i64 y.q, .int .i64 y.p] 50)) wr.heap.size (wr.heap.size + 1) y (.int .i64 (p : Int)) (.int .i64 0) (.int .i64 0) (.int .i64 0) (.slice none 0 0) from
        ⟨F1.out.later ((Below.refl _ _).alloc (Nat.le_refl _) _), by have := TAt.new W1 y; rwa [s1] at this, B1.out.trans (((Below.refl _ _).alloc (Nat.le_refl _) _).mono B1.out.size), Nat.le_refl _, by omega⟩)
      generalize (W1.alloc (.cells #[.string y.n, .int .i64 y.c, .int .i64 y.t, .int .i64 y.d, .int .i64 y.j, .int .i64 y.q, .int .i64 y.p] 50)) = W2 at *
      obtain ⟨b8, hb8⟩ : ∃ b8, b8 = wr.heap.size + 1 := ⟨_, rfl⟩
      rw [← hb8] at HR2 ⊢
      obtain ⟨b7, hb7⟩ : ∃ b7, b7 = wr.heap.size := ⟨_, rfl⟩
      have HR2 : Hid (RS wr W2 b7 b8 y (.int .i64 (p : Int)) (.int .i64 0) (.int .i64 0) (.int .i64 0) (.slice none 0 0)) := by rw [hb7]; exact HR2
      rw [← hb7]
      clear z0 z1 z2 z3 z4 t0 t1 t2 t3 t4 t5 t6 s1 B1 F1 hb8 hb7
      obtain ⟨z0, z1, z2, z3, z4⟩ := HR2.out.fb.z
      have y1 := HR2.out.fb.fz 1
      have c1 := (HF.out.later HR2.out.bel).c1
      go_upto_region 10 with (go_at_call 15; (with_reducible refine (K3.out _).mono ?_); rintro e w2 ⟨rfl, rfl⟩)
      have HR3 := Lib.hid (HR2.out.set (i := 1) (.int .i64 ga) rfl)
      generalize W2.setCell ⟨b7, 1, none⟩ (.int .i64 ga) = W3 at *
      clear z0 z1 z2 z3 z4 y1 c1
      obtain ⟨js, hjs⟩ : ∃ js, decF ts [] ((rs.take 4096).take k) = js := ⟨_, rfl⟩
      rw [hjs] at hI
      have hjl : js.length = k := by rw [← hjs, decF_len]; have := HNL.out; simp; omega
      have hbd : Bd js := by rw [← hjs]; exact decF_bd HV.out _ [] Bd.nil
      have hsb := soon_bd HV.out hbd (p : Int)
      obtain ⟨gs, hG, hgs⟩ := hI.out.own
      obtain ⟨Aj, cj, rfl, hFr⟩ := hG.frow
      rw [hgs] at hFr
      have hgl : gs.length = js.length := by rw [← hgs, List.length_map]
      rw [hgl]
      have KL := Lib.hid (last_any Aj cj js (p : Int) W3 (hFr.later HR3.out.bel))
      have HJS := Lib.hid hjs
      have HG := Lib.hid hG
      have HGS := Lib.hid hgs
      have HGL := Lib.hid hgl
      have HFR := Lib.hid hFr
      have HIB := Lib.hid hI.out.bel
      have HSB := Lib.hid hsb
      have HBD := Lib.hid hbd
      have HJL := Lib.hid hjl
      clear hjs hG hgs hFr hI hgl hbd hsb hjl
      obtain ⟨z0, z1, z2, z3, z4⟩ := HR3.out.fb.z
      go_upto_region 11 with (go_at_call 16; (with_reducible refine KL.out.mono ?_); rintro e w2 ⟨lr, rfl, hlr, rfl⟩)
      have HLR := Lib.hid hlr
      have hav : (decJ ts js x).a = soonI ts js p + ga := by simp only [decJ, HP.out, HGA.out]
      have HAV := Lib.hid hav
      clear hav hlr
      go_upto_if 53 with (fail)
      go_cut [] from 17 to 131 (fun wx => ∃ av, RS wr wx b7 b8 y (.int .i64 (p : Int)) (.int .i64 av) (.int .i64 0) (.int .i64 0) (.slice none 0 0) ∧ av = soonI ts js p + ga)
      case first =>
        rcases HLR.out with ⟨rfl, hl⟩ | ⟨li, lx, rfl, hlx, hl⟩
        · have HZ : Hid (ga = soonI ts js p + ga) := Lib.hid (by rw [soonI, hl]; simp)
          go_wp2
          go_meet
          exact ⟨ga, HR3.out, HZ.out⟩
        · have hli : li < js.length := (List.getElem?_eq_some_iff.1 hlx).1
          have hla := HBD.out lx (List.mem_of_getElem? hlx)
          have hlb : lx.a ≤ 17592186044416 := by have := HJL.out; omega
          obtain ⟨jb, jo, lx', C', cc', rfl, hlx', hjb, hJ⟩ := HFR.out.get hli
          obtain rfl : lx = lx' := by rw [hlx] at hlx'; exact Option.some.inj hlx'
          have l1 := (hJ.later HR3.out.bel).c1
          have HZ : Hid (ga + lx.a + y.t = soonI ts js p + ga) := Lib.hid (by rw [soonI, hl, HY.out]; simp only; omega)
          have li0 : (0 : Int) ≤ (li : Int) := by omega
          have li1 : (li : Int) < (js.length : Int) := by omega
          have g4 : decide ((li : Int) ≥ 0) = true := decide_eq_true li0
          have yt0 := HYO.out.t0
          have yt1 := HYO.out.t1
          have hw1 : IntKind.i64.wrap (ga + lx.a) = ga + lx.a := IntWalk.i64_in _ (by omega)
          have hw2 : IntKind.i64.wrap (ga + lx.a + y.t) = ga + lx.a + y.t := IntWalk.i64_in _ (by omega)
          obtain ⟨t0, t1, t2, t3, t4, t5, t6⟩ := HR3.out.tt.zz
          have l1' : W3.drew.cell? ⟨jb, jo + li * 5 + 1, none⟩ = some (.int .i64 lx.a) := l1
          have z1' : W3.drew.cell? ⟨b7, 1, none⟩ = some (.int .i64 ga) := z1
          have t2' : W3.drew.cell? ⟨b8, 2, none⟩ = some (.int .i64 y.t) := t2
          have HR4 := Lib.hid ((HR3.out.later (below_drew W3)).set (i := 1) (.int .i64 (ga + lx.a + y.t)) rfl)
          have yf := (HR3.out.later (below_drew W3)).fb.fz 1
          clear hlx hla hl hlx' hJ
          go_wp2
          go_still_tail 12, (by kernel_rfl)
          change wpList _ _ _ _ _ W3.drew
          generalize W3.drew = W4 at *
          go_wp2
          go_meet
          exact ⟨_, HR4.out, HZ.out⟩
      case rest =>
        obtain ⟨av, hR4, hav2⟩ := hcut
        have HR4 := Lib.hid hR4
        have HAV2 : Hid (av = (decJ ts js x).a) := Lib.hid (by rw [HAV.out, hav2])
        have sb1 := HSB.out.1
        have sb2 := HSB.out.2
        have sb3 := HJL.out
        have sb4 : 0 ≤ av ∧ av ≤ 35184372088832 := by omega
        have yc0 := HYO.out.c0
        have yc1 := HYO.out.c1
        have yj0 := HYO.out.j0
        have yj1 := HYO.out.j1
        have yq0 := HYO.out.q0
        have yq1 := HYO.out.q1
        have hrb2 := emod_bd x.r (y.j + 1) (by omega)
        have hkb2 := emod_bd x.k y.c (by omega)
        have K4 : Hid (∀ W, Calls Try.prog 15 #[.int .i64 x.r, .int .i64 (y.j + 1)] W fun e w' => e = .returned (.int .i64 (x.r % (y.j + 1))) ∧ w' = W) := Lib.hid fun W => (r8rest_any x.r (y.j + 1) W HF.out.wf.r (by omega) (by omega)).mono fun e w' h => ⟨h.1, h.2.symm⟩
        have K5 : Hid (∀ W, Calls Try.prog 15 #[.int .i64 x.k, .int .i64 y.c] W fun e w' => e = .returned (.int .i64 (x.k % y.c)) ∧ w' = W) := Lib.hid fun W => (r8rest_any x.k y.c W HF.out.wf.k (by omega) (by omega)).mono fun e w' h => ⟨h.1, h.2.symm⟩
        have HDJ : Hid (decJ ts js x = ⟨p, av, av + x.r % (y.j + 1), 1 + x.k % y.c, secs y.q (1 + x.k % y.c) x.c⟩) := Lib.hid (by
          have := HAV2.out
          simp only [decJ, HP.out, HY.out, HGA.out] at this ⊢
          rw [this])
        generalize x.r % (y.j + 1) = rr at *
        generalize x.k % y.c = rk at *
        have hw3 : IntKind.i64.wrap (y.j + 1) = y.j + 1 := IntWalk.i64_in _ (by omega)
        have hw4 : IntKind.i64.wrap (av + rr) = av + rr := IntWalk.i64_in _ (by omega)
        have hw5 : IntKind.i64.wrap (1 + rk) = 1 + rk := IntWalk.i64_in _ (by omega)
        clear hR4 hav2 sb1 sb2 sb3 z0 z1 z2 z3 z4
        obtain ⟨z0, z1, z2, z3, z4⟩ := HR4.out.fb.z
        obtain ⟨t0, t1, t2, t3, t4, t5, t6⟩ := HR4.out.tt.zz
        have c2 := (HF.out.later HR4.out.bel).c2
        apply_assumption
        go_upto_region 13 with (fail)
        go_still_tail 13, (by kernel_rfl)
        still_call (K4.out _)
        repeat still_step
        refine wpStill_nil ?_
        change wpList _ _ _ _ _ wc.drew
        have HR5 := Lib.hid (HR4.out.later (below_drew wc))
        clear z0 z1 z2 z3 z4 t0 t1 t2 t3 t4 t5 t6 c2
        generalize wc.drew = W5 at *
        obtain ⟨z0, z1, z2, z3, z4⟩ := HR5.out.fb.z
        have y2 := HR5.out.fb.fz 2
        go_upto_region 14 with (fail)
        have HR6 := Lib.hid (HR5.out.set (i := 2) (.int .i64 (av + rr)) rfl)
        generalize W5.setCell ⟨b7, 2, none⟩ (.int .i64 (av + rr)) = W6 at *
        clear z0 z1 z2 z3 z4 y2
        obtain ⟨z0, z1, z2, z3, z4⟩ := HR6.out.fb.z
        obtain ⟨t0, t1, t2, t3, t4, t5, t6⟩ := HR6.out.tt.zz
        have c3 := (HF.out.later HR6.out.bel).c3
        go_still_tail 10, (by kernel_rfl)
        still_call (K5.out _)
        repeat still_step
        refine wpStill_nil ?_
        change wpList _ _ _ _ _ W6.drew
        have HR7 := Lib.hid (HR6.out.later (below_drew W6))
        clear z0 z1 z2 z3 z4 t0 t1 t2 t3 t4 t5 t6 c3
        generalize W6.drew = W7 at *
        have y3 := HR7.out.fb.fz 3
        obtain ⟨z0, z1, z2, z3, z4⟩ := HR7.out.fb.z
        go_upto_region 15 with (fail)
        have HR8 := Lib.hid (HR7.out.set (i := 3) (.int .i64 (1 + rk)) rfl)
        generalize W7.setCell ⟨b7, 3, none⟩ (.int .i64 (1 + rk)) = W8 at *
        clear z0 z1 z2 z3 z4 y3
        obtain ⟨z0, z1, z2, z3, z4⟩ := HR8.out.fb.z
        have kv1 : 1 ≤ 1 + rk ∧ 1 + rk ≤ 2147483647 := by omega
        generalize 1 + rk = kv at *
        have hs78 : b7 < W8.heap.size ∧ b8 < W8.heap.size := ⟨HR8.out.fb.lt, HR8.out.tt.lt⟩
        obtain ⟨Bs, hBs⟩ : ∃ Bs, W8.heap.size = Bs := ⟨_, rfl⟩
        rw [hBs] at hs78
        have HBS := Lib.hid hBs
        have hlc := HF.out.s.le
        have hmc := HF.out.s.mx
        go_wp2
        go_loopw [10, 11] (fun lf c wr2 => ∃ (m : Nat) (pre : List Int) (left : Int) (v : Value), m ≤ x.c.length ∧ c = .int .i64 m ∧ lf = .int .i64 left ∧ 0 ≤ left ∧ left ≤ kv ∧ (pre.length : Int) ≤ kv - left ∧ Hid (RS wr wr2 b7 b8 y (.int .i64 (p : Int)) (.int .i64 av) (.int .i64 (av + rr)) (.int .i64 kv) v) ∧ Hid (SecIn Bs wr2 v pre) ∧ Hid (secs y.q kv x.c = pre ++ secs y.q left (x.c.drop m)) ∧ Bs ≤ wr2.heap.size) (fun _ c _ => x.c.length - (intOf c).toNat)
        case atStart => exact ⟨0, [], kv, _, Nat.zero_le _, rfl, rfl, by omega, by omega, by simp, HR8, Lib.hid ⟨World.ownsRow_nil _ _ _ _, by simp⟩, Lib.hid rfl, by rw [HBS.out]; exact Nat.le_refl _⟩
        case round =>
          obtain ⟨m, pre, left, v, hm, rfl, rfl, l0, l1, hpl, hRS, hSI, hq, hbs⟩ := hrel
          have c4 := (HF.out.later hRS.out.bel).c4
          by_cases hgo : m < x.c.length ∧ 0 < left
          · obtain ⟨hml, hlp⟩ := hgo
            obtain ⟨cb, co, cut, rfl, hct, hcw, hcb, hcell⟩ := HF.out.s.get hml
            have hcell := (hRS.out.bel.cell (p := ⟨cb, co + m, none⟩) hcb).trans hcell
            have g6 : decide ((m : Int) < (x.c.length : Int)) = true := decide_eq_true (by omega)
            have g7 : decide (left > 0) = true := decide_eq_true hlp
            have g7' : decide (0 < left) = true := decide_eq_true hlp
            have m0 : (0 : Int) ≤ (m : Int) := by omega
            have m1 : (m : Int) < (x.c.length : Int) := by omega
            have hmb := min_bd y.q left yq0 (by omega)
            have hrb3 := emod_bd cut (min y.q left) (by omega)
            have K6 : Hid (∀ (W : World) (n' : Int), n' = min y.q left → Calls Try.prog 15 #[.int .i64 cut, .int .i64 n'] W fun e w' => e = .returned (.int .i64 (cut % min y.q left)) ∧ w' = W) := Lib.hid fun W n' hn' => by subst hn'; exact (r8rest_any cut (min y.q left) W hcw (by omega) (by omega)).mono fun e w' h => ⟨h.1, h.2.symm⟩
            have hd : x.c.drop m = cut :: x.c.drop (m + 1) := by
              obtain ⟨hlt', he⟩ := List.getElem?_eq_some_iff.1 hct
              rw [← he]
              exact (List.drop_eq_getElem_cons hlt')
            have hQ : secs y.q kv x.c = (pre ++ [1 + cut % min y.q left]) ++ secs y.q (left - (1 + cut % min y.q left)) (x.c.drop (m + 1)) := by rw [hq.out, hd, secs, if_neg (by omega)]; simp
            have HQ := Lib.hid hQ
            generalize cut % min y.q left = sc at *
            have hw6 : IntKind.i64.wrap (1 + sc) = 1 + sc := IntWalk.i64_in _ (by omega)
            obtain ⟨t0, t1, t2, t3, t4, t5, t6⟩ := hRS.out.tt.zz
            clear hd hQ hq hct
            go_upto_region 19 with (fail)
            go_still_tail 14, (by kernel_rfl)
            still_call (K6.out _ _ rfl)
            repeat still_step
            refine wpStill_nil ?_
            change wpList _ _ _ _ _ wr.drew
            have HR9 := Lib.hid (hRS.out.later (below_drew wr))
            have HS9 := Lib.hid (hSI.out.later (below_drew wr))
            have hb9 : Bs ≤ wr.drew.heap.size := hbs
            obtain ⟨t, ht⟩ : ∃ t, 1 + sc = t := ⟨_, rfl⟩
            rw [ht] at HQ
            have ht0 : 1 ≤ t ∧ t ≤ left := by omega
            clear t0 t1 t2 t3 t4 t5 t6 c4 hcell hRS hSI hbs K6
            generalize wr.drew = W9 at *
            obtain ⟨z0, z1, z2, z3, z4⟩ := HR9.out.fb.z
            have HC1 := Lib.hid (fun (V : World) => cell_one_new V (.int .i64 t) 2)
            have ba : Hid (Below W9.heap.size W9 (W9.alloc (.cells #[.int .i64 t] 2))) := Lib.hid ((Below.refl _ _).alloc (Nat.le_refl _) _)
            go_wp2_with (refine wpList_append_own _ rfl _ _ 25 rfl Bs 2 j0 _ 1 8 Try.underlying25 hj hy0 hy1 hy2 rfl (by decide) _ _ _ rfl (HS9.out.row.alloc _) ⟨W9.heap.size, 0, none⟩ 1 1 [.int .i64 t] rfl rfl (by simpa using HC1.out W9) (by simp [Value.oneCell']) (by unfold maxLen; omega) (by omega) (by simp; omega) ?_; intro v' w4 hown' hgrow hnil'; obtain ⟨A', cap', hv', -, -⟩ := own_len hown'; subst hv'; have HRa := Lib.hid ((HR9.out.later ba.out).grown hgrow (fun k hk => by have := (HS9.out.row.lt k hk).1; omega)); obtain ⟨zz0, zz1, zz2, zz3, zz4⟩ := HRa.out.fb.z; have y4 := HRa.out.fb.fz 4; have HO := Lib.hid hown'; have HGW := Lib.hid hgrow; clear hown' hgrow hnil' z0 z1 z2 z3 z4)
            go_roundw
            case rel =>
              have HRb := HRa.out.set (i := 4) (.slice A' (pre.length + 1) cap') rfl
              have hSb : SecIn Bs w4 (.slice A' (pre.length + 1) cap') (pre ++ [t]) := ⟨by rw [List.length_append, numL_snoc]; exact HO.out, fun y hy => by
                rcases List.mem_append.1 hy with hy | hy
                · exact HS9.out.wf y hy
                · obtain rfl := List.mem_singleton.1 hy
                  exact ⟨by omega, by omega⟩⟩
              exact ⟨m + 1, pre ++ [t], left - t, _, by omega, by go_num, rfl, by omega, by omega, by rw [List.length_append]; simp; omega, Lib.hid HRb, Lib.hid (hSb.set b7 4 _ (by omega)), HQ, by have h1 := HGW.out.size; rw [World.size_alloc] at h1; simp only [World.setCell]; simp; omega⟩
            case measure => simp [intOf]; omega
          · by_cases hml : m < x.c.length
            · have hl0 : left = 0 := by omega
              subst hl0
              have g6 : decide ((m : Int) < (x.c.length : Int)) = true := decide_eq_true (by omega)
              have hdone : secs y.q kv x.c = pre := by
                rw [hq.out, List.drop_eq_getElem_cons hml, secs, if_pos rfl, List.append_nil]
              have hSI2 := hSI.out
              obtain ⟨C7, cc7, hv7, -, hC7, hs7⟩ := crow_own hSI2.row hSI2.wf
              subst hv7
              obtain ⟨z0, z1, z2, z3, z4⟩ := hRS.out.fb.z
              have HJX : Hid (decJ ts js x = ⟨p, av, av + rr, kv, pre⟩) := Lib.hid (by rw [HDJ.out, hdone])
              have hwf : FvW ⟨(p : Int), av, av + rr, kv, pre⟩ := ⟨⟨by show _ ≤ (p : Int); omega, by show (p : Int) ≤ _; omega⟩, ⟨by show _ ≤ av; omega, by show av ≤ _; omega⟩, ⟨by show _ ≤ av + rr; omega, by show av + rr ≤ _; omega⟩, ⟨by show _ ≤ kv; omega, by show kv ≤ _; omega⟩⟩
              have HO := Lib.hid (show GOk 60 w.heap.size wr ⟨⟨(p : Int), av, av + rr, kv, pre⟩, C7, cc7⟩ from ⟨hwf, hC7, fun h a ha => by
                obtain ⟨_, cs, fr, ht⟩ := hs7 h a ha
                exact .inr ⟨cs, _, fr, ht, by decide⟩⟩)
              have hG9 := HG.out.later hRS.out.bel
              rw [HGL.out] at hG9
              have HG9 := Lib.hid hG9
              have HB9 := Lib.hid (HIB.out.trans (hRS.out.bel.mono HIB.out.size))
              have HFA := Lib.hid (fun j u hu => by
                have := (FAt.new wr ⟨(p : Int), av, av + rr, kv, pre⟩ C7 cc7 60 hwf hC7).r j u hu
                rw [Nat.zero_add] at this
                rw [add_none, Nat.zero_add]
                exact this : ∀ j u, (fvL ⟨(p : Int), av, av + rr, kv, pre⟩ C7 cc7)[j]? = some u → (wr.alloc (.cells #[.int .i64 (p : Int), .int .i64 av, .int .i64 (av + rr), .int .i64 kv, .slice C7 pre.length cc7] 60)).cell? ((⟨wr.heap.size, 0, none⟩ : Addr).add j) = some u)
              clear hSI hSI2 hC7 hs7 hwf hG9 hdone hq hRS
              go_wp2_with (refine wpList_append_own _ rfl _ _ 31 rfl w.heap.size 60 i0 _ 5 56 Try.underlying31 hi hz0 hz1 hz2 rfl (by decide) _ gs.length (gvC gs) rfl (HG9.out.row.alloc _) ⟨wr.heap.size, 0, none⟩ 1 1 (fvL ⟨(p : Int), av, av + rr, kv, pre⟩ C7 cc7) rfl rfl HFA.out (fvL_one _ _ _) (by have := HGL.out; have := HJL.out; unfold maxLen; omega) (by have := HGL.out; have := HJL.out; omega) (by have := HB9.out.size; simp; omega) ?_; intro v' w8 hown' hgrow hnil')
              go_roundw
              case rel =>
                have ba : Below wr.heap.size wr (wr.alloc (.cells #[.int .i64 (p : Int), .int .i64 av, .int .i64 (av + rr), .int .i64 kv, .slice C7 pre.length cc7] 60)) := (Below.refl _ _).alloc (Nat.le_refl _) _
                have hG8 := (HG9.out.later ba).push (HO.out.kept fun b hl _ => ba.block b hl) hown' hgrow
                have hL8 : Below w.heap.size w w8 := (HB9.out.trans (ba.mono HB9.out.size)).grown hgrow (by have := HB9.out.size; simp; omega) (fun q hq => (HG9.out.row.lt q hq).1)
                have hx4 : (rs.take 4096)[k]? = some x := by rw [List.getElem?_take_of_lt (by omega)]; exact HX.out
                refine ⟨k + 1, by omega, by go_num, Lib.hid ⟨⟨_, hG8, ?_⟩, hL8⟩⟩
                rw [take_one hx4, decF_snoc, HJS.out, HJX.out, List.map_append, HGS.out]
                rfl
              case measure => simp [intOf]; omega
            · have g6 : decide ((m : Int) < (x.c.length : Int)) = false := decide_eq_false (by omega)
              have g6' : decide (m < x.c.length) = false := decide_eq_false hml
              have hdone : secs y.q kv x.c = pre := by
                rw [hq.out, List.drop_eq_nil_of_le (by omega), secs, List.append_nil]
              have hSI2 := hSI.out
              obtain ⟨C7, cc7, hv7, -, hC7, hs7⟩ := crow_own hSI2.row hSI2.wf
              subst hv7
              obtain ⟨z0, z1, z2, z3, z4⟩ := hRS.out.fb.z
              have HJX : Hid (decJ ts js x = ⟨p, av, av + rr, kv, pre⟩) := Lib.hid (by rw [HDJ.out, hdone])
              have hwf : FvW ⟨(p : Int), av, av + rr, kv, pre⟩ := ⟨⟨by show _ ≤ (p : Int); omega, by show (p : Int) ≤ _; omega⟩, ⟨by show _ ≤ av; omega, by show av ≤ _; omega⟩, ⟨by show _ ≤ av + rr; omega, by show av + rr ≤ _; omega⟩, ⟨by show _ ≤ kv; omega, by show kv ≤ _; omega⟩⟩
              have HO := Lib.hid (show GOk 60 w.heap.size wr ⟨⟨(p : Int), av, av + rr, kv, pre⟩, C7, cc7⟩ from ⟨hwf, hC7, fun h a ha => by
                obtain ⟨_, cs, fr, ht⟩ := hs7 h a ha
                exact .inr ⟨cs, _, fr, ht, by decide⟩⟩)
              have hG9 := HG.out.later hRS.out.bel
              rw [HGL.out] at hG9
              have HG9 := Lib.hid hG9
              have HB9 := Lib.hid (HIB.out.trans (hRS.out.bel.mono HIB.out.size))
              have HFA := Lib.hid (fun j u hu => by
                have := (FAt.new wr ⟨(p : Int), av, av + rr, kv, pre⟩ C7 cc7 60 hwf hC7).r j u hu
                rw [Nat.zero_add] at this
                rw [add_none, Nat.zero_add]
                exact this : ∀ j u, (fvL ⟨(p : Int), av, av + rr, kv, pre⟩ C7 cc7)[j]? = some u → (wr.alloc (.cells #[.int .i64 (p : Int), .int .i64 av, .int .i64 (av + rr), .int .i64 kv, .slice C7 pre.length cc7] 60)).cell? ((⟨wr.heap.size, 0, none⟩ : Addr).add j) = some u)
              clear hSI hSI2 hC7 hs7 hwf hG9 hdone hq hRS
              go_wp2_with (refine wpList_append_own _ rfl _ _ 31 rfl w.heap.size 60 i0 _ 5 56 Try.underlying31 hi hz0 hz1 hz2 rfl (by decide) _ gs.length (gvC gs) rfl (HG9.out.row.alloc _) ⟨wr.heap.size, 0, none⟩ 1 1 (fvL ⟨(p : Int), av, av + rr, kv, pre⟩ C7 cc7) rfl rfl HFA.out (fvL_one _ _ _) (by have := HGL.out; have := HJL.out; unfold maxLen; omega) (by have := HGL.out; have := HJL.out; omega) (by have := HB9.out.size; simp; omega) ?_; intro v' w8 hown' hgrow hnil')
              go_roundw
              case rel =>
                have ba : Below wr.heap.size wr (wr.alloc (.cells #[.int .i64 (p : Int), .int .i64 av, .int .i64 (av + rr), .int .i64 kv, .slice C7 pre.length cc7] 60)) := (Below.refl _ _).alloc (Nat.le_refl _) _
                have hG8 := (HG9.out.later ba).push (HO.out.kept fun b hl _ => ba.block b hl) hown' hgrow
                have hL8 : Below w.heap.size w w8 := (HB9.out.trans (ba.mono HB9.out.size)).grown hgrow (by have := HB9.out.size; simp; omega) (fun q hq => (HG9.out.row.lt q hq).1)
                have hx4 : (rs.take 4096)[k]? = some x := by rw [List.getElem?_take_of_lt (by omega)]; exact HX.out
                refine ⟨k + 1, by omega, by go_num, Lib.hid ⟨⟨_, hG8, ?_⟩, hL8⟩⟩
                rw [take_one hx4, decF_snoc, HJS.out, HJX.out, List.map_append, HGS.out]
                rfl
              case measure => simp [intOf]; omega
    · obtain rfl : k = n := by omega
      obtain ⟨gs, hG, hgs⟩ := hI.out.own
      have HB := Lib.hid hI.out.bel
      have HG := Lib.hid hG
      have HGS := Lib.hid hgs
      clear hG hgs hI
      by_cases hkr : k < rs.length
      · have g1 : decide ((k : Int) < (rs.length : Int)) = true := decide_eq_true (by omega)
        have g2 : decide ((k : Int) < 4096) = false := decide_eq_false (by have := HN.out; omega)
        have g2' : decide (k < 4096) = false := decide_eq_false (by have := HN.out; omega)
        go_wp2
        go_ret
        refine ⟨_, gs, rfl, HG.out, ?_, HB.out⟩
        rw [HGS.out, decS, List.take_of_length_le (by rw [HNL.out]; exact Nat.le_refl _)]
      · have g1 : decide ((k : Int) < (rs.length : Int)) = false := decide_eq_false (by omega)
        have g1' : decide (k < rs.length) = false := decide_eq_false hkr
        go_wp2
        go_ret
        refine ⟨_, gs, rfl, HG.out, ?_, HB.out⟩
        rw [HGS.out, decS, List.take_of_length_le (by rw [HNL.out]; exact Nat.le_refl _)]
end Go.Proofs.Ytngmaiiibinkaaa
