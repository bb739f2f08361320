/- Sum: the program's. -/
import Derived.Test.YtghijgpelkjohaaLClo
import Derived.Laws.ResultCell
import Derived.Deep.LoopGhost
import Derived.WalkMore
namespace Go.Proofs.Ytghijgpelkjohaa
open Go.RowKit
set_option linter.unusedVariables false
set_option linter.unusedSimpArgs false
theorem results_fr2 {fn : Func} {p u : Tmp} (h : fn.results = #[.cell p 32, .tmp u]) (tmps : Array Value) (w : World) (b : Nat) (x : Fr) (v : Value) (hp : tmps.getD p undef = .pointer (some ⟨b, 0, none⟩)) (hv : tmps.getD u undef = v) (hb : FB w b x) :
    (results fn tmps).run Try.prog w = .ok (.tuple #[frV x, v]) w := by
  rw [results_cell_tmp h, hp, hv]
  have := run_loadVar_row w b 32 32 _ _ _ hb.is Try.underlying32 rfl infoFr
  simp [asAddr, Result.andThen, this]
set_option maxRecDepth 100000 in
set_option maxHeartbeats 8000000 in
theorem sum_no (A : Option Addr) (cap : Nat) (l : List Ts) (w : World) (hR : Row w A cap l) (hn : anyNo l = true) :
    Calls Try.prog 17 #[.slice A l.length cap] w fun e w' => e = .returned (.tuple #[frV ⟨0, 0⟩, .int .i64 1]) ∧ Below w.heap.size w w' := by
  have b0 : Below w.heap.size w (w.alloc (.cells #[.int .u64 0, .int .u64 0] 32)) := (Below.refl _ _).alloc (Nat.le_refl _) _
  have K := Lib.hid (contains_any A cap l _ (hR.later b0))
  rw [hn] at K
  have F0 := FB.new w ⟨0, 0⟩
  generalize l.length = N at *
  clear hR hn
  go_enter Try.func17, Try.ntmps17
  go_wp2
  go_step3
  go_wp2_with (go_at_call 30; (with_reducible refine K.out.mono ?_); rintro e w1 ⟨rfl, hbel⟩; have HF := Lib.hid (F0.later hbel); have c0 := HF.out.c0; have c1 := HF.out.c1; have fz := HF.out.frozen)
  rw [Exit.noGoto_ret]
  exact bodyPost_ret (results_fr2 rfl _ _ w.heap.size ⟨0, 0⟩ _ rfl rfl (HF.out.set2 ⟨0, 0⟩)) rfl ⟨rfl, below_set2 (b0.trans (hbel.mono (by simp))) (by omega) _ _⟩
theorem SU.start (V : World) : ∃ W, ((((((((V.alloc (.cells #[.int .u64 0, .int .u64 0] 32)).alloc (.cells #[.int .u64 0] 30)).alloc (.cells #[.int .u64 0] 30)).alloc (.cells #[.int .u64 0] 30)).alloc (.cells #[.int .u64 0] 30)).alloc (.cells #[.int .u64 0, .int .u64 1] 32)).alloc (.cells #[.bool true] 4)).alloc
    (.cells #[clo1 V.heap.size, clo2 V.heap.size, clo3 V.heap.size, clo4 V.heap.size] 68)) = W ∧ SU V.heap.size W ⟨⟨0, 1⟩, ⟨0, 0⟩, 0, 0, 0, 0, true⟩ ∧ Below V.heap.size V W := by
  have hh : ∀ (W : World) (o : Obj) (k : Nat), k < W.heap.size → (W.alloc o).heap[k]? = W.heap[k]? := fun W o k hk => Below.heap_alloc W o k hk
  have hn : ∀ (W : World) (o : Obj) (k : Nat), k = W.heap.size → (W.alloc o).heap[k]? = some o := fun W o k hk => by rw [hk]; exact heap_alloc_new W o
  refine ⟨_, rfl, ⟨?_, ?_, ?_, ?_, ?_, ?_, ?_, ?_⟩, ?_⟩
  all_goals try (repeat (first | (refine (hn _ _ _ ?_).trans rfl; simp; done) | (rw [hh _ _ _ (by simp only [World.size_alloc]; omega)])))
  exact ((((((((Below.refl _ _).alloc (Nat.le_refl _) _).alloc (by simp only [World.size_alloc]; omega) _).alloc (by simp only [World.size_alloc]; omega) _).alloc (by simp only [World.size_alloc]; omega) _).alloc (by simp only [World.size_alloc]; omega) _).alloc (by simp only [World.size_alloc]; omega) _).alloc (by simp only [World.size_alloc]; omega) _).alloc (by simp only [World.size_alloc]; omega) _
theorem run_store_func (P : Program) (w : World) (a : Addr) (m : Mode) (f : Fn) (x y : Array Value) : (store a (.func f x y) m).run P w = stored P w a (.func f x y) m := run_store P w a _ m rfl
attribute [local go_sem] run_store_func
set_option maxRecDepth 100000 in
theorem four_idx (g0 g1 g2 g3 : Fn) (a0 b0 a1 b1 a2 b2 a3 b3 : Array Value) (w : World) :
    (Instr.index 68 (.agg #[.func g0 a0 b0, .func g1 a1 b1, .func g2 a2 b2, .func g3 a3 b3]) (.int .i64 0)).run Try.prog w = .ok (.func g0 a0 b0) w ∧
    (Instr.index 68 (.agg #[.func g0 a0 b0, .func g1 a1 b1, .func g2 a2 b2, .func g3 a3 b3]) (.int .i64 1)).run Try.prog w = .ok (.func g1 a1 b1) w ∧
    (Instr.index 68 (.agg #[.func g0 a0 b0, .func g1 a1 b1, .func g2 a2 b2, .func g3 a3 b3]) (.int .i64 2)).run Try.prog w = .ok (.func g2 a2 b2) w ∧
    (Instr.index 68 (.agg #[.func g0 a0 b0, .func g1 a1 b1, .func g2 a2 b2, .func g3 a3 b3]) (.int .i64 3)).run Try.prog w = .ok (.func g3 a3 b3) w := by
  refine ⟨?_, ?_, ?_, ?_⟩ <;> rfl
theorem sumO_no {s : Fr} {t : Ts} {l : List Ts} (h : okF s (ofF t.c t.t) = false) : sumO s (t :: l) = none := by rw [sumO, h]; rfl
theorem sumO_yes {s : Fr} {t : Ts} {l : List Ts} (h : okF s (ofF t.c t.t) = true) : sumO s (t :: l) = sumO (plusF s (ofF t.c t.t)) l := by rw [sumO, if_pos h]
theorem sumE_none {l : List Ts} (hn : anyNo l = false) (h : sumO ⟨0, 1⟩ l = none) : sumF l = ⟨0, 0⟩ ∧ sumE l = 17 := by
  have hn' : l.any (fun x => noF x.c x.t) = false := hn
  constructor
  · unfold sumF; rw [hn', h]; rfl
  · unfold sumE; rw [hn', h]; rfl
theorem sumE_some {l : List Ts} {f : Fr} (hn : anyNo l = false) (h : sumO ⟨0, 1⟩ l = some f) : sumF l = f ∧ sumE l = 0 := by
  have hn' : l.any (fun x => noF x.c x.t) = false := hn
  constructor
  · unfold sumF; rw [hn', h]; rfl
  · unfold sumE; rw [hn', h]; rfl
theorem no_at {l : List Ts} {k : Nat} {x : Ts} (hn : anyNo l = false) (hx : l[k]? = some x) : noF x.c x.t = false := by
  cases h : noF x.c x.t
  · rfl
  · rw [anyNo_hit hx h] at hn; cases hn
/-- What is carried from task to task. -/
structure SR (M n0 : Nat) (w0 : World) (l : List Ts) (k : Nat) (wr : World) (t : St) : Prop where
  su : SU M wr t
  ok : t.ok = true
  w : FrW t.s
  p : 0 < t.s.d
  q : sumO ⟨0, 1⟩ l = sumO t.s (l.drop k)
  fb : FB wr n0 ⟨0, 0⟩
  lt : n0 < M
  b : Below n0 w0 wr
theorem SR.step {M n0 : Nat} {w0 w w' : World} {l : List Ts} {k : Nat} {t : St} (h : SR M n0 w0 l k w t) {t' : St} (hs : SU M w' t') (he : t'.s = t.s) (ho : t'.ok = true) (hb : Below M w w') : SR M n0 w0 l k w' t' :=
  ⟨hs, ho, he ▸ h.w, he ▸ h.p, he ▸ h.q, ⟨(hb.block n0 h.lt).trans h.fb.is⟩, h.lt, h.b.trans (hb.mono (Nat.le_of_lt h.lt))⟩
/-- What is known behind some steps that are all taken from one world. -/
structure SK (M n0 : Nat) (w0 w' : World) (t' : St) : Prop where
  su : SU M w' t'
  fb : FB w' n0 ⟨0, 0⟩
  lt : n0 < M
  b : Below n0 w0 w'
theorem SK.step {M n0 : Nat} {w0 w w' : World} {t t' : St} (h : SK M n0 w0 w t) (hs : SU M w' t') (hb : Below M w w') : SK M n0 w0 w' t' :=
  ⟨hs, ⟨(hb.block n0 h.lt).trans h.fb.is⟩, h.lt, h.b.trans (hb.mono (Nat.le_of_lt h.lt))⟩
set_option maxRecDepth 100000 in
set_option maxHeartbeats 8000000 in
theorem sum_yes (A : Option Addr) (cap : Nat) (l : List Ts) (w : World) (hR : Row w A cap l) (hn : anyNo l = false) :
    Calls Try.prog 17 #[.slice A l.length cap] w fun e w' => e = .returned (.tuple #[frV (sumF l), .int .i64 (sumE l)]) ∧ Below w.heap.size w w' := by
  have b0 : Below w.heap.size w (w.alloc (.cells #[.int .u64 0, .int .u64 0] 32)) := (Below.refl _ _).alloc (Nat.le_refl _) _
  have hle := hR.le
  have hmx := hR.mx
  have ROW := Lib.hid hR
  have HNO := Lib.hid hn
  have K := Lib.hid (contains_any A cap l _ (hR.later b0))
  rw [hn] at K
  have F0 := Lib.hid (FB.new w ⟨0, 0⟩)
  have B0 := Lib.hid b0
  generalize hN : l.length = N at *
  have HN := Lib.hid hN
  have HST := Lib.hid SU.start
  clear hR hn hN b0
  go_enter Try.func17, Try.ntmps17
  go_wp2
  go_step3
  go_wp2_with (go_at_call 30; (with_reducible refine K.out.mono ?_); rintro e w1 ⟨rfl, hbel⟩; have HF := Lib.hid (F0.out.later hbel); have HB1 := Lib.hid (B0.out.trans (hbel.mono (by simp))); obtain ⟨W2, hW2, S2, B2⟩ := HST.out w1; have HW2 := Lib.hid hW2; have HS2 := Lib.hid S2; have HB2 := Lib.hid B2; clear hW2 S2 B2 hbel)
  simp only [Nat.add_assoc, Nat.reduceAdd] at HW2 ⊢
  rw [HW2.out]
  have hlt0 : w.heap.size < w1.heap.size := HF.out.lt
  have R0 : Hid (SR w1.heap.size w.heap.size w l 0 W2 ⟨⟨0, 1⟩, ⟨0, 0⟩, 0, 0, 0, 0, true⟩) := Lib.hid ⟨HS2.out, rfl, ⟨⟨by decide, by decide⟩, ⟨by decide, by decide⟩⟩, by decide, by rw [List.drop_zero], HF.out.later HB2.out, hlt0, HB1.out.trans (HB2.out.mono (Nat.le_of_lt hlt0))⟩
  clear HW2 HS2 HB2 HF HB1 B0 F0 K HST
  generalize w1.heap.size = M at *
  generalize hn0 : w.heap.size = n0 at *
  go_step3
  go_wp2
  go_loopg [27] N (fun g i wr => ∃ (k : Nat) (t : St), k ≤ N ∧ N - k ≤ g ∧ i = .int .i64 k ∧ Hid (SR M n0 w l k wr t)) 
  case atStart => exact ⟨0, _, Nat.zero_le _, by omega, rfl, R0⟩
  case round =>
    clear R0
    obtain ⟨k, t, hk, hg, rfl, HR⟩ := hrel
    by_cases hlt : k < N
    · obtain ⟨b', o, x, rfl, hx, hxw, hbl, hT⟩ := ROW.out.get (k := k) (by rw [HN.out]; exact hlt)
      have hTr := hT.below HR.out.b (by rw [hn0] at hbl; exact hbl)
      have c0 := hTr.c0
      have c1 := hTr.c1
      have c2 := hTr.c2
      have c3 := hTr.c3
      have c4 := hTr.c4
      have c5 := hTr.c5
      have c6 := hTr.c6
      have hi0 : (0 : Int) ≤ (k : Int) := by omega
      have hi1 : (k : Int) < ((N : Nat) : Int) := by omega
      have hno := no_at HNO.out hx
      have HYW := Lib.hid (ofF_w hxw.c hxw.t)
      have HYP := Lib.hid (ofF_d hxw.c hxw.t hno)
      have KO := Lib.hid (fun W => of_any x hxw W)
      have HD := Lib.hid (drop_ts hx)
      clear hT hTr hx hxw hno hbl
      generalize hy : ofF x.c x.t = y at *
      have HY := Lib.hid hy
      clear hy
      go_upto_region 10 with (fail)
      obtain ⟨W1, hW1, R1, T1⟩ : ∃ W1, wr.alloc (.cells #[.string x.n, .int .i64 x.c, .int .i64 x.t, .int .i64 x.d, .int .i64 x.j, .int .i64 x.q, .int .i64 x.p] 40) = W1 ∧ SR M n0 w l k W1 t ∧ TAt W1 wr.heap.size 0 x :=
        ⟨_, rfl, HR.out.step (HR.out.su.later (boxT wr x)) rfl HR.out.ok ((boxT wr x).mono (by have := HR.out.su.lt; omega)), TAt.new wr x⟩
      rw [hW1]
      have HR1 := Lib.hid R1
      have z0 := T1.c0
      have z1 := T1.c1
      have z2 := T1.c2
      have z3 := T1.c3
      have z4 := T1.c4
      have z5 := T1.c5
      have z6 := T1.c6
      clear hW1 R1 T1 c0 c1 c2 c3 c4 c5 c6
      generalize wr.heap.size = bx at *
      simp only [Nat.zero_add] at z1 z2 z3 z4 z5 z6
      go_upto_region 11 with (go_at_call 18; (with_reducible refine (KO.out _).mono ?_); rintro e w2 ⟨rfl, h2⟩; have R2 := Lib.hid (HR1.out.step (HR1.out.su.later h2) rfl HR1.out.ok (h2.mono (by have := HR1.out.su.lt; omega))); have n0c : w2.cell? ⟨M, 0, none⟩ = some (.int .u64 t.nx.n) := row_c R2.out.su.nx 0; have n1c : w2.cell? ⟨M, 1, none⟩ = some (.int .u64 t.nx.d) := row_c R2.out.su.nx 1; have nfz := fun i => frozen_of_row w2 M i _ _ R2.out.su.nx)
      clear z0 z1 z2 z3 z4 z5 z6 n0c n1c nfz
      obtain ⟨W3, hW3, t3, hs3, hn3, R3⟩ : ∃ W3, ((w2.setCell ⟨M, 0, none⟩ (.int .u64 y.n)).setCell ⟨M, 1, none⟩ (.int .u64 y.d)) = W3 ∧ ∃ t3 : St, t3.s = t.s ∧ t3.nx = y ∧ SR M n0 w l k W3 t3 :=
        ⟨_, rfl, { t with nx := y }, rfl, rfl, R2.out.step (R2.out.su.set_nx y) rfl R2.out.ok (below_set2 (Below.refl _ _) (Nat.le_refl _) _ _)⟩
      rw [hW3]
      clear hW3 R2 HR1 HR KO hs3 h2
      subst hn3
      have HR3 := Lib.hid R3
      have hsw := R3.w
      have hsp := R3.p
      have hyw := HYW.out
      have hyp := HYP.out
      have u0 : W3.cell? ⟨M + 7, 0, none⟩ = some (.func (.func 32) #[] #[.pointer (some ⟨M + 5, 0, none⟩), .pointer (some ⟨M, 0, none⟩), .pointer (some ⟨M + 1, 0, none⟩), .pointer (some ⟨M + 6, 0, none⟩)]) := row_c R3.su.st 0
      have u1 : W3.cell? ⟨M + 7, 1, none⟩ = some (.func (.func 34) #[] #[.pointer (some ⟨M + 5, 0, none⟩), .pointer (some ⟨M + 1, 0, none⟩), .pointer (some ⟨M + 2, 0, none⟩), .pointer (some ⟨M + 6, 0, none⟩)]) := row_c R3.su.st 1
      have u2 : W3.cell? ⟨M + 7, 2, none⟩ = some (.func (.func 36) #[] #[.pointer (some ⟨M, 0, none⟩), .pointer (some ⟨M + 1, 0, none⟩), .pointer (some ⟨M + 3, 0, none⟩), .pointer (some ⟨M + 6, 0, none⟩)]) := row_c R3.su.st 2
      have u3 : W3.cell? ⟨M + 7, 3, none⟩ = some (.func (.func 37) #[] #[.pointer (some ⟨M + 2, 0, none⟩), .pointer (some ⟨M + 3, 0, none⟩), .pointer (some ⟨M + 4, 0, none⟩), .pointer (some ⟨M + 6, 0, none⟩)]) := row_c R3.su.st 3
      have hLu := lcmN_u t3.s.d t3.nx.d hsw.d.1 hyw.d.1
      have hau := mulN_u t3.s.n (lcmN t3.s.d t3.nx.d / t3.s.d) hsw.n.1 (quo_u hLu hsw.d.1).1
      have hbu := mulN_u t3.nx.n (lcmN t3.s.d t3.nx.d / t3.nx.d) hyw.n.1 (quo_u hLu hyw.d.1).1
      have hcu := addN_u _ _ hau.1 hbu.1
      have hLp : lcmB t3.s.d t3.nx.d = true → 0 < lcmN t3.s.d t3.nx.d := lcmN_pos hsp hyp
      have hok : okF t3.s t3.nx = (lcmB t3.s.d t3.nx.d && (mulB t3.s.n (lcmN t3.s.d t3.nx.d / t3.s.d) && (mulB t3.nx.n (lcmN t3.s.d t3.nx.d / t3.nx.d) && addB (mulN t3.s.n (lcmN t3.s.d t3.nx.d / t3.s.d)) (mulN t3.nx.n (lcmN t3.s.d t3.nx.d / t3.nx.d))))) := rfl
      have hpl : plusF t3.s t3.nx = formF (addN (mulN t3.s.n (lcmN t3.s.d t3.nx.d / t3.s.d)) (mulN t3.nx.n (lcmN t3.s.d t3.nx.d / t3.nx.d))) (lcmN t3.s.d t3.nx.d) := rfl
      have hpw : okF t3.s t3.nx = true → FrW (plusF t3.s t3.nx) ∧ 0 < (plusF t3.s t3.nx).d := plusF_w hsw hyw hsp hyp
      have C1 := clo1_any M W3 t3 R3.su hsw.d hyw.d
      have C2 := fun (h : lcmB t3.s.d t3.nx.d = true) W S => clo2_any M W { t3 with wd := lcmN t3.s.d t3.nx.d, ok := true } S hsw.n hsw.d hsp hLu
      have C3 := fun (h : lcmB t3.s.d t3.nx.d = true) W S => clo3_any M W { t3 with wd := lcmN t3.s.d t3.nx.d, lf := mulN t3.s.n (lcmN t3.s.d t3.nx.d / t3.s.d), ok := true } S hyw.n hyw.d hyp hLu
      have C4 := fun W S => clo4_any M W { t3 with wd := lcmN t3.s.d t3.nx.d, lf := mulN t3.s.n (lcmN t3.s.d t3.nx.d / t3.s.d), rt := mulN t3.nx.n (lcmN t3.s.d t3.nx.d / t3.nx.d), ok := true } S hau hbu
      simp only at C1 C2 C3 C4
      generalize mulB t3.s.n (lcmN t3.s.d t3.nx.d / t3.s.d) = b2 at *
      generalize mulB t3.nx.n (lcmN t3.s.d t3.nx.d / t3.nx.d) = b3 at *
      generalize mulN t3.s.n (lcmN t3.s.d t3.nx.d / t3.s.d) = a2 at *
      generalize mulN t3.nx.n (lcmN t3.s.d t3.nx.d / t3.nx.d) = a3 at *
      generalize lcmN t3.s.d t3.nx.d = L at *
      generalize lcmB t3.s.d t3.nx.d = b1 at *
      generalize addB a2 a3 = b4 at *
      generalize addN a2 a3 = a4 at *
      have HQ := Lib.hid R3.q
      have I4 := fun W => four_idx (.func 32) (.func 34) (.func 36) (.func 37) #[] #[.pointer (some ⟨M + 5, 0, none⟩), .pointer (some ⟨M, 0, none⟩), .pointer (some ⟨M + 1, 0, none⟩), .pointer (some ⟨M + 6, 0, none⟩)] #[] #[.pointer (some ⟨M + 5, 0, none⟩), .pointer (some ⟨M + 1, 0, none⟩), .pointer (some ⟨M + 2, 0, none⟩), .pointer (some ⟨M + 6, 0, none⟩)] #[] #[.pointer (some ⟨M, 0, none⟩), .pointer (some ⟨M + 1, 0, none⟩), .pointer (some ⟨M + 3, 0, none⟩), .pointer (some ⟨M + 6, 0, none⟩)] #[] #[.pointer (some ⟨M + 2, 0, none⟩), .pointer (some ⟨M + 3, 0, none⟩), .pointer (some ⟨M + 4, 0, none⟩), .pointer (some ⟨M + 6, 0, none⟩)] W
      have i40 := fun W => (I4 W).1
      have i41 := fun W => (I4 W).2.1
      have i42 := fun W => (I4 W).2.2.1
      have i43 := fun W => (I4 W).2.2.2
      clear I4 R3 hsw hsp hyw hyp
      cases b1
      · have HE := Lib.hid (sumE_none HNO.out (HQ.out.trans (by rw [HD.out]; exact sumO_no (by rw [HY.out]; exact hok.trans (by simp)))))
        replace C1 := Lib.hid C1
        clear hok hpl hpw hLp C2 C3 C4
        go_wp2
        refine wp_loop_rounds 5 ?_
        rw [rounds_succ]
        go_wp2_with (go_at_call 32; (with_reducible refine C1.out.mono ?_); rintro e v1 ⟨rfl, S1, B1⟩; have f1 : v1.cell? ⟨M + 6, 0, none⟩ = some (.bool false) := row_c S1.ok 0; have HS1 := Lib.hid S1; have HB1 := Lib.hid (B1); clear S1 B1; have F4 := Lib.hid (show FB v1 n0 ⟨0, 0⟩ from ⟨(HB1.out.block n0 HR3.out.lt).trans HR3.out.fb.is⟩); have g0 := F4.out.c0; have g1 := F4.out.c1; have gz := F4.out.frozen)
        rw [Exit.noGoto_ret]
        exact bodyPost_ret (results_fr2 rfl _ _ n0 ⟨0, 0⟩ _ rfl rfl (F4.out.set2 ⟨0, 0⟩)) rfl ⟨by rw [HE.out.1, HE.out.2]; rfl, by rw [hn0]; exact below_set2 (HR3.out.b.trans (HB1.out.mono (Nat.le_of_lt HR3.out.lt))) (Nat.le_refl _) _ _⟩
      · cases b2
        · have HE := Lib.hid (sumE_none HNO.out (HQ.out.trans (by rw [HD.out]; exact sumO_no (by rw [HY.out]; exact hok.trans (by simp)))))
          replace C1 := Lib.hid C1
          replace C2 := Lib.hid (C2 rfl)
          clear hok hpl hpw hLp C3 C4
          go_wp2
          refine wp_loop_rounds 5 ?_
          rw [rounds_succ]
          go_wp2_with (go_at_call 32; (with_reducible refine C1.out.mono ?_); rintro e v1 ⟨rfl, S1, B1⟩; have f1 : v1.cell? ⟨M + 6, 0, none⟩ = some (.bool true) := row_c S1.ok 0; have HS1 := Lib.hid S1; have HB1 := Lib.hid (B1); clear S1 B1)
          rw [rounds_succ]
          go_wp2_with (go_at_call 34; (with_reducible refine (C2.out _ HS1.out).mono ?_); rintro e v2 ⟨rfl, S2, B2⟩; have f2 : v2.cell? ⟨M + 6, 0, none⟩ = some (.bool false) := row_c S2.ok 0; have HS2 := Lib.hid S2; have HB2 := Lib.hid ((HB1.out.trans B2)); clear S2 B2; have F4 := Lib.hid (show FB v2 n0 ⟨0, 0⟩ from ⟨(HB2.out.block n0 HR3.out.lt).trans HR3.out.fb.is⟩); have g0 := F4.out.c0; have g1 := F4.out.c1; have gz := F4.out.frozen)
          rw [Exit.noGoto_ret]
          exact bodyPost_ret (results_fr2 rfl _ _ n0 ⟨0, 0⟩ _ rfl rfl (F4.out.set2 ⟨0, 0⟩)) rfl ⟨by rw [HE.out.1, HE.out.2]; rfl, by rw [hn0]; exact below_set2 (HR3.out.b.trans (HB2.out.mono (Nat.le_of_lt HR3.out.lt))) (Nat.le_refl _) _ _⟩
        · cases b3
          · have HE := Lib.hid (sumE_none HNO.out (HQ.out.trans (by rw [HD.out]; exact sumO_no (by rw [HY.out]; exact hok.trans (by simp)))))
            replace C1 := Lib.hid C1
            replace C2 := Lib.hid (C2 rfl)
            replace C3 := Lib.hid (C3 rfl)
            clear hok hpl hpw hLp C4
            go_wp2
            refine wp_loop_rounds 5 ?_
            rw [rounds_succ]
            go_wp2_with (go_at_call 32; (with_reducible refine C1.out.mono ?_); rintro e v1 ⟨rfl, S1, B1⟩; have f1 : v1.cell? ⟨M + 6, 0, none⟩ = some (.bool true) := row_c S1.ok 0; have HS1 := Lib.hid S1; have HB1 := Lib.hid (B1); clear S1 B1)
            rw [rounds_succ]
            go_wp2_with (go_at_call 34; (with_reducible refine (C2.out _ HS1.out).mono ?_); rintro e v2 ⟨rfl, S2, B2⟩; have f2 : v2.cell? ⟨M + 6, 0, none⟩ = some (.bool true) := row_c S2.ok 0; have HS2 := Lib.hid S2; have HB2 := Lib.hid ((HB1.out.trans B2)); clear S2 B2)
            rw [rounds_succ]
            go_wp2_with (go_at_call 36; (with_reducible refine (C3.out _ HS2.out).mono ?_); rintro e v3 ⟨rfl, S3, B3⟩; have f3 : v3.cell? ⟨M + 6, 0, none⟩ = some (.bool false) := row_c S3.ok 0; have HS3 := Lib.hid S3; have HB3 := Lib.hid ((HB2.out.trans B3)); clear S3 B3; have F4 := Lib.hid (show FB v3 n0 ⟨0, 0⟩ from ⟨(HB3.out.block n0 HR3.out.lt).trans HR3.out.fb.is⟩); have g0 := F4.out.c0; have g1 := F4.out.c1; have gz := F4.out.frozen)
            rw [Exit.noGoto_ret]
            exact bodyPost_ret (results_fr2 rfl _ _ n0 ⟨0, 0⟩ _ rfl rfl (F4.out.set2 ⟨0, 0⟩)) rfl ⟨by rw [HE.out.1, HE.out.2]; rfl, by rw [hn0]; exact below_set2 (HR3.out.b.trans (HB3.out.mono (Nat.le_of_lt HR3.out.lt))) (Nat.le_refl _) _ _⟩
          · cases b4
            · have HE := Lib.hid (sumE_none HNO.out (HQ.out.trans (by rw [HD.out]; exact sumO_no (by rw [HY.out]; exact hok.trans (by simp)))))
              replace C1 := Lib.hid C1
              replace C2 := Lib.hid (C2 rfl)
              replace C3 := Lib.hid (C3 rfl)
              replace C4 := Lib.hid C4
              clear hok hpl hpw hLp 
              go_wp2
              refine wp_loop_rounds 5 ?_
              rw [rounds_succ]
              go_wp2_with (go_at_call 32; (with_reducible refine C1.out.mono ?_); rintro e v1 ⟨rfl, S1, B1⟩; have f1 : v1.cell? ⟨M + 6, 0, none⟩ = some (.bool true) := row_c S1.ok 0; have HS1 := Lib.hid S1; have HB1 := Lib.hid (B1); clear S1 B1)
              rw [rounds_succ]
              go_wp2_with (go_at_call 34; (with_reducible refine (C2.out _ HS1.out).mono ?_); rintro e v2 ⟨rfl, S2, B2⟩; have f2 : v2.cell? ⟨M + 6, 0, none⟩ = some (.bool true) := row_c S2.ok 0; have HS2 := Lib.hid S2; have HB2 := Lib.hid ((HB1.out.trans B2)); clear S2 B2)
              rw [rounds_succ]
              go_wp2_with (go_at_call 36; (with_reducible refine (C3.out _ HS2.out).mono ?_); rintro e v3 ⟨rfl, S3, B3⟩; have f3 : v3.cell? ⟨M + 6, 0, none⟩ = some (.bool true) := row_c S3.ok 0; have HS3 := Lib.hid S3; have HB3 := Lib.hid ((HB2.out.trans B3)); clear S3 B3)
              rw [rounds_succ]
              go_wp2_with (go_at_call 37; (with_reducible refine (C4.out _ HS3.out).mono ?_); rintro e v4 ⟨rfl, S4, B4⟩; have f4 : v4.cell? ⟨M + 6, 0, none⟩ = some (.bool false) := row_c S4.ok 0; have HS4 := Lib.hid S4; have HB4 := Lib.hid ((HB3.out.trans B4)); clear S4 B4; have F4 := Lib.hid (show FB v4 n0 ⟨0, 0⟩ from ⟨(HB4.out.block n0 HR3.out.lt).trans HR3.out.fb.is⟩); have g0 := F4.out.c0; have g1 := F4.out.c1; have gz := F4.out.frozen)
              rw [Exit.noGoto_ret]
              exact bodyPost_ret (results_fr2 rfl _ _ n0 ⟨0, 0⟩ _ rfl rfl (F4.out.set2 ⟨0, 0⟩)) rfl ⟨by rw [HE.out.1, HE.out.2]; rfl, by rw [hn0]; exact below_set2 (HR3.out.b.trans (HB4.out.mono (Nat.le_of_lt HR3.out.lt))) (Nat.le_refl _) _ _⟩
            · have HO := Lib.hid (show okF t3.s t3.nx = true from hok.trans rfl)
              have HP := Lib.hid (hpw HO.out)
              have hLp := hLp rfl
              rw [hpl] at HP
              have KF := Lib.hid (fun W => form_any a4 L hcu hLu hLp W)
              have HPL := Lib.hid hpl
              generalize formF a4 L = s' at *
              replace C1 := Lib.hid C1
              replace C2 := Lib.hid (C2 rfl)
              replace C3 := Lib.hid (C3 rfl)
              replace C4 := Lib.hid C4
              clear hok hpl hpw hLp
              go_wp2
              refine wp_loop_rounds 5 ?_
              rw [rounds_succ]
              go_wp2_with (go_at_call 32; (with_reducible refine C1.out.mono ?_); rintro e v1 ⟨rfl, S1, B1⟩; have f1 : v1.cell? ⟨M + 6, 0, none⟩ = some (.bool true) := row_c S1.ok 0; have HS1 := Lib.hid S1; have HB1 := Lib.hid (B1); clear S1 B1)
              rw [rounds_succ]
              go_wp2_with (go_at_call 34; (with_reducible refine (C2.out _ HS1.out).mono ?_); rintro e v2 ⟨rfl, S2, B2⟩; have f2 : v2.cell? ⟨M + 6, 0, none⟩ = some (.bool true) := row_c S2.ok 0; have HS2 := Lib.hid S2; have HB2 := Lib.hid ((HB1.out.trans B2)); clear S2 B2)
              rw [rounds_succ]
              go_wp2_with (go_at_call 36; (with_reducible refine (C3.out _ HS2.out).mono ?_); rintro e v3 ⟨rfl, S3, B3⟩; have f3 : v3.cell? ⟨M + 6, 0, none⟩ = some (.bool true) := row_c S3.ok 0; have HS3 := Lib.hid S3; have HB3 := Lib.hid ((HB2.out.trans B3)); clear S3 B3)
              rw [rounds_succ]
              go_wp2_with (go_at_call 37; (with_reducible refine (C4.out _ HS3.out).mono ?_); rintro e v4 ⟨rfl, S4, B4⟩; have f4 : v4.cell? ⟨M + 6, 0, none⟩ = some (.bool true) := row_c S4.ok 0; have HS4 := Lib.hid S4; have HB4 := Lib.hid ((HB3.out.trans B4)); clear S4 B4)
              rw [rounds_succ]
              have q0 : v4.cell? ⟨M + 4, 0, none⟩ = some (.int .u64 a4) := row_c HS4.out.bo 0
              have q1 : v4.cell? ⟨M + 1, 0, none⟩ = some (.int .u64 L) := row_c HS4.out.wd 0
              go_wp2_with (go_at_call 39; (with_reducible refine (KF.out _).mono ?_); rintro e v5 ⟨rfl, h5⟩; have HS5 := Lib.hid (HS4.out.later h5); have HB5 := Lib.hid (HB4.out.trans (h5.mono (by have := HS4.out.lt; omega))); have s0 : v5.cell? ⟨M + 5, 0, none⟩ = some (.int .u64 t3.s.n) := row_c HS5.out.s 0; have s1 : v5.cell? ⟨M + 5, 1, none⟩ = some (.int .u64 t3.s.d) := row_c HS5.out.s 1; have sfz := fun i => frozen_of_row v5 (M + 5) i _ _ HS5.out.s)
              go_roundg (N - (k + 1))
              case rel =>
                have B6 := below_set2 HB5.out (b := M + 5) (by omega) (.int .u64 s'.n) (.int .u64 s'.d)
                exact ⟨k + 1, { t3 with wd := L, lf := a2, rt := a3, bo := a4, ok := true, s := s' }, by omega, by omega, by go_num, Lib.hid ⟨HS5.out.set_s s', rfl, HP.out.1, HP.out.2, HQ.out.trans (by rw [HD.out]; exact (sumO_yes (by rw [HY.out]; exact HO.out)).trans (by rw [HY.out, HPL.out])), ⟨(B6.block n0 HR3.out.lt).trans HR3.out.fb.is⟩, HR3.out.lt, HR3.out.b.trans (B6.mono (Nat.le_of_lt HR3.out.lt))⟩⟩
              case measure => omega
    · obtain rfl : k = N := by omega
      have HE := Lib.hid (sumE_some HNO.out (HR.out.q.trans (by rw [List.drop_eq_nil_of_le (by rw [HN.out]; exact Nat.le_refl _)]; rfl)))
      have f0 : wr.cell? ⟨M + 6, 0, none⟩ = some (.bool true) := by rw [← HR.out.ok]; exact row_c HR.out.su.ok 0
      have s0 : wr.cell? ⟨M + 5, 0, none⟩ = some (.int .u64 t.s.n) := row_c HR.out.su.s 0
      have s1 : wr.cell? ⟨M + 5, 1, none⟩ = some (.int .u64 t.s.d) := row_c HR.out.su.s 1
      have g0 := HR.out.fb.c0
      have g1 := HR.out.fb.c1
      have gz := HR.out.fb.frozen
      go_wp2
      exact bodyPost_ret (results_fr2 rfl _ _ n0 t.s _ rfl rfl (HR.out.fb.set2 t.s)) rfl ⟨by rw [HE.out.1, HE.out.2]; rfl, by rw [hn0]; exact below_set2 HR.out.b (Nat.le_refl _) _ _⟩
theorem sum_any (A : Option Addr) (cap : Nat) (l : List Ts) (w : World) (hR : Row w A cap l) :
    Calls Try.prog 17 #[.slice A l.length cap] w fun e w' => e = .returned (.tuple #[frV (sumF l), .int .i64 (sumE l)]) ∧ Below w.heap.size w w' := by
  cases hn : anyNo l
  · exact sum_yes A cap l w hR hn
  · have hn' : l.any (fun x => noF x.c x.t) = true := hn
    have e1 : sumF l = ⟨0, 0⟩ := by unfold sumF; rw [if_pos hn']
    have e2 : sumE l = 1 := by unfold sumE; rw [if_pos hn']
    rw [e1, e2]
    exact sum_no A cap l w hR hn
end Go.Proofs.Ytghijgpelkjohaa
