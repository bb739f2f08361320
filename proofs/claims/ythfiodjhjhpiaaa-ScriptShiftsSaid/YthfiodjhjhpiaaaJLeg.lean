/- Legal: the walk. -/
import Derived.Test.YthfiodjhjhpiaaaJClo
import Derived.WalkMore
namespace Go.Proofs.Ythfiodjhjhpiaaa
open Go.RowKit
set_option linter.unusedVariables false
set_option linter.unusedSimpArgs false

attribute [local go_sem] run_store_func
theorem legS_bad {ts : List Ts} {js : List Fv} (h : (chkAll ts).2 ≠ 0) : legS ts js = false := by
  rw [legS, decide_eq_false (fun hh => h hh.1)]; rfl
theorem legS_many {ts : List Ts} {js : List Fv} (h : 4096 < js.length) : legS ts js = false := by
  rw [legS, decide_eq_false (fun hh => by omega)]; rfl
theorem legS_good {ts : List Ts} {js : List Fv} (h : (chkAll ts).2 = 0) (hl : js.length ≤ 4096) : legS ts js = legF ts [] js := by
  rw [legS, decide_eq_true ⟨h, hl⟩]; rfl
set_option maxRecDepth 100000 in
set_option maxHeartbeats 2000000 in
theorem legal_bad (A R : Option Addr) (cap rc : Nat) (ts : List Ts) (js : List Fv) (w : World) (hT : Row w A cap ts) (h0 : (chkAll ts).2 ≠ 0) :
    Calls Try.prog 17 #[.slice A ts.length cap, .slice R js.length rc] w fun e w' => e = .returned (.bool false) ∧ Below w.heap.size w w' := by
  have b0 : Below w.heap.size w (w.alloc (.cells #[.slice A ts.length cap] 24)) := (Below.refl _ _).alloc (Nat.le_refl _) _
  have K := mayBe_any A cap ts _ (hT.later b0)
  rw [decide_eq_false h0] at K
  have K := Lib.hid K
  have B0 := Lib.hid b0
  clear h0 hT b0
  go_enter Try.func17, Try.ntmps17
  go_wp2_with (go_at_call 25; (with_reducible refine K.out.mono ?_); rintro e w1 ⟨rfl, h1⟩)
  go_ret
  exact ⟨rfl, B0.out.trans (h1.mono B0.out.size)⟩
set_option maxRecDepth 100000 in
set_option maxHeartbeats 2000000 in
theorem legal_many (A R : Option Addr) (cap rc : Nat) (ts : List Ts) (js : List Fv) (w : World) (hT : Row w A cap ts) (h0 : (chkAll ts).2 = 0) (hl : 4096 < js.length) :
    Calls Try.prog 17 #[.slice A ts.length cap, .slice R js.length rc] w fun e w' => e = .returned (.bool false) ∧ Below w.heap.size w w' := by
  have b0 : Below w.heap.size w (w.alloc (.cells #[.slice A ts.length cap] 24)) := (Below.refl _ _).alloc (Nat.le_refl _) _
  have K := mayBe_any A cap ts _ (hT.later b0)
  rw [decide_eq_true h0] at K
  have K := Lib.hid K
  have B0 := Lib.hid b0
  have g1 : decide ((js.length : Int) > 4096) = true := decide_eq_true (by omega)
  have g1' : decide (4096 < js.length) = true := decide_eq_true hl
  clear h0 hT b0
  go_enter Try.func17, Try.ntmps17
  go_wp2_with (go_at_call 25; (with_reducible refine K.out.mono ?_); rintro e w1 ⟨rfl, h1⟩)
  go_ret
  exact ⟨rfl, B0.out.trans (h1.mono B0.out.size)⟩

abbrev f1V (bl : Nat) : Value := .func (.func 33) #[] #[.pointer (some ⟨bl, 0, none⟩)]
abbrev f2V (M : Nat) : Value := .func (.func 35) #[] #[.pointer (some ⟨M + 1, 0, none⟩)]
abbrev f3V (bl : Nat) : Value := .func (.func 36) #[] #[.pointer (some ⟨bl, 0, none⟩)]
abbrev f4V (bl : Nat) : Value := .func (.func 37) #[] #[.pointer (some ⟨bl, 0, none⟩)]
abbrev f5V (bl : Nat) : Value := .func (.func 38) #[] #[.pointer (some ⟨bl, 0, none⟩)]
set_option maxRecDepth 100000 in
theorem five_idx (v0 v1 v2 v3 v4 : Value) (w : World) :
    (Instr.index 71 (.agg #[v0, v1, v2, v3, v4]) (.int .i64 0)).run Try.prog w = .ok v0 w ∧
    (Instr.index 71 (.agg #[v0, v1, v2, v3, v4]) (.int .i64 1)).run Try.prog w = .ok v1 w ∧
    (Instr.index 71 (.agg #[v0, v1, v2, v3, v4]) (.int .i64 2)).run Try.prog w = .ok v2 w ∧
    (Instr.index 71 (.agg #[v0, v1, v2, v3, v4]) (.int .i64 3)).run Try.prog w = .ok v3 w ∧
    (Instr.index 71 (.agg #[v0, v1, v2, v3, v4]) (.int .i64 4)).run Try.prog w = .ok v4 w := by
  refine ⟨?_, ?_, ?_, ?_, ?_⟩ <;> rfl
structure LIn (w : World) (A : Option Addr) (n cap bl M : Nat) (wr : World) (js : List Fv) : Prop where
  arr : Arr A n cap M wr js
  lb : wr.heap[bl]? = some (.cells #[.slice A n cap] 24 (0, 0))
  fn : wr.heap[M + 1 + 1]? = some (.cells #[f1V bl, f2V M, f3V bl, f4V bl, f5V bl] 71 (0, 0))
  bel : Below w.heap.size w wr
  ge : w.heap.size ≤ M
theorem LIn.l0 {w wr : World} {A : Option Addr} {n cap bl M : Nat} {js : List Fv} (h : LIn w A n cap bl M wr js) : wr.cell? ⟨bl, 0, none⟩ = some (.slice A n cap) := by rw [cell_of_row wr bl 0 _ _ _ h.lb]; rfl
theorem LIn.fz {w wr : World} {A : Option Addr} {n cap bl M : Nat} {js : List Fv} (h : LIn w A n cap bl M wr js) : wr.cell? ⟨M + 1 + 1, 0, none⟩ = some (f1V bl) ∧ wr.cell? ⟨M + 1 + 1, 1, none⟩ = some (f2V M) ∧ wr.cell? ⟨M + 1 + 1, 2, none⟩ = some (f3V bl) ∧ wr.cell? ⟨M + 1 + 1, 3, none⟩ = some (f4V bl) ∧ wr.cell? ⟨M + 1 + 1, 4, none⟩ = some (f5V bl) := by
  refine ⟨?_, ?_, ?_, ?_, ?_⟩ <;> (rw [cell_of_row wr (M + 1 + 1) _ _ _ _ h.fn]; rfl)
theorem LIn.later {w wr wr' : World} {A : Option Addr} {n cap bl M : Nat} {js : List Fv} (h : LIn w A n cap bl M wr js) (hb : Below wr.heap.size wr wr') : LIn w A n cap bl M wr' js :=
  ⟨h.arr.later hb, (hb.block _ (Array.getElem?_eq_some_iff.1 h.lb).1).trans h.lb, (hb.block _ (Array.getElem?_eq_some_iff.1 h.fn).1).trans h.fn, h.bel.trans (hb.mono h.bel.size), h.ge⟩
theorem LIn.note {w wr wr' : World} {A : Option Addr} {n cap bl M : Nat} {js : List Fv} {j : Fv} (h : LIn w A n cap bl M wr js) (hm : MI wr' M (updF (lastF js) j.t j.a)) (hk : Kept [M] wr wr') : LIn w A n cap bl M wr' (js ++ [j]) := by
  obtain ⟨es, c, hmap⟩ := h.arr.map.is
  have h1 : bl ∉ [M] := fun hx => by
    rw [List.mem_singleton] at hx
    have := h.lb
    rw [hx, hmap] at this
    cases this
  have h2 : M + 1 + 1 ∉ [M] := by rw [List.mem_singleton]; omega
  exact ⟨h.arr.note hm hk, (hk.block _ (Array.getElem?_eq_some_iff.1 h.lb).1 h1).trans h.lb, (hk.block _ (Array.getElem?_eq_some_iff.1 h.fn).1 h2).trans h.fn, h.bel.trans (hk.below h.bel.size (by simp; exact h.ge)), h.ge⟩
theorem legF_at {ts : List Ts} {js : List Fv} {k : Nat} {x : Fv} (h : legF ts [] js = legF ts (js.take k) (js.drop k)) (hx : js[k]? = some x) : legF ts [] js = (legJ ts (js.take k) x && legF ts (js.take (k + 1)) (js.drop (k + 1))) := by
  obtain ⟨hl, he⟩ := List.getElem?_eq_some_iff.1 hx
  rw [h, List.drop_eq_getElem_cons hl, he, legF, take_one hx]
set_option maxRecDepth 100000 in
set_option maxHeartbeats 8000000 in
theorem legal_good (A R : Option Addr) (cap rc : Nat) (ts : List Ts) (js : List Fv) (w : World) (hT : Row w A cap ts) (hR : FRow w R rc js) (h0 : (chkAll ts).2 = 0) (hl : js.length ≤ 4096) :
    Calls Try.prog 17 #[.slice A ts.length cap, .slice R js.length rc] w fun e w' => e = .returned (.bool (legF ts [] js)) ∧ Below w.heap.size w w' := by
  have b0 : Below w.heap.size w (w.alloc (.cells #[.slice A ts.length cap] 24)) := (Below.refl _ _).alloc (Nat.le_refl _) _
  have hv := vs_of h0
  have K := mayBe_any A cap ts _ (hT.later b0)
  rw [decide_eq_true h0] at K
  have K := Lib.hid K
  have hle := hR.le
  have hmx := hR.mx
  have hn0 := hv.n0
  have hn1 := hv.n1
  have HV := Lib.hid hv
  have ROW := Lib.hid hT
  have RAW := Lib.hid hR
  have g1 : decide ((js.length : Int) > 4096) = false := decide_eq_false (by omega)
  have g1' : decide (4096 < js.length) = false := decide_eq_false (by omega)
  have hmm := @run_makeMap Try.prog
  have hlb : (w.alloc (.cells #[.slice A ts.length cap] 24)).heap[w.heap.size]? = some (.cells #[.slice A ts.length cap] 24 (0, 0)) := heap_alloc_new w _
  have hs0 : (w.alloc (.cells #[.slice A ts.length cap] 24)).heap.size = w.heap.size + 1 := by simp
  have HLB := Lib.hid hlb
  have HS0 := Lib.hid hs0
  have B0 := Lib.hid b0
  obtain ⟨bl, hbl⟩ : ∃ bl, w.heap.size = bl := ⟨_, rfl⟩
  have HBL := Lib.hid hbl
  clear h0 hT hR hv hlb hs0 b0
  go_enter Try.func17, Try.ntmps17
  go_upto_region 3 with (go_at_call 25; (with_reducible refine K.out.mono ?_); rintro e w1 ⟨rfl, h1⟩)
  have H1 := Lib.hid h1
  have l1 : w1.cell? ⟨bl, 0, none⟩ = some (.slice A ts.length cap) := by
    rw [cell_of_row w1 bl 0 _ _ _ ((h1.block bl (by rw [HS0.out]; omega)).trans (by rw [← hbl]; exact HLB.out))]
    rfl
  have hsz1 : bl < w1.heap.size := World.block_lt_of_cell? w1 _ l1
  clear h1
  go_upto_region 5 with (fail)
  have HI0 := Lib.hid (show LIn w A ts.length cap bl w1.heap.size (((w1.alloc (.map #[] 0)).alloc (.cells #[.slice A ts.length cap, .map (some w1.heap.size)] 57)).alloc (.cells #[f1V bl, f2V w1.heap.size, f3V bl, f4V bl, f5V bl] 71)) [] from by
    have A0 := Arr.new A ts.length cap w1
    have bA : Below w1.heap.size w1 ((w1.alloc (.map #[] 0)).alloc (.cells #[.slice A ts.length cap, .map (some w1.heap.size)] 57)) := ((Below.refl _ _).alloc (Nat.le_refl _) _).alloc (by simp) _
    have bB : Below ((w1.alloc (.map #[] 0)).alloc (.cells #[.slice A ts.length cap, .map (some w1.heap.size)] 57)).heap.size _ (((w1.alloc (.map #[] 0)).alloc (.cells #[.slice A ts.length cap, .map (some w1.heap.size)] 57)).alloc (.cells #[f1V bl, f2V w1.heap.size, f3V bl, f4V bl, f5V bl] 71)) := (Below.refl _ _).alloc (Nat.le_refl _) _
    have hw1 : Below w.heap.size w w1 := B0.out.trans (H1.out.mono B0.out.size)
    have hlb1 : w1.heap[bl]? = some (.cells #[.slice A ts.length cap] 24 (0, 0)) := (H1.out.block bl (by rw [HS0.out]; omega)).trans (by rw [← hbl]; exact HLB.out)
    refine ⟨A0.later bB, (bB.block bl (by have := bA.size; omega)).trans ((bA.block bl hsz1).trans hlb1), ?_, hw1.trans ((bA.trans (bB.mono bA.size)).mono hw1.size), hw1.size⟩
    have := heap_alloc_new ((w1.alloc (.map #[] 0)).alloc (.cells #[.slice A ts.length cap, .map (some w1.heap.size)] 57)) (.cells #[f1V bl, f2V w1.heap.size, f3V bl, f4V bl, f5V bl] 71)
    simpa only [World.size_alloc] using this)
  generalize (((w1.alloc (.map #[] 0)).alloc (.cells #[.slice A ts.length cap, .map (some w1.heap.size)] 57)).alloc (.cells #[f1V bl, f2V w1.heap.size, f3V bl, f4V bl, f5V bl] 71)) = W0 at *
  generalize w1.heap.size = M at *
  clear l1 hmm hbl
  have I5 := fun W => five_idx (f1V bl) (f2V M) (f3V bl) (f4V bl) (f5V bl) W
  have i50 := fun W => (I5 W).1
  have i51 := fun W => (I5 W).2.1
  have i52 := fun W => (I5 W).2.2.1
  have i53 := fun W => (I5 W).2.2.2.1
  have i54 := fun W => (I5 W).2.2.2.2
  clear I5
  go_wp2
  go_loopw [30] (fun i wr => ∃ k : Nat, k ≤ js.length ∧ i = .int .i64 k ∧ Hid (LIn w A ts.length cap bl M wr (js.take k)) ∧ Hid (legF ts [] js = legF ts (js.take k) (js.drop k)) ∧ Hid (∀ j ∈ js.take k, 0 ≤ j.t ∧ j.t < ts.length ∧ 0 ≤ j.a ∧ j.a ≤ 35184372088832)) (fun i _ => js.length - (intOf i).toNat)
  case atStart => exact ⟨0, Nat.zero_le _, rfl, HI0, Lib.hid rfl, Lib.hid (by simp)⟩
  case round =>
    obtain ⟨k, hk, rfl, hI, hq, hgood⟩ := hrel
    by_cases hlt : k < js.length
    · obtain ⟨rb, ro, x, C, cc, rfl, hx, hrb, hF⟩ := RAW.out.get (k := k) hlt
      have hF := hF.later hI.out.bel
      have c0 := hF.c0
      have c1 := hF.c1
      have c2 := hF.c2
      have c3 := hF.c3
      have c4 := hF.c4
      have hi0 : (0 : Int) ≤ (k : Int) := by omega
      have hi1 : (k : Int) < (js.length : Int) := by omega
      have HQ := Lib.hid (legF_at hq.out hx)
      have HX := Lib.hid hx
      have HF := Lib.hid hF
      clear hF hx hq
      go_upto_region 8 with (fail)
      have F1 := Lib.hid (FAt.new wr x C cc 40 HF.out.wf HF.out.s)
      have B1 := Lib.hid (box_job wr x C cc)
      have I1 := Lib.hid (hI.out.later B1.out)
      generalize (wr.alloc (.cells #[.int .i64 x.t, .int .i64 x.a, .int .i64 x.r, .int .i64 x.k, .slice C x.c.length cc] 40)) = W1 at *
      have T1 := Lib.hid (ROW.out.later I1.out.bel)
      have hb8lt := F1.out.lt
      generalize hb8 : wr.heap.size = b8 at *
      have HB8 := Lib.hid hb8
      clear c0 c1 c2 c3 c4 hb8 hI
      obtain ⟨u0, u1, u2, u3, u4⟩ := I1.out.fz
      obtain ⟨z0, z1, z2, z3, z4⟩ := F1.out.z
      have K1 : Hid (∀ W, Below W1.heap.size W1 W → Calls Try.prog 33 #[fvV x C cc, .pointer (some ⟨bl, 0, none⟩)] W fun e w' => e = .returned (.bool (inB x.t 0 ((ts.length : Int) - 1))) ∧ Below W.heap.size W w') := Lib.hid fun W hb => clo1_any x C A cc ts.length cap bl W (I1.out.later hb).l0 hn1
      have K2 : Hid (∀ W, Below W1.heap.size W1 W → Calls Try.prog 35 #[fvV x C cc, .pointer (some ⟨M + 1, 0, none⟩)] W fun e w' => e = .returned (.bool (inB x.a (soonI ts (js.take k) x.t) 17592186044416)) ∧ Below W.heap.size W w') := Lib.hid fun W hb => clo2_any x C A cc cap M ts (js.take k) W (I1.out.later hb).arr (T1.out.later hb) HV.out hgood.out
      have hsn : 0 ≤ soonI ts (js.take k) x.t := by
        unfold soonI
        cases hls : lastT (js.take k) x.t with
        | none => simp
        | some j =>
          have h1 := hgood.out j (lastT_mem hls).1
          have h2 := (HV.out.tk x.t).t0
          simp only
          omega
      have hleg : legJ ts (js.take k) x = (inB x.t 0 ((ts.length : Int) - 1) && (inB x.a (soonI ts (js.take k) x.t) 17592186044416 && (inB x.r x.a (x.a + (tk ts x.t).j) && (inB x.k 1 (tk ts x.t).c && fitB (tk ts x.t).q x.k x.c)))) := rfl
      generalize soonI ts (js.take k) x.t = sp at *
      have q1 := @inB_iff x.t 0 ((ts.length : Int) - 1)
      have q2 := @inB_iff x.a sp 17592186044416
      have q4 := @inB_iff x.k 1 (tk ts x.t).c
      have HLEG := Lib.hid hleg
      clear hleg
      cases hb1 : inB x.t 0 ((ts.length : Int) - 1)
      · have HC : Hid ((inB x.t 0 ((ts.length : Int) - 1) && (inB x.a sp 17592186044416 && (inB x.r x.a (x.a + (tk ts x.t).j) && (inB x.k 1 (tk ts x.t).c && (fitB (tk ts x.t).q x.k x.c))))) = false) := Lib.hid (by rw [hb1]; rfl)
        rw [hb1] at K1
        clear q1 q2 q4 hb1
        clear K2
        go_wp2
        refine wp_loop_rounds 6 ?_
        rw [rounds_succ]
        go_wp2_with (go_at_call 33; (with_reducible refine (K1.out _ (Below.refl _ _)).mono ?_); rintro e1 v1 ⟨rfl, h1⟩; have BB1 : Hid (Below W1.heap.size W1 v1) := Lib.hid (h1); obtain ⟨z0, z1, z2, z3, z4⟩ := (F1.out.later BB1.out).z; clear h1)
        go_ret
        exact ⟨by rw [HQ.out, HLEG.out, HC.out]; rfl, I1.out.bel.trans (BB1.out.mono I1.out.bel.size)⟩
      · rw [hb1] at K1
        obtain ⟨xt0, xt1⟩ := q1.1 hb1
        obtain ⟨p, hp⟩ : ∃ p : Nat, x.t = (p : Int) := ⟨x.t.toNat, by omega⟩
        have HP := Lib.hid hp
        clear hp
        cases hb2 : inB x.a sp 17592186044416
        · have HC : Hid ((inB x.t 0 ((ts.length : Int) - 1) && (inB x.a sp 17592186044416 && (inB x.r x.a (x.a + (tk ts x.t).j) && (inB x.k 1 (tk ts x.t).c && (fitB (tk ts x.t).q x.k x.c))))) = false) := Lib.hid (by rw [hb1, hb2]; rfl)
          rw [hb2] at K2
          clear q1 q2 q4 hb2
          go_wp2
          refine wp_loop_rounds 6 ?_
          rw [rounds_succ]
          go_wp2_with (go_at_call 33; (with_reducible refine (K1.out _ (Below.refl _ _)).mono ?_); rintro e1 v1 ⟨rfl, h1⟩; have BB1 : Hid (Below W1.heap.size W1 v1) := Lib.hid (h1); obtain ⟨z0, z1, z2, z3, z4⟩ := (F1.out.later BB1.out).z; clear h1)
          rw [rounds_succ]
          go_wp2_with (go_at_call 35; (with_reducible refine (K2.out _ BB1.out).mono ?_); rintro e2 v2 ⟨rfl, h2⟩; have BB2 : Hid (Below W1.heap.size W1 v2) := Lib.hid (BB1.out.trans (h2.mono BB1.out.size)); obtain ⟨z0, z1, z2, z3, z4⟩ := (F1.out.later BB2.out).z; clear h2)
          go_ret
          exact ⟨by rw [HQ.out, HLEG.out, HC.out]; rfl, I1.out.bel.trans (BB2.out.mono I1.out.bel.size)⟩
        · rw [hb2] at K2
          obtain ⟨xa0, xa1⟩ := q2.1 hb2
          have K3 : Hid (∀ W, Below W1.heap.size W1 W → Calls Try.prog 36 #[fvV x C cc, .pointer (some ⟨bl, 0, none⟩)] W fun e w' => e = .returned (.bool (inB x.r x.a (x.a + (tk ts x.t).j))) ∧ Below W.heap.size W w') := Lib.hid fun W hb => clo3_any x C A cc cap bl p ts W (I1.out.later hb).l0 (T1.out.later hb) HV.out HP.out (by have := HP.out; omega) ⟨by omega, by omega⟩
          have K4 : Hid (∀ W, Below W1.heap.size W1 W → Calls Try.prog 37 #[fvV x C cc, .pointer (some ⟨bl, 0, none⟩)] W fun e w' => e = .returned (.bool (inB x.k 1 (tk ts x.t).c)) ∧ Below W.heap.size W w') := Lib.hid fun W hb => clo4_any x C A cc cap bl p ts W (I1.out.later hb).l0 (T1.out.later hb) HV.out HP.out (by have := HP.out; omega)
          cases hb3 : inB x.r x.a (x.a + (tk ts x.t).j)
          · have HC : Hid ((inB x.t 0 ((ts.length : Int) - 1) && (inB x.a sp 17592186044416 && (inB x.r x.a (x.a + (tk ts x.t).j) && (inB x.k 1 (tk ts x.t).c && (fitB (tk ts x.t).q x.k x.c))))) = false) := Lib.hid (by rw [hb1, hb2, hb3]; rfl)
            rw [hb3] at K3
            clear q1 q2 q4 hb3
            go_wp2
            refine wp_loop_rounds 6 ?_
            rw [rounds_succ]
            go_wp2_with (go_at_call 33; (with_reducible refine (K1.out _ (Below.refl _ _)).mono ?_); rintro e1 v1 ⟨rfl, h1⟩; have BB1 : Hid (Below W1.heap.size W1 v1) := Lib.hid (h1); obtain ⟨z0, z1, z2, z3, z4⟩ := (F1.out.later BB1.out).z; clear h1)
            rw [rounds_succ]
            go_wp2_with (go_at_call 35; (with_reducible refine (K2.out _ BB1.out).mono ?_); rintro e2 v2 ⟨rfl, h2⟩; have BB2 : Hid (Below W1.heap.size W1 v2) := Lib.hid (BB1.out.trans (h2.mono BB1.out.size)); obtain ⟨z0, z1, z2, z3, z4⟩ := (F1.out.later BB2.out).z; clear h2)
            rw [rounds_succ]
            go_wp2_with (go_at_call 36; (with_reducible refine (K3.out _ BB2.out).mono ?_); rintro e3 v3 ⟨rfl, h3⟩; have BB3 : Hid (Below W1.heap.size W1 v3) := Lib.hid (BB2.out.trans (h3.mono BB2.out.size)); obtain ⟨z0, z1, z2, z3, z4⟩ := (F1.out.later BB3.out).z; clear h3)
            go_ret
            exact ⟨by rw [HQ.out, HLEG.out, HC.out]; rfl, I1.out.bel.trans (BB3.out.mono I1.out.bel.size)⟩
          · rw [hb3] at K3
            cases hb4 : inB x.k 1 (tk ts x.t).c
            · have HC : Hid ((inB x.t 0 ((ts.length : Int) - 1) && (inB x.a sp 17592186044416 && (inB x.r x.a (x.a + (tk ts x.t).j) && (inB x.k 1 (tk ts x.t).c && (fitB (tk ts x.t).q x.k x.c))))) = false) := Lib.hid (by rw [hb1, hb2, hb3, hb4]; rfl)
              rw [hb4] at K4
              clear q1 q2 q4 hb4
              go_wp2
              refine wp_loop_rounds 6 ?_
              rw [rounds_succ]
              go_wp2_with (go_at_call 33; (with_reducible refine (K1.out _ (Below.refl _ _)).mono ?_); rintro e1 v1 ⟨rfl, h1⟩; have BB1 : Hid (Below W1.heap.size W1 v1) := Lib.hid (h1); obtain ⟨z0, z1, z2, z3, z4⟩ := (F1.out.later BB1.out).z; clear h1)
              rw [rounds_succ]
              go_wp2_with (go_at_call 35; (with_reducible refine (K2.out _ BB1.out).mono ?_); rintro e2 v2 ⟨rfl, h2⟩; have BB2 : Hid (Below W1.heap.size W1 v2) := Lib.hid (BB1.out.trans (h2.mono BB1.out.size)); obtain ⟨z0, z1, z2, z3, z4⟩ := (F1.out.later BB2.out).z; clear h2)
              rw [rounds_succ]
              go_wp2_with (go_at_call 36; (with_reducible refine (K3.out _ BB2.out).mono ?_); rintro e3 v3 ⟨rfl, h3⟩; have BB3 : Hid (Below W1.heap.size W1 v3) := Lib.hid (BB2.out.trans (h3.mono BB2.out.size)); obtain ⟨z0, z1, z2, z3, z4⟩ := (F1.out.later BB3.out).z; clear h3)
              rw [rounds_succ]
              go_wp2_with (go_at_call 37; (with_reducible refine (K4.out _ BB3.out).mono ?_); rintro e4 v4 ⟨rfl, h4⟩; have BB4 : Hid (Below W1.heap.size W1 v4) := Lib.hid (BB3.out.trans (h4.mono BB3.out.size)); obtain ⟨z0, z1, z2, z3, z4⟩ := (F1.out.later BB4.out).z; clear h4)
              go_ret
              exact ⟨by rw [HQ.out, HLEG.out, HC.out]; rfl, I1.out.bel.trans (BB4.out.mono I1.out.bel.size)⟩
            · rw [hb4] at K4
              obtain ⟨xk0, xk1⟩ := q4.1 hb4
              have hc1 := (HV.out.tk x.t).c1
              have K5 : Hid (∀ W, Below W1.heap.size W1 W → Calls Try.prog 38 #[fvV x C cc, .pointer (some ⟨bl, 0, none⟩)] W fun e w' => e = .returned (.bool (fitB (tk ts x.t).q x.k x.c)) ∧ Below W.heap.size W w') := Lib.hid fun W hb => clo5_any x C A cc cap bl p ts W (I1.out.later hb).l0 (T1.out.later hb) HV.out HP.out (by have := HP.out; omega) ⟨by omega, by omega⟩ (F1.out.s.later hb)
              cases hb5 : fitB (tk ts x.t).q x.k x.c
              · have HC : Hid ((inB x.t 0 ((ts.length : Int) - 1) && (inB x.a sp 17592186044416 && (inB x.r x.a (x.a + (tk ts x.t).j) && (inB x.k 1 (tk ts x.t).c && (fitB (tk ts x.t).q x.k x.c))))) = false) := Lib.hid (by rw [hb1, hb2, hb3, hb4, hb5]; rfl)
                rw [hb5] at K5
                clear q1 q2 q4 hb5
                go_wp2
                refine wp_loop_rounds 6 ?_
                rw [rounds_succ]
                go_wp2_with (go_at_call 33; (with_reducible refine (K1.out _ (Below.refl _ _)).mono ?_); rintro e1 v1 ⟨rfl, h1⟩; have BB1 : Hid (Below W1.heap.size W1 v1) := Lib.hid (h1); obtain ⟨z0, z1, z2, z3, z4⟩ := (F1.out.later BB1.out).z; clear h1)
                rw [rounds_succ]
                go_wp2_with (go_at_call 35; (with_reducible refine (K2.out _ BB1.out).mono ?_); rintro e2 v2 ⟨rfl, h2⟩; have BB2 : Hid (Below W1.heap.size W1 v2) := Lib.hid (BB1.out.trans (h2.mono BB1.out.size)); obtain ⟨z0, z1, z2, z3, z4⟩ := (F1.out.later BB2.out).z; clear h2)
                rw [rounds_succ]
                go_wp2_with (go_at_call 36; (with_reducible refine (K3.out _ BB2.out).mono ?_); rintro e3 v3 ⟨rfl, h3⟩; have BB3 : Hid (Below W1.heap.size W1 v3) := Lib.hid (BB2.out.trans (h3.mono BB2.out.size)); obtain ⟨z0, z1, z2, z3, z4⟩ := (F1.out.later BB3.out).z; clear h3)
                rw [rounds_succ]
                go_wp2_with (go_at_call 37; (with_reducible refine (K4.out _ BB3.out).mono ?_); rintro e4 v4 ⟨rfl, h4⟩; have BB4 : Hid (Below W1.heap.size W1 v4) := Lib.hid (BB3.out.trans (h4.mono BB3.out.size)); obtain ⟨z0, z1, z2, z3, z4⟩ := (F1.out.later BB4.out).z; clear h4)
                rw [rounds_succ]
                go_wp2_with (go_at_call 38; (with_reducible refine (K5.out _ BB4.out).mono ?_); rintro e5 v5 ⟨rfl, h5⟩; have BB5 : Hid (Below W1.heap.size W1 v5) := Lib.hid (BB4.out.trans (h5.mono BB4.out.size)); obtain ⟨z0, z1, z2, z3, z4⟩ := (F1.out.later BB5.out).z; clear h5)
                go_ret
                exact ⟨by rw [HQ.out, HLEG.out, HC.out]; rfl, I1.out.bel.trans (BB5.out.mono I1.out.bel.size)⟩
              · rw [hb5] at K5
                have HC : Hid ((inB x.t 0 ((ts.length : Int) - 1) && (inB x.a sp 17592186044416 && (inB x.r x.a (x.a + (tk ts x.t).j) && (inB x.k 1 (tk ts x.t).c && (fitB (tk ts x.t).q x.k x.c))))) = true) := Lib.hid (by rw [hb1, hb2, hb3, hb4, hb5]; rfl)
                have hg2 : Hid (∀ j ∈ js.take (k + 1), 0 ≤ j.t ∧ j.t < ts.length ∧ 0 ≤ j.a ∧ j.a ≤ 35184372088832) := Lib.hid (fun j hj => by
                  rw [take_one HX.out] at hj
                  rcases List.mem_append.1 hj with hj | hj
                  · exact hgood.out j hj
                  · rw [List.mem_singleton] at hj
                    subst hj
                    omega)
                have HQ2 : Hid (legF ts [] js = legF ts (js.take (k + 1)) (js.drop (k + 1))) := Lib.hid (by rw [HQ.out, HLEG.out, HC.out, Bool.true_and])
                clear q1 q2 q4 hb1 hb2 hb3 hb4 hb5
                go_wp2
                refine wp_loop_rounds 6 ?_
                rw [rounds_succ]
                go_wp2_with (go_at_call 33; (with_reducible refine (K1.out _ (Below.refl _ _)).mono ?_); rintro e1 v1 ⟨rfl, h1⟩; have BB1 : Hid (Below W1.heap.size W1 v1) := Lib.hid (h1); obtain ⟨z0, z1, z2, z3, z4⟩ := (F1.out.later BB1.out).z; clear h1)
                rw [rounds_succ]
                go_wp2_with (go_at_call 35; (with_reducible refine (K2.out _ BB1.out).mono ?_); rintro e2 v2 ⟨rfl, h2⟩; have BB2 : Hid (Below W1.heap.size W1 v2) := Lib.hid (BB1.out.trans (h2.mono BB1.out.size)); obtain ⟨z0, z1, z2, z3, z4⟩ := (F1.out.later BB2.out).z; clear h2)
                rw [rounds_succ]
                go_wp2_with (go_at_call 36; (with_reducible refine (K3.out _ BB2.out).mono ?_); rintro e3 v3 ⟨rfl, h3⟩; have BB3 : Hid (Below W1.heap.size W1 v3) := Lib.hid (BB2.out.trans (h3.mono BB2.out.size)); obtain ⟨z0, z1, z2, z3, z4⟩ := (F1.out.later BB3.out).z; clear h3)
                rw [rounds_succ]
                go_wp2_with (go_at_call 37; (with_reducible refine (K4.out _ BB3.out).mono ?_); rintro e4 v4 ⟨rfl, h4⟩; have BB4 : Hid (Below W1.heap.size W1 v4) := Lib.hid (BB3.out.trans (h4.mono BB3.out.size)); obtain ⟨z0, z1, z2, z3, z4⟩ := (F1.out.later BB4.out).z; clear h4)
                rw [rounds_succ]
                go_wp2_with (go_at_call 38; (with_reducible refine (K5.out _ BB4.out).mono ?_); rintro e5 v5 ⟨rfl, h5⟩; have BB5 : Hid (Below W1.heap.size W1 v5) := Lib.hid (BB4.out.trans (h5.mono BB4.out.size)); obtain ⟨z0, z1, z2, z3, z4⟩ := (F1.out.later BB5.out).z; clear h5)
                rw [rounds_succ]
                have I6 := Lib.hid (I1.out.later BB5.out)
                have a0 := I6.out.arr.c0
                have a1 := I6.out.arr.c1
                have KN := Lib.hid (note_any A C ts.length cap cc M (lastF (js.take k)) x v5 I6.out.arr.map)
                go_wp2_with (go_at_call 29; (with_reducible refine KN.out.mono ?_); rintro e7 v7 ⟨rfl, hm7, hk7⟩; have I7 := Lib.hid (I6.out.note hm7 hk7); clear hm7 hk7)
                go_roundw
                case rel => exact ⟨k + 1, by omega, by go_num, by rw [take_one HX.out]; exact I7, HQ2, hg2⟩
                case measure => simp [intOf]; omega
    · obtain rfl : k = js.length := by omega
      go_wp2
      go_ret
      exact ⟨by rw [hq.out, List.drop_length]; rfl, hI.out.bel⟩
theorem legal_any (A R : Option Addr) (cap rc : Nat) (ts : List Ts) (js : List Fv) (w : World) (hT : Row w A cap ts) (hR : FRow w R rc js) :
    Calls Try.prog 17 #[.slice A ts.length cap, .slice R js.length rc] w fun e w' => e = .returned (.bool (legS ts js)) ∧ Below w.heap.size w w' := by
  by_cases h : (chkAll ts).2 = 0
  · by_cases hl : js.length ≤ 4096
    · rw [legS_good h hl]; exact legal_good A R cap rc ts js w hT hR h hl
    · rw [legS_many (by omega)]; exact legal_many A R cap rc ts js w hT h (by omega)
  · rw [legS_bad h]; exact legal_bad A R cap rc ts js w hT h
end Go.Proofs.Ythfiodjhjhpiaaa
