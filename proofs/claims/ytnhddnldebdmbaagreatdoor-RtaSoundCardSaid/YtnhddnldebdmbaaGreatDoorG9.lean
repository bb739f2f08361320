/- Texts about the program, one after the other: ERls, ETell, ELv, EWk, ESec, EPl, EPlay. -/
import Derived.Test.YtnhddnldebdmbaaGreatDoorG8
/- Who is released by now is put into the queues: the walk. -/
namespace Go.Proofs.YtnhddnldebdmbaaGreatDoor
open Go.RowKit
set_option linter.unusedVariables false
set_option linter.unusedSimpArgs false
attribute [local go_sem ↓] Go.wp_at_zero Go.wp_at_succ
/-- What is left of a job that has worked so much. -/
def lfN (js : List Fv) (dn : List Int) (p : Nat) : Int × List Int := ((jb js p).k - kO dn p, cl (jb js p).c (kO dn p))
theorem lfN_zero {C : Cfg} (hC : Cok C) {dn : List Int} {p : Nat} (h : kO dn p = 0) : lfN C.js dn p = ((jb C.js p).k, (jb C.js p).c) := by
  unfold lfN; rw [h, Int.sub_zero, cl_zero _ (hC.lg.pos p)]
theorem run_tail (g off n : Nat) (w : World) (h : n ≤ 100000) : (Instr.slice 42 (.slice (some ⟨g, off, none⟩) (n + 1) (n + 1)) (some (.int .i64 1)) none none).run Tryz.prog w = .ok (.slice (some ⟨g, if n = 0 then off else off + 1, none⟩) n n) w := by
  have h3 : (0 : Int) ≤ 1 := by omega
  have h5 : (1 : Int).toNat = 1 := rfl
  by_cases h0 : n = 0
  · subst h0
    go_simp
  · have h1 : (1 : Int) ≤ ((n + 1 : Nat) : Int) := by omega
    have h4 : ¬ n + 1 = 1 := by omega
    have h6 : n + 1 - 1 = n := by omega
    rw [if_neg h0]
    go_simp
    intro h; omega
theorem Com.tail {B : Nat} {w : World} {g off n : Nat} {cs : Array Value} {p : Nat} {r : List Nat} (hB : B ≤ g) (hg : w.heap[g]? = some (.cells cs TIn (0, 0))) (hn : (p :: r).length = n + 1) (hl : n + 1 ≤ 1000) (hc : ∀ (j q : Nat), (p :: r)[j]? = some q → w.cell? ⟨g, off + j, none⟩ = some (.int .i64 (q : Int))) :
    Com B w (.slice (some ⟨g, if n = 0 then off else off + 1, none⟩) n n) r := by
  have hr : r.length = n := by simpa using hn
  refine ⟨g, if n = 0 then off else off + 1, cs, by rw [hr], hB, hg, by omega, fun j q hj => ?_⟩
  have hj2 := (List.getElem?_eq_some_iff.1 hj).1
  rw [if_neg (by omega)]
  have := hc (j + 1) q (by simpa using hj)
  rw [Nat.add_assoc, Nat.add_comm 1 j]; exact this
structure RlI (C : Cfg) (M : Mv) (k : Nat) (L : List Int) (w : World) : Prop where
  ex : ∃ vc vs ve rb rv, Ex C w { M with m := k, L := L } vc vs ve rb rv (lfN C.js M.dn)
  hd : Hd C.ts C.js M.dn (C.o.take k) L
  le : k ≤ C.o.length
  ge : M.m ≤ k
  lo : ∀ p ∈ C.o.take k, (jb C.js p).r ≤ M.now
def RlP (C : Cfg) (M : Mv) (e : Ending) (w' : World) : Prop := e = .returned (.tuple #[]) ∧ ∃ k L, RlI C M k L w' ∧ Rel C.js C.o k M.now
set_option maxRecDepth 100000 in
set_option maxHeartbeats 8000000 in
theorem release_any {C : Cfg} {M : Mv} {w : World} (hC : Cok C) (h : RlI C M M.m M.L w) (hn : 0 ≤ M.now ∧ M.now ≤ 9223372036854775807) (hz : ∀ p ∈ C.o.drop M.m, kO M.dn p = 0) :
    Calls Tryz.prog 43 #[.pointer (some ⟨C.bx, 0, none⟩)] w (RlP C M) := by
  have H0 := Lib.hid h
  have HN := Lib.hid hn
  have HZ := Lib.hid hz
  clear h hn hz
  go_enter Tryz.func43, Tryz.ntmps43
  go_wp2
  go_loopg [] (C.o.length + 1) (fun gm wr => ∃ (k : Nat) (L : List Int), C.o.length + 1 ≤ gm + k ∧ k ≤ C.o.length ∧ Hid (RlI C M k L wr))
  case atStart => exact ⟨M.m, M.L, by omega, H0.out.le, H0⟩
  case round =>
    obtain ⟨k, L, hm, hkl, hI⟩ := hrel
    clear H0
    obtain ⟨vc, vs, ve, rb, rv, hE⟩ := hI.out.ex
    obtain ⟨g, off, cs, rfl, hB, hg, hl, hc⟩ := hE.com.ex
    have c1 := hE.c1
    have HE := Lib.hid hE
    have Q := quiet_any hC hE HN.out
    simp only at hl hc c1 hg
    cases hd : C.o.drop k with
    | nil =>
      rw [hd] at c1
      simp only [List.length_nil] at c1
      have hrl := rel_done hC hkl hI.out.lo (fun p r e => by rw [hd] at e; cases e)
      have HR := Lib.hid hrl
      clear hE hc hl hg hd Q hrl
      go_wp2
      go_end0
      exact ⟨rfl, k, L, hI.out, HR.out⟩
    | cons p r =>
      have hrel : relS C { M with m := k, L := L } = (jb C.js p).r - M.now := by unfold relS; simp only [hd]
      rw [hrel] at Q
      have ln : (p :: r).length = r.length + 1 := rfl
      have lz : (0 : Int) < ((r.length + 1 : Nat) : Int) := by omega
      by_cases hr : (jb C.js p).r ≤ M.now
      · have hq : (decide ((jb C.js p).r - M.now ≤ 0)) = true := decide_eq_true (by omega)
        have Q := Lib.hid Q
        have HD := Lib.hid hd
        have hmd : ∀ q ∈ C.o.drop k, q ∈ C.o.drop M.m := fun q hq => by
          have hge := hI.out.ge
          have : C.o.drop k = (C.o.drop M.m).drop (k - M.m) := by rw [List.drop_drop]; congr 1; omega
          rw [this] at hq
          exact List.mem_of_mem_drop hq
        have HCM0 := Lib.hid (fun n va (hn : r.length = n) (hva : (if n = 0 then off else off + 1) = va) => show Com C.w0.heap.size wr (.slice (some ⟨g, va, none⟩) n n) r from by
          rw [← hva]
          refine Com.tail (p := p) hB hg (by simp [hn]) (by rw [hd] at hl; simp at hl; omega) (fun j q hj => hc j q (by rw [hd]; exact hj)))
        rw [hd, ln] at c1 hl
        have hp : p ∈ C.o := List.mem_of_mem_drop (i := k) (by rw [hd]; simp)
        have hpl := hC.rel hp
        have hfew := hC.few
        obtain ⟨t0, t1⟩ := hC.t0 p hpl
        obtain ⟨τ, hτ⟩ : ∃ τ : Nat, (jb C.js p).t = (τ : Int) := ⟨(jb C.js p).t.toNat, by omega⟩
        have HT := Lib.hid hτ
        have hτl : τ < C.ts.length := by omega
        obtain ⟨jbk, jo, x, A, cc, hR, hx, hjl, hF⟩ := hC.row.get hpl
        have hxe := jb_get hx
        subst hxe
        have HF := Lib.hid hF
        have e1 := hc 0 p (by rw [hd]; rfl)
        rw [Nat.add_zero] at e1
        clear hc hd hE hg hrel t0 t1 hτ
        go_upto_region 1 with (go_at_call 45; (with_reducible refine Q.out.mono ?_); rintro e w1 ⟨rfl, nq, rfl⟩)
        have HCM1 := Lib.hid (fun n va hn hva => (HCM0.out n va hn hva).kt (KT.of (S := []) (below_drewN2 wr nq)) (by simp))
        have hE1 := HE.out.later hC (below_drewN2 wr nq)
        have e1' : (wr.drewN nq).cell? ⟨g, off, none⟩ = _ := e1
        clear e1 c1
        generalize wr.drewN nq = W1 at *
        have c0 := hE1.c0
        have c1 := hE1.c1
        have c2 := hE1.c2
        have c3 := hE1.c3
        have f1 := hE1.fz 1
        have hdl : (C.o.drop k).length = r.length + 1 := by rw [HD.out]; rfl
        simp only [hdl] at c1
        rw [hR] at c0
        have jW := hF.later hE1.bel
        have j0 := jW.c0
        have j1 := jW.c1
        have j2 := jW.c2
        have j3 := jW.c3
        have j4 := jW.c4
        have hld := jW.loadJ
        obtain ⟨va, hva⟩ : ∃ va, (if r.length = 0 then off else off + 1) = va := ⟨_, rfl⟩
        have HCM := Lib.hid (HCM1.out _ va rfl hva)
        have hsl := fun w => run_tail g off r.length w (by omega)
        rw [hva] at hsl
        clear hva
        have i0 : (0 : Int) ≤ (p : Int) := by omega
        have i1 : (p : Int) < (C.js.length : Int) := by omega
        have HE1 := Lib.hid hE1
        have JW := Lib.hid jW
        clear hE1 jW hdl hF hx hR
        go_upto_region 3 with (fail)
        have kx : KT [TX] W1 (W1.setCell ⟨C.bx, 1, none⟩ (.slice (some ⟨g, va, none⟩) r.length r.length)) := KT.set HE1.out.box (by simp)
        have bel2 : Below C.w0.heap.size C.w0 (W1.setCell ⟨C.bx, 1, none⟩ (.slice (some ⟨g, va, none⟩) r.length r.length)) := below_set HE1.out.bel hC.bx HE1.out.bel.size
        obtain ⟨W2, hW2⟩ : ∃ W2, W1.setCell ⟨C.bx, 1, none⟩ (.slice (some ⟨g, va, none⟩) r.length r.length) = W2 := ⟨_, rfl⟩
        have d0 : W2.cell? ⟨C.bx, 0, none⟩ = some (.slice (some ⟨jbk, jo, none⟩) C.js.length C.rc) := by rw [← hW2]; exact set_o c0 (by omega)
        have d2 : W2.cell? ⟨C.bx, 2, none⟩ = some (.pointer (some ⟨C.hb, 0, none⟩)) := by rw [← hW2]; exact set_o c2 (by omega)
        have d3 : W2.cell? ⟨C.bx, 3, none⟩ = some (.slice (some ⟨C.gq, 0, none⟩) C.ts.length C.ts.length) := by rw [← hW2]; exact set_o c3 (by omega)
        rw [hW2] at kx bel2 ⊢
        have KX := Lib.hid kx
        have BEL2 := Lib.hid bel2
        have jF2 := HF.out.later bel2
        have k0 := jF2.c0
        have k1 := jF2.c1
        have k2 := jF2.c2
        have k3 := jF2.c3
        have k4 := jF2.c4
        have kld := jF2.loadJ
        have HW2 := Lib.hid hW2
        clear kx bel2
        clear hW2 c0 c1 c2 c3 j0 j1 j2 j3 j4 hld f1 hsl e1' jF2
        go_upto_region 4 with (fail)
        rw [HT.out]
        have hb23 : Below W2.heap.size W2 (W2.alloc (.cells #[.int .i64 (τ : Int), .int .i64 (jb C.js p).a, .int .i64 (jb C.js p).r, .int .i64 (jb C.js p).k, .slice A (jb C.js p).c.length cc] 38)) := (Below.refl _ _).alloc (Nat.le_refl _) _
        have hzc := fun i => cell_of_row (W2.alloc (.cells #[.int .i64 (τ : Int), .int .i64 (jb C.js p).a, .int .i64 (jb C.js p).r, .int .i64 (jb C.js p).k, .slice A (jb C.js p).c.length cc] 38)) W2.heap.size i _ _ _ (heap_alloc_new W2 _)
        have HJB := Lib.hid (show ∃ cs, (W2.alloc (.cells #[.int .i64 (τ : Int), .int .i64 (jb C.js p).a, .int .i64 (jb C.js p).r, .int .i64 (jb C.js p).k, .slice A (jb C.js p).c.length cc] 38)).heap[W2.heap.size]? = some (Obj.cells cs 38 (0, 0)) from ⟨_, heap_alloc_new W2 _⟩)
        have z0 := hzc 0
        have z3 := hzc 3
        have z4 := hzc 4
        simp only [List.getElem?_toArray, List.getElem?_cons_zero, List.getElem?_cons_succ] at z0 z3 z4
        generalize W2.alloc (.cells #[.int .i64 (τ : Int), .int .i64 (jb C.js p).a, .int .i64 (jb C.js p).r, .int .i64 (jb C.js p).k, .slice A (jb C.js p).c.length cc] 38) = W3 at *
        generalize hnb : W2.heap.size = nb at *
        have l2 : C.bx < nb := by rw [← hnb]; exact World.block_lt_of_cell? W2 _ d2
        have y2 := (hb23.cell (p := ⟨C.bx, 2, none⟩) l2).trans d2
        have y3 := (hb23.cell (p := ⟨C.bx, 3, none⟩) l2).trans d3
        have HB23 := Lib.hid hb23
        have HNB := Lib.hid hnb
        obtain ⟨N, f, hQ1, hN⟩ := HE1.out.qs τ hτl
        simp only at hQ1
        have hQ3 := (hQ1.kt KX.out (by decide)).kt (KT.of (S := []) (by rw [hnb]; exact hb23)) (by simp)
        have HQ3 := Lib.hid hQ3
        have ti0 : (0 : Int) ≤ (τ : Int) := by omega
        have ti1 : (τ : Int) < (C.ts.length : Int) := by omega
        clear d0 d2 d3 k0 k1 k2 k3 k4 kld hzc hb23 hQ1 hQ3 hnb
        go_upto_region 4 with (fail)
        go_quiet (fail)
        have hB24 : Below nb W2 (W3.drewN nq) := HB23.out.trans ((below_drewN2 W3 nq).mono (by have := HB23.out.size; have := HNB.out; omega))
        have HJB : Hid (∃ cs, (W3.drewN nq).drew.heap[nb]? = some (Obj.cells cs 38 (0, 0))) := HJB
        have HQ4 := Lib.hid (HQ3.out.kt (KT.of (S := []) (below_drewN2 W3 nq)) (by simp))
        have z0' : (W3.drewN nq).cell? ⟨nb, 0, none⟩ = some (.int .i64 (τ : Int)) := z0
        have z3' : (W3.drewN nq).cell? ⟨nb, 3, none⟩ = some (.int .i64 (jb C.js p).k) := z3
        have z4' : (W3.drewN nq).cell? ⟨nb, 4, none⟩ = some (.slice A (jb C.js p).c.length cc) := z4
        have y2' : (W3.drewN nq).cell? ⟨C.bx, 2, none⟩ = some (.pointer (some ⟨C.hb, 0, none⟩)) := y2
        have HB24 := Lib.hid hB24
        clear z0 z3 z4 y2 y3 hB24 HQ3 HB23
        generalize W3.drewN nq = W4 at *
        have LN := len_anyP W4 HQ4.out
        rw [List.length_map] at LN
        by_cases h0 : quS C.js M.dn (C.o.take k) τ = []
        · rw [h0] at LN
          have LN := Lib.hid LN
          have HZ0 := Lib.hid h0
          clear h0
          obtain ⟨X, c, hH, hcm⟩ := HE1.out.hp
          simp only at hH hcm
          have bel4 : Below C.w0.heap.size C.w0 W4.drew := (BEL2.out.trans (HB24.out.mono (by rw [← HNB.out]; exact BEL2.out.size))).trans ((below_drew W4).mono (BEL2.out.trans (HB24.out.mono (by rw [← HNB.out]; exact BEL2.out.size))).size)
          have kt4 : KT [TX] W1 W4.drew := KX.out.trans (KT.of (by rw [HNB.out]; exact HB24.out.trans ((below_drew W4).mono (by have := HB24.out.size; have := HNB.out; omega))))
          have hH4 := hH.kt kt4 (by decide) HE1.out.bel bel4 hC.lb HE1.out.bl
          have hol := hC.ord.len
          rw [List.length_map] at hol
          have PU := Lib.hid (hpushI (x := (τ : Int)) hH4 ⟨τ, rfl, by rw [hC.ps, List.length_map]; exact hτl⟩ (by omega))
          have HH4 := Lib.hid hH4
          have KT4 := Lib.hid kt4
          have BEL4 := Lib.hid bel4
          have HCM2 := Lib.hid hcm
          clear hH hH4 kt4 bel4 hcm hol
          go_upto_region 6 with (go_at_call 65; (with_reducible refine LN.out.mono ?_); rintro e w1 ⟨rfl, rfl⟩)
          go_region_with (
            go_at_call 64; (with_reducible refine PU.out.mono ?_); rintro e W5 ⟨rfl, X', hH5, hK5, hX5⟩;
            have k23 : KT [THe, TTh] W4.drew W5 := KT.kept hK5 HH4.out.tys;
            obtain ⟨csj, hcsj⟩ := HJB.out;
            have z3'' := (k23.cell (b := nb) (i := 3) (v := .int .i64 0) hcsj (by decide)).trans z3';
            have z4'' := (k23.cell (b := nb) (i := 4) (v := .int .i64 0) hcsj (by decide)).trans z4';
            have hQV := (HQ4.out.kt (KT.of (S := []) (below_drew W4)) (by simp)).kt k23 (by decide);
            have bV : Below C.w0.heap.size C.w0 W5 := BEL4.out.trans (hK5.below BEL4.out.size (fun j hj => Nat.le_trans hC.Bh (HH4.out.ge j hj).1));
            have hbd : Below W2.heap.size W2 W4.drew := (by rw [HNB.out]; exact HB24.out.trans ((below_drew W4).mono (by have := HB24.out.size; have := HNB.out; omega)));
            have hHV : ∃ X c, HsI C.K C.Bh W5 C.hb X c (LS C { M with m := k, L := L } τ) ∧ c ≤ k + 1 := ⟨X', c + 1, (by unfold LS; rw [if_pos HZ0.out]; exact hH5), (by have := HCM2.out; omega)⟩;
            have hb6 : Below W5.heap.size W5 (W5.alloc (.cells #[.int .i64 (p : Int), .int .i64 (jb C.js p).k, .slice A (jb C.js p).c.length cc] TRe)) := (Below.refl _ _).alloc (Nat.le_refl _) _;
            have hQ6 := hQV.kt (KT.of (S := []) hb6) (by simp);
            have PP := Lib.hid (qpushP W5.heap.size _ hQ6 hN);
            have HQ6 := Lib.hid hQ6;
            have HHV := Lib.hid hHV;
            have BV := Lib.hid bV;
            have K23 := Lib.hid k23;
            have HBD := Lib.hid hbd;
            clear z0' z3' z4' y2' hcsj hH5 hK5 hX5 hQV hQ6 hb6 hHV bV k23 hbd)
          all_goals
            go_wp2_with (go_at_call 66; (with_reducible refine PP.out.mono ?_); rintro e W7 ⟨rfl, v', f', hQ7, hK7, hF7, hX7⟩)
            have hkp : kO M.dn p < (jb C.js p).k := by rw [HZ.out p (hmd p (by rw [HD.out]; simp))]; have := hC.lg.k1 p hpl; omega
            have hNr : roomUp N ((quS C.js M.dn (C.o.take k) τ).map rb).length ≤ 2004 := by
              have h1 := quS_len (js := C.js) (dn := M.dn) (l := C.o.take k) (τ := τ)
              have h2 : (C.o.take k).length ≤ C.o.length := by rw [List.length_take]; exact Nat.min_le_right _ _
              have h3 := hC.ord.len
              rw [List.length_map] at h3
              rw [List.length_map]
              unfold roomUp
              split
              · omega
              · exact hN
            have fin := HE1.out.rel (v' := v') (A := A) (cc := cc) hC HD.out HT.out hτl hkp (lfN_zero hC (HZ.out p (hmd p (by rw [HD.out]; simp)))) HF.out.s (fun _ => ⟨_, HW2.out.symm, HCM.out⟩) HBD.out K23.out BV.out HHV.out rfl HQ6.out hQ7 hNr hK7 hF7 hX7
            obtain ⟨vc2, rb2, rv2, hE2⟩ := fin
            have hd2 := hI.out.hd.rel (M := { M with m := k, L := L }) hC HD.out HT.out hkp hτl
            have hlo2 : ∀ q ∈ C.o.take (k + 1), (jb C.js q).r ≤ M.now := by
              have hpo : C.o[k]? = some p := by rw [← List.head?_drop, HD.out]; rfl
              rw [take_one hpo]
              intro q hq
              rcases List.mem_append.1 hq with hq | hq
              · exact hI.out.lo q hq
              · rw [List.mem_singleton.1 hq]; exact hr
            have hk1 : k + 1 ≤ C.o.length := by
              have := congrArg List.length HD.out
              rw [List.length_drop] at this
              simp at this; omega
            have FIN := Lib.hid (show RlI C M (k + 1) (LS C { M with m := k, L := L } τ) W7 from ⟨⟨vc2, vs, ve, rb2, rv2, hE2⟩, hd2, hk1, by have := hI.out.ge; omega, hlo2⟩)
            clear hE2 hd2 hlo2 hQ7 hK7 hF7 hX7
            go_roundg (gk - 1)
            case measure => omega
            case rel => exact ⟨k + 1, _, by omega, hk1, FIN⟩
        · have hne : ((((quS C.js M.dn (C.o.take k) τ).length : Nat) : Int) == 0) = false := by
            rw [beq_eq_false_iff_ne]
            intro hh
            exact h0 (List.eq_nil_of_length_eq_zero (by omega))
          have LN := Lib.hid LN
          have HZ0 := Lib.hid h0
          clear h0
          go_upto_region 7 with (go_at_call 65; (with_reducible refine LN.out.mono ?_); rintro e w1 ⟨rfl, rfl⟩)
          have k23 : KT [THe, TTh] W4 W4 := KT.refl _ _
          have hQV := HQ4.out
          have hbd : Below W2.heap.size W2 W4 := by rw [HNB.out]; exact HB24.out
          have bV : Below C.w0.heap.size C.w0 W4 := BEL2.out.trans (HB24.out.mono (by rw [← HNB.out]; exact BEL2.out.size))
          obtain ⟨X, c, hH, hcm⟩ := HE1.out.hp
          simp only at hH hcm
          have hHV : ∃ X c, HsI C.K C.Bh W4 C.hb X c (LS C { M with m := k, L := L } τ) ∧ c ≤ k + 1 := ⟨X, c, by unfold LS; rw [if_neg HZ0.out]; exact hH.kt (KX.out.trans (KT.of (by rw [HNB.out]; exact HB24.out))) (by decide) HE1.out.bel bV hC.lb HE1.out.bl, by omega⟩
          clear hH hcm
          have hb6 : Below W4.heap.size W4 (W4.alloc (.cells #[.int .i64 (p : Int), .int .i64 (jb C.js p).k, .slice A (jb C.js p).c.length cc] TRe)) := (Below.refl _ _).alloc (Nat.le_refl _) _
          have hQ6 := hQV.kt (KT.of (S := []) hb6) (by simp)
          have PP := Lib.hid (qpushP W4.heap.size _ hQ6 hN)
          have HQ6 := Lib.hid hQ6
          have HHV := Lib.hid hHV
          have BV := Lib.hid bV
          have K23 := Lib.hid k23
          have HBD := Lib.hid hbd
          clear hQV hQ6 hb6 hHV bV k23 hbd
          go_wp2_with (go_at_call 66; (with_reducible refine PP.out.mono ?_); rintro e W7 ⟨rfl, v', f', hQ7, hK7, hF7, hX7⟩)
          have hkp : kO M.dn p < (jb C.js p).k := by rw [HZ.out p (hmd p (by rw [HD.out]; simp))]; have := hC.lg.k1 p hpl; omega
          have hNr : roomUp N ((quS C.js M.dn (C.o.take k) τ).map rb).length ≤ 2004 := by
            have h1 := quS_len (js := C.js) (dn := M.dn) (l := C.o.take k) (τ := τ)
            have h2 : (C.o.take k).length ≤ C.o.length := by rw [List.length_take]; exact Nat.min_le_right _ _
            have h3 := hC.ord.len
            rw [List.length_map] at h3
            rw [List.length_map]
            unfold roomUp
            split
            · omega
            · exact hN
          have fin := HE1.out.rel (v' := v') (A := A) (cc := cc) hC HD.out HT.out hτl hkp (lfN_zero hC (HZ.out p (hmd p (by rw [HD.out]; simp)))) HF.out.s (fun _ => ⟨_, HW2.out.symm, HCM.out⟩) HBD.out K23.out BV.out HHV.out rfl HQ6.out hQ7 hNr hK7 hF7 hX7
          obtain ⟨vc2, rb2, rv2, hE2⟩ := fin
          have hd2 := hI.out.hd.rel (M := { M with m := k, L := L }) hC HD.out HT.out hkp hτl
          have hlo2 : ∀ q ∈ C.o.take (k + 1), (jb C.js q).r ≤ M.now := by
            have hpo : C.o[k]? = some p := by rw [← List.head?_drop, HD.out]; rfl
            rw [take_one hpo]
            intro q hq
            rcases List.mem_append.1 hq with hq | hq
            · exact hI.out.lo q hq
            · rw [List.mem_singleton.1 hq]; exact hr
          have hk1 : k + 1 ≤ C.o.length := by
            have := congrArg List.length HD.out
            rw [List.length_drop] at this
            simp at this; omega
          have FIN := Lib.hid (show RlI C M (k + 1) (LS C { M with m := k, L := L } τ) W7 from ⟨⟨vc2, vs, ve, rb2, rv2, hE2⟩, hd2, hk1, by have := hI.out.ge; omega, hlo2⟩)
          clear hE2 hd2 hlo2 hQ7 hK7 hF7 hX7
          go_roundg (gk - 1)
          case measure => omega
          case rel => exact ⟨k + 1, _, by omega, hk1, FIN⟩
      · have hq : (decide ((jb C.js p).r - M.now ≤ 0)) = false := decide_eq_false (by omega)
        have hrl := rel_done hC hkl hI.out.lo (fun p' r' e => by rw [hd] at e; injection e with e1 e2; subst e1; omega)
        have HR := Lib.hid hrl
        have Q := Lib.hid Q
        rw [hd, ln] at c1
        clear hE hc hl hg hd hrl hr hrel
        go_wp2_with (go_at_call 45; (with_reducible refine Q.out.mono ?_); rintro e w1 ⟨rfl, nq, rfl⟩)
        go_end0
        refine ⟨rfl, k, L, ⟨⟨_, vs, ve, rb, rv, HE.out.later hC (below_drewN2 wr nq)⟩, hI.out.hd, hI.out.le, hI.out.ge, hI.out.lo⟩, HR.out⟩
end Go.Proofs.YtnhddnldebdmbaaGreatDoor
/- A span more, or a longer one. -/
namespace Go.Proofs.YtnhddnldebdmbaaGreatDoor
open Go.RowKit
set_option linter.unusedVariables false
set_option linter.unusedSimpArgs false
attribute [local go_sem ↓] Go.wp_at_zero Go.wp_at_succ
theorem step_appS {ops : Array Oper} {o : Oper} {a : Act} {w : World} {K : Act → World → Prop} {Q : Exit → Act → World → Prop} {E : Prop}
    (hg : o.guard = none) (s x : Operand) (hop : o.op = Op.call { callee := Callee.builtin Builtin.append, args := #[s, x], argTypes := #[30, 30] })
    (base : Nat) (v : Value) (n : Nat) (xs : List Value) (hs : a.eval s = v) (hown : w.ownsRow base TSp 3 v n xs)
    (ad : Addr) (news : List Value) (hx : a.eval x = .slice (some ad) 1 1) (hn : news.length = 3) (hc : ∀ j u, news[j]? = some u → w.cell? (ad.add j) = some u) (h1c : ∀ u ∈ news, u.oneCell' = true)
    (b1 : n ≤ 1000000001) (hbase : base ≤ w.heap.size)
    (hK : ∀ v' w', w'.ownsRow base TSp 3 v' (n + 1) (xs ++ news) → w.grownBy w' v.ownBlock → K (a.put o.dst v') w') :
    if Region.wanted o (yielded ops a.tmps) = true then Oper.wp Tryz.prog o a w K Q else E := by
  have hw : Region.wanted o (yielded ops a.tmps) = true := by simp [Region.wanted, hg]
  rw [if_pos hw]
  obtain ⟨i0, hi, hz0, hz1, hz2⟩ := info_parts infoSp
  obtain ⟨v', w', hrun, r1, r2, _⟩ := run_append_own (P := Tryz.prog) w base 30 o.type TSp i0 _ 3 24 Tryz.underlying30 hi hz0 hz1 hz2 rfl (by omega) v n xs hown ad 1 1 news (by omega) hc h1c (by unfold maxLen; omega) (by omega) hbase
  unfold Oper.wp
  simp [execOp, hop, resolve, invoke, builtin, hs, hx, hrun, Result.andThen]
  exact hK v' w' r1 r2
section
variable {C : Cfg} {w w' : World} {M : Mv} {vc vs ve : Value} {rb : Nat → Nat} {rv : Nat → Value} {lf : Nat → Int × List Int}
def ExT (C : Cfg) (M : Mv) (vc ve : Value) (rb : Nat → Nat) (rv : Nat → Value) (lf : Nat → Int × List Int) (e : Ending) (w' : World) : Prop := e = .returned (.tuple #[]) ∧ ∃ vs, Ex C w' M vc vs ve rb rv lf
/-- Where only spans turn. -/
theorem Ex.span (h : Ex C w M vc vs ve rb rv lf) (hC : Cok C) (k : KT [TX, TSp] w w') (b' : Below C.w0.heap.size C.w0 w') {vs' : Value} {sp' : List Spn}
    (hbox : w'.heap[C.bx]? = some (.cells #[.slice C.R C.js.length C.rc, vc, .pointer (some ⟨C.hb, 0, none⟩), .slice (some ⟨C.gq, 0, none⟩) C.ts.length C.ts.length, .int .i64 M.now, vs', ve] TX (0, 0)))
    (hs : w'.ownsRow C.w0.heap.size TSp 3 vs' sp'.length (spC sp')) : Ex C w' { M with sp := sp' } vc vs' ve rb rv lf := by
  refine ⟨b', hbox, h.com.kt k (by decide), hs, k.row h.ens (by decide), ?_, ?_, fun τ hτ => ?_, h.qd, fun p hp hk => (h.rs p hp hk).kt k (by decide), h.rd⟩
  · obtain ⟨X, c, h1, h2⟩ := h.hp
    exact ⟨X, c, h1.kt k (by decide) h.bel b' hC.lb h.bl, h2⟩
  · obtain ⟨cs, hc⟩ := h.bl
    exact ⟨cs, k.blk _ _ _ hc (by decide)⟩
  · obtain ⟨N, f, h1, h2⟩ := h.qs τ hτ
    exact ⟨N, f, h1.kt k (by decide), h2⟩
/-- The last span grows. -/
theorem Ex.grow {l : List Spn} {x : Spn} {g cap : Nat} (h : Ex C w M vc (.slice (some ⟨g, 0, none⟩) (l.length + 1) cap) ve rb rv lf) (hC : Cok C) (hsp : M.sp = l ++ [x]) (t : Int) :
    Ex C (w.setCell ⟨g, l.length * 3 + 2, none⟩ (.int .i64 t)) { M with sp := l ++ [⟨x.j, x.f, t⟩] } vc (.slice (some ⟨g, 0, none⟩) (l.length + 1) cap) ve rb rv lf := by
  have hs := h.spn
  rw [hsp] at hs
  obtain ⟨cs, hcs⟩ := own_ty hs (g := g) rfl
  have hne : C.bx ≠ g := fun e => by
    have := h.box
    rw [e, hcs] at this
    simp only [Option.some.injEq, Obj.cells.injEq] at this
    exact absurd this.2.1 (by decide)
  have hg := (hs.lt g rfl).1
  refine h.span hC (KT.set hcs (by simp)) (below_set h.bel hg h.bel.size) ?_ ?_
  · rw [Below.heap_setCell _ _ _ _ (by simpa using hne)]; exact h.box
  · have h2 : (l ++ [x]).length = l.length + 1 := by simp
    have h3 := own_set hs (g := g) rfl (i := l.length * 3 + 2) (by rw [h2]; omega) (.int .i64 t)
    rw [sp_set] at h3
    simpa using h3
/-- A new span. -/
theorem Ex.more {vs2 : Value} {w1 w2 : World} {x : Spn} (h : Ex C w M vc vs ve rb rv lf) (hC : Cok C) (hB : Below w.heap.size w w1) (hown : w2.ownsRow C.w0.heap.size TSp 3 vs2 (M.sp.length + 1) (spC M.sp ++ snL x)) (hg : w1.grownBy w2 vs.ownBlock) :
    (w2.cell? ⟨C.bx, 4, none⟩ = some (.int .i64 M.now) ∧ w2.cell? ⟨C.bx, 5, none⟩ = some vs ∧ ∀ i, w2.frozen? ⟨C.bx, i, none⟩ = false) ∧
    Ex C (w2.setCell ⟨C.bx, 5, none⟩ vs2) { M with sp := M.sp ++ [x] } vc vs2 ve rb rv lf := by
  have h1 := h.later hC hB
  have hsp := h1.spn
  have hk : Kept vs.ownBlock.toList w1 w2 := kept_grown hg (fun k hk => by simp [hk])
  have kt : KT [TX, TSp] w1 w2 := KT.kept hk (fun k hm => by
    obtain ⟨cs, hc⟩ := own_ty hsp (g := k) (by simpa using hm)
    exact ⟨cs, _, hc, by simp⟩)
  have hbox2 : w2.heap[C.bx]? = some (.cells #[.slice C.R C.js.length C.rc, vc, .pointer (some ⟨C.hb, 0, none⟩), .slice (some ⟨C.gq, 0, none⟩) C.ts.length C.ts.length, .int .i64 M.now, vs, ve] TX (0, 0)) := by
    refine (hk.block C.bx (Array.getElem?_eq_some_iff.1 h1.box).1 (fun hm => ?_)).trans h1.box
    exact own_ne hsp h1.box (by decide) (by simpa using hm)
  have kt2 : KT [TX, TSp] w1 (w2.setCell ⟨C.bx, 5, none⟩ vs2) := kt.trans (KT.set hbox2 (by simp))
  have b2 : Below C.w0.heap.size C.w0 w2 := h1.bel.trans (hk.below h1.bel.size (fun k hm => (hsp.lt k (by simpa using hm)).1))
  refine ⟨⟨cell_of_row w2 C.bx 4 _ _ _ hbox2, cell_of_row w2 C.bx 5 _ _ _ hbox2, fun i => by simp [World.frozen?, hbox2]⟩, h1.span hC kt2 (below_set b2 hC.bx b2.size) (heap_setCell_same _ _ 5 _ _ _ hbox2) ?_⟩
  have hne : ∀ g, vs2.ownBlock = some g → g ∉ [C.bx] := fun g hg2 => by
    rw [List.mem_singleton]
    intro e
    subst e
    exact own_ne hown hbox2 (by decide) hg2
  have := ((Kept.refl [C.bx] w2).set C.bx 5 vs2 (by simp)).row hown hne
  rw [List.length_append, spC_app]
  exact this
set_option maxRecDepth 100000 in
set_option maxHeartbeats 8000000 in
theorem tell_grow {i : Nat} {l : List Spn} {x : Spn} {n : Int} (hC : Cok C) (h : Ex C w M vc vs ve rb rv lf) (hsp : M.sp = l ++ [x]) (hx : x.j = i) (hb : l.length ≤ 1000000000) (hi : i ≤ 1000000) (ht : 0 ≤ x.t) (hn : 0 ≤ n) (hs : x.t + n ≤ 9223372036854775807) :
    Calls Tryz.prog 69 #[.pointer (some ⟨C.bx, 0, none⟩), .int .i64 (i : Int), .int .i64 n] w (ExT C { M with sp := l ++ [⟨i, x.f, x.t + n⟩] } vc ve rb rv lf) := by
  subst hx
  have hown := h.spn
  have hlen : M.sp.length = l.length + 1 := by rw [hsp]; simp
  obtain ⟨g, cap, rfl, hBg, hgl, hle, hmx, hfz⟩ := own_form hown (by omega)
  rw [hlen] at h hown hle
  have hu : ∀ j u, (snL x)[j]? = some u → w.cell? ⟨g, l.length * 3 + j, none⟩ = some u := fun j u hj => own_cell hown rfl (by
    rw [hsp, spC_app, List.getElem?_append_right (by rw [spC_len]; omega), spC_len]
    rw [show l.length * 3 + j - l.length * 3 = j by omega]; exact hj)
  have u0 := hu 0 _ rfl
  have u2 := hu 2 _ rfl
  have c5 := h.c5
  have f2 := hfz (l.length * 3 + 2)
  have G := Lib.hid (h.grow hC hsp (x.t + n))
  have hw2 : wrap64 (x.t + n) = x.t + n := wrap64_in (by omega)
  have i0 : (0 : Int) ≤ (l.length : Int) := by omega
  have i1 : (l.length : Int) < ((l.length + 1 : Nat) : Int) := by omega
  have i2 : ((l.length + 1 : Nat) : Int) - 1 = (l.length : Int) := by omega
  unfold maxLen at hmx
  rw [Nat.add_zero] at u0
  generalize l.length = m at *
  clear h hown hu hfz hlen hsp
  go_enter Tryz.func69, Tryz.ntmps69
  go_wp2
  refine bodyPost_ret (results_none rfl _ _ _) rfl ?_
  exact ⟨rfl, _, G.out⟩
set_option maxRecDepth 100000 in
set_option maxHeartbeats 8000000 in
theorem tell_first {i : Nat} {n : Int} (hC : Cok C) (h : Ex C w M vc vs ve rb rv lf) (hsp : M.sp = []) (hi : i ≤ 1000000) (ht : 0 ≤ M.now) (hn : 0 ≤ n) (hs : M.now + n ≤ 9223372036854775807) :
    Calls Tryz.prog 69 #[.pointer (some ⟨C.bx, 0, none⟩), .int .i64 (i : Int), .int .i64 n] w (ExT C { M with sp := [⟨i, M.now, M.now + n⟩] } vc ve rb rv lf) := by
  have hown := h.spn
  have hlen : M.sp.length = 0 := by rw [hsp]; rfl
  obtain ⟨A, cap, rfl, hle, hmx⟩ := own_len hown
  rw [hlen] at h hown
  have c4 := h.c4
  have c5 := h.c5
  have hbel := h.bel.size
  have hw2 : wrap64 (M.now + n) = M.now + n := wrap64_in (by omega)
  unfold maxLen at hmx
  have hbl : C.bx < w.heap.size := World.block_lt_of_cell? w _ c4
  have H := Lib.hid h
  have HS := Lib.hid hsp
  clear h hsp hlen
  go_enter Tryz.func69, Tryz.ntmps69
  go_upto_region 2 with (fail)
  have O1 := Lib.hid (H.out.later hC ((below_drew w).trans ((Below.refl _ w.drew).alloc (Nat.le_refl _) (.cells #[.int .i64 (i : Int), .int .i64 M.now, .int .i64 M.now] TSp))))
  have BW := Lib.hid ((below_drew w).trans ((Below.refl _ w.drew).alloc (Nat.le_refl _) (.cells #[.int .i64 (i : Int), .int .i64 M.now, .int .i64 M.now] TSp)))
  go_region_law (first
    | (refine step_appS rfl _ _ rfl C.w0.heap.size (.slice A 0 cap) 0 (spC M.sp) rfl (by have := O1.out.spn; rw [HS.out] at this ⊢; exact this) ⟨w.heap.size, 0, none⟩ (snL ⟨i, M.now, M.now⟩) rfl rfl (sp_new w.drew ⟨i, M.now, M.now⟩) (sp_one ⟨i, M.now, M.now⟩) (by omega) (Nat.le_trans hbel (by simp)) ?_
       intro v2 w2 hown2 hg2
       have MO := H.out.more (x := ⟨i, M.now, M.now⟩) hC BW.out (by rw [HS.out] at hown2 ⊢; exact hown2) hg2
       obtain ⟨g2, cap2, rfl, -, hgl2, hle2, hmx2, -⟩ := own_form hown2 (by omega)
       obtain ⟨⟨d4, d5, fz⟩, MO⟩ := MO
       have f5 := fz 5))
  all_goals
    obtain ⟨W, hW⟩ : ∃ W, w2.setCell ⟨C.bx, 5, none⟩ (.slice (some ⟨g2, 0, none⟩) (0 + 1) cap2) = W := ⟨_, rfl⟩
    rw [hW] at MO
    rw [hW]
    clear hW f5 fz d4 d5 hown2 hg2
    have m5 := MO.c5
    have hsn := MO.spn
    have u2 : W.cell? ⟨g2, 2, none⟩ = some (.int .i64 M.now) := own_cell hsn rfl (by rw [HS.out] <;> rfl)
    have f2 : W.frozen? ⟨g2, 2, none⟩ = false := by
      obtain ⟨cs, hcs⟩ := own_ty hsn (g := g2) rfl
      simp [World.frozen?, hcs]
    have G := Lib.hid (show Ex C (W.setCell ⟨g2, 2, none⟩ (.int .i64 (M.now + n))) { M with sp := [⟨i, M.now, M.now + n⟩] } vc (.slice (some ⟨g2, 0, none⟩) 1 cap2) ve rb rv lf from
      MO.grow (l := []) (x := ⟨i, M.now, M.now⟩) hC (by rw [HS.out] <;> rfl) (M.now + n))
    clear MO hsn
    go_wp2
    refine bodyPost_ret (results_none rfl _ _ _) rfl ?_
    exact ⟨rfl, _, G.out⟩
set_option maxRecDepth 100000 in
set_option maxHeartbeats 8000000 in
theorem tell_other {i : Nat} {n : Int} {l : List Spn} {x : Spn} (hC : Cok C) (h : Ex C w M vc vs ve rb rv lf) (hsp : M.sp = l ++ [x]) (hx : x.j ≠ i) (hb : l.length ≤ 1000000000) (hi : i ≤ 1000000) (ht : 0 ≤ M.now) (hn : 0 ≤ n) (hs : M.now + n ≤ 9223372036854775807) :
    Calls Tryz.prog 69 #[.pointer (some ⟨C.bx, 0, none⟩), .int .i64 (i : Int), .int .i64 n] w (ExT C { M with sp := M.sp ++ [⟨i, M.now, M.now + n⟩] } vc ve rb rv lf) := by
  have hown := h.spn
  obtain ⟨m, hm⟩ : ∃ m, l.length = m := ⟨_, rfl⟩
  obtain ⟨q, hq⟩ : ∃ q, m + 1 = q := ⟨_, rfl⟩
  have hlen : M.sp.length = q := by rw [hsp, ← hq, ← hm]; simp
  obtain ⟨g, cap, rfl, hBg, hgl, hle, hmx, hfz⟩ := own_form hown (by omega)
  rw [hlen] at h hown hle
  have u0 : w.cell? ⟨g, m * 3, none⟩ = some (.int .i64 (x.j : Int)) := by
    have := own_cell hown (g := g) rfl (i := m * 3) (u := .int .i64 (x.j : Int)) (by
      rw [hsp, spC_app, List.getElem?_append_right (by rw [spC_len, hm]; exact Nat.le_refl _), spC_len, hm, Nat.sub_self]; rfl)
    exact this
  have hne1 : ¬ ((x.j : Int) = (i : Int)) := by omega
  have hne2 : ((x.j : Int) != (i : Int)) = true := by rw [bne_iff_ne]; exact hne1
  have hnt : (decide ((m : Int) < 0) || ((x.j : Int) != (i : Int))) = true := by rw [hne2, Bool.or_true]
  have i0 : (0 : Int) ≤ (m : Int) := by omega
  have i1 : (m : Int) < (q : Int) := by omega
  have i2 : (q : Int) - 1 = (m : Int) := by omega
  have i3 : (m : Int) + 1 = (q : Int) := by omega
  have i4 : (q : Int) < ((q + 1 : Nat) : Int) := by omega
  have i5 : (0 : Int) ≤ (q : Int) := by omega
  have hm6 : m ≤ 1000000000 := by omega
  have hq6 : q ≤ 1000000001 := by omega
  have c4 := h.c4
  have c5 := h.c5
  have hbel := h.bel.size
  have hw2 : wrap64 (M.now + n) = M.now + n := wrap64_in (by omega)
  unfold maxLen at hmx
  have hbl : C.bx < w.heap.size := World.block_lt_of_cell? w _ c4
  have H := Lib.hid h
  have HS := Lib.hid hlen
  have HF := Lib.hid hfz
  clear h hsp hlen hb hm hx hfz hq
  go_enter Tryz.func69, Tryz.ntmps69
  go_upto_region 2 with (fail)
  have O1 := Lib.hid (H.out.later hC ((below_drew w).trans ((Below.refl _ w.drew).alloc (Nat.le_refl _) (.cells #[.int .i64 (i : Int), .int .i64 M.now, .int .i64 M.now] TSp))))
  have BW := Lib.hid ((below_drew w).trans ((Below.refl _ w.drew).alloc (Nat.le_refl _) (.cells #[.int .i64 (i : Int), .int .i64 M.now, .int .i64 M.now] TSp)))
  go_region_law (first
    | (refine step_appS rfl _ _ rfl C.w0.heap.size (.slice (some ⟨g, 0, none⟩) q cap) q (spC M.sp) rfl (by have := O1.out.spn; rw [HS.out] at this; exact this) ⟨w.heap.size, 0, none⟩ (snL ⟨i, M.now, M.now⟩) rfl rfl (sp_new w.drew ⟨i, M.now, M.now⟩) (sp_one ⟨i, M.now, M.now⟩) (by omega) (Nat.le_trans hbel (by simp)) ?_
       intro v2 w2 hown2 hg2
       have MO := H.out.more (x := ⟨i, M.now, M.now⟩) hC BW.out (by rw [HS.out]; exact hown2) hg2
       obtain ⟨g2, cap2, rfl, -, hgl2, hle2, hmx2, -⟩ := own_form hown2 (by omega)
       obtain ⟨⟨d4, d5, fz⟩, MO⟩ := MO
       have f5 := fz 5))
  all_goals
    obtain ⟨W, hW⟩ : ∃ W, w2.setCell ⟨C.bx, 5, none⟩ (.slice (some ⟨g2, 0, none⟩) (q + 1) cap2) = W := ⟨_, rfl⟩
    rw [hW] at MO
    rw [hW]
    clear hW f5 fz d4 d5 hown2 hg2
    have m5 := MO.c5
    have hsn := MO.spn
    have u2 : W.cell? ⟨g2, q * 3 + 2, none⟩ = some (.int .i64 M.now) := own_cell hsn rfl (by rw [spC_app, List.getElem?_append_right (by rw [spC_len, HS.out]; omega), spC_len, HS.out, show q * 3 + 2 - q * 3 = 2 by omega]; rfl)
    have f2 : W.frozen? ⟨g2, q * 3 + 2, none⟩ = false := by
      obtain ⟨cs, hcs⟩ := own_ty hsn (g := g2) rfl
      simp [World.frozen?, hcs]
    have G := Lib.hid (show Ex C (W.setCell ⟨g2, q * 3 + 2, none⟩ (.int .i64 (M.now + n))) { M with sp := M.sp ++ [⟨i, M.now, M.now + n⟩] } vc (.slice (some ⟨g2, 0, none⟩) (q + 1) cap2) ve rb rv lf from
by
        have := Ex.grow (l := M.sp) (x := ⟨i, M.now, M.now⟩) (cap := cap2) (g := g2) (by rw [HS.out]; exact MO) hC rfl (M.now + n)
        rw [HS.out] at this
        exact this)
    clear MO hsn
    go_wp2
    refine bodyPost_ret (results_none rfl _ _ _) rfl ?_
    exact ⟨rfl, _, G.out⟩
theorem tell_any {i : Nat} {n : Int} (hC : Cok C) (h : Ex C w M vc vs ve rb rv lf) (hl : ∀ x, M.sp.getLast? = some x → x.j = i → x.t = M.now) (hb : M.sp.length ≤ 1000000000) (hi : i ≤ 1000000) (ht : 0 ≤ M.now) (hn : 0 ≤ n) (hs : M.now + n ≤ 9223372036854775807) :
    Calls Tryz.prog 69 #[.pointer (some ⟨C.bx, 0, none⟩), .int .i64 (i : Int), .int .i64 n] w (ExT C { M with sp := addN M.sp i M.now n } vc ve rb rv lf) := by
  rcases List.eq_nil_or_concat M.sp with h0 | ⟨l, x, h0⟩
  · have := tell_first hC h h0 hi ht hn hs
    unfold addN
    rw [h0]
    exact this
  · rw [List.concat_eq_append] at h0
    have hlen : l.length + 1 = M.sp.length := by rw [h0]; simp
    by_cases hx : x.j = i
    · have ht2 := hl x (by rw [h0]; simp) hx
      have := tell_grow hC h h0 hx (by omega) hi (by omega) hn (by omega)
      unfold addN
      rw [h0, List.getLast?_concat]
      simp only [hx, ht2, and_self, if_true, List.dropLast_concat]
      rw [ht2] at this
      exact this
    · have := tell_other hC h h0 hx (by omega) hi ht hn hs
      unfold addN
      rw [h0, List.getLast?_concat]
      simp only [hx, false_and, if_false]
      rw [h0] at this
      exact this
end
end Go.Proofs.YtnhddnldebdmbaaGreatDoor
/- A job leaves: what stands in memory behind it. -/
namespace Go.Proofs.YtnhddnldebdmbaaGreatDoor
open Go.RowKit
set_option linter.unusedVariables false
set_option linter.unusedSimpArgs false
attribute [local go_sem ↓] Go.wp_at_zero Go.wp_at_succ
section
variable {C : Cfg} {w w' w1 w2 : World} {M : Mv} {vc vs ve : Value} {rb : Nat → Nat} {rv : Nat → Value} {lf : Nat → Int × List Int}
theorem quS_same {js : List Fv} {dn dn' : List Int} {l : List Nat} {τ : Nat} (h : ∀ p ∈ l, (kO dn' p < (jb js p).k ↔ kO dn p < (jb js p).k)) : quS js dn' l τ = quS js dn l τ := by
  unfold quS
  refine List.filter_congr fun p hp => ?_
  congr 1
  exact decide_eq_decide.2 (h p hp)
theorem Ex.dn {dn' : List Int} (h : Ex C w M vc vs ve rb rv lf) (hq : ∀ p ∈ C.o.take M.m, (kO dn' p < (jb C.js p).k ↔ kO M.dn p < (jb C.js p).k)) : Ex C w { M with dn := dn' } vc vs ve rb rv lf :=
  ⟨h.bel, h.box, h.com, h.spn, h.ens, h.hp, h.bl, fun τ hτ => by
    obtain ⟨N, f, h1, h2⟩ := h.qs τ hτ
    exact ⟨N, f, by rw [quS_same hq]; exact h1, h2⟩, h.qd, fun p hp hk => h.rs p hp ((hq p hp).1 hk), fun p q hp hk hq' hk' hne => h.rd p q hp ((hq p hp).1 hk) hq' ((hq q hq').1 hk') hne⟩
theorem Hd.dn {dn' : List Int} {L : List Int} (h : Hd C.ts C.js M.dn (C.o.take M.m) L) (hq : ∀ p ∈ C.o.take M.m, (kO dn' p < (jb C.js p).k ↔ kO M.dn p < (jb C.js p).k)) : Hd C.ts C.js dn' (C.o.take M.m) L :=
  ⟨h.srt, fun τ => by rw [quS_same hq]; exact h.mem τ, h.nat⟩
theorem Ex.lfs {lf' : Nat → Int × List Int} (h : Ex C w M vc vs ve rb rv lf) (hq : ∀ p ∈ C.o.take M.m, kO M.dn p < (jb C.js p).k → lf' p = lf p) : Ex C w M vc vs ve rb rv lf' :=
  ⟨h.bel, h.box, h.com, h.spn, h.ens, h.hp, h.bl, h.qs, h.qd, fun p hp hk => by rw [hq p hp hk]; exact h.rs p hp hk, h.rd⟩
/-- What is left of one job is told anew. -/
theorem Ex.rest {i : Nat} {k : Int} {c : List Int} (h : Ex C w M vc vs ve rb rv lf) (hC : Cok C) (hi : i ∈ C.o.take M.m) (hk : kO M.dn i < (jb C.js i).k) (hK : Kept [rb i] w w') (hr : Rst C.w0 w' (rb i) i k c) : Ex C w' M vc vs ve rb rv (fun q => if q = i then (k, c) else lf q) := by
  have hR := h.rs i hi hk
  obtain ⟨A, cc, hA, hcr⟩ := hR.is
  have kt : KT [TRe] w w' := KT.kept hK (fun j hj => by rw [List.mem_singleton.1 hj]; exact ⟨_, _, hA, by simp⟩)
  have b' : Below C.w0.heap.size C.w0 w' := h.bel.trans (hK.below h.bel.size (fun j hj => by rw [List.mem_singleton.1 hj]; exact hR.ge))
  refine ⟨b', kt.blk _ _ _ h.box (by decide), h.com.kt kt (by decide), kt.row h.spn (by decide), kt.row h.ens (by decide), ?_, ?_, fun τ hτ => ?_, h.qd, fun p hp hpk => ?_, h.rd⟩
  · obtain ⟨X, c, h1, h2⟩ := h.hp
    exact ⟨X, c, h1.kt kt (by decide) h.bel b' hC.lb h.bl, h2⟩
  · obtain ⟨cs, hc⟩ := h.bl
    exact ⟨cs, kt.blk _ _ _ hc (by decide)⟩
  · obtain ⟨N, f, h1, h2⟩ := h.qs τ hτ
    exact ⟨N, f, h1.kt kt (by decide), h2⟩
  · by_cases hpi : p = i
    · subst hpi
      simp only [if_true]
      exact hr
    · simp only [if_neg hpi]
      have hP := h.rs p hp hpk
      obtain ⟨A2, cc2, hA2, hcr2⟩ := hP.is
      exact ⟨hP.ge, A2, cc2, (hK.block _ (Array.getElem?_eq_some_iff.1 hA2).1 (by rw [List.mem_singleton]; exact h.rd p i hp hpk hi hk hpi)).trans hA2, hcr2⟩
/-- When a job ended is told. -/
theorem Ex.ends {i : Nat} {g : Nat} (h : Ex C w M vc vs ve rb rv lf) (hC : Cok C) (hg : ve.ownBlock = some g) (hi : i < C.js.length) (t : Int) : Ex C (w.setCell ⟨g, i, none⟩ (.int .i64 t)) { M with en := M.en.set i t } vc vs ve rb rv lf := by
  obtain ⟨cs, hcs⟩ := own_ty h.ens hg
  have hge := (h.ens.lt g hg).1
  have kt : KT [T64] w (w.setCell ⟨g, i, none⟩ (.int .i64 t)) := KT.set hcs (by simp)
  have b' : Below C.w0.heap.size C.w0 (w.setCell ⟨g, i, none⟩ (.int .i64 t)) := below_set h.bel hge h.bel.size
  refine ⟨b', kt.blk _ _ _ h.box (by decide), h.com.kt kt (by decide), kt.row h.spn (by decide), ?_, ?_, ?_, fun τ hτ => ?_, h.qd, fun p hp hpk => (h.rs p hp hpk).kt kt (by decide), h.rd⟩
  · have := own_set h.ens hg (i := i) (by omega) (.int .i64 t)
    have e : numL (M.en.set i t) = (numL M.en).set i (.int .i64 t) := by simp [numL, List.map_set]
    rw [e]; exact this
  · obtain ⟨X, c, h1, h2⟩ := h.hp
    exact ⟨X, c, h1.kt kt (by decide) h.bel b' hC.lb h.bl, h2⟩
  · obtain ⟨cs, hc⟩ := h.bl
    exact ⟨cs, kt.blk _ _ _ hc (by decide)⟩
  · obtain ⟨N, f, h1, h2⟩ := h.qs τ hτ
    exact ⟨N, f, h1.kt kt (by decide), h2⟩
/-- Who is left in the heap. -/
def LV (M : Mv) (rest : List Nat) : List Int := if rest = [] then M.L.tail else M.L
theorem quS_leave {i : Nat} {τ : Nat} {rest : List Nat} (hC : Cok C) (hl : C.js.length = M.dn.length) (hq : quS C.js M.dn (C.o.take M.m) τ = i :: rest) :
    quS C.js (M.dn.set i (jb C.js i).k) (C.o.take M.m) τ = rest ∧ ∀ σ, σ ≠ τ → quS C.js (M.dn.set i (jb C.js i).k) (C.o.take M.m) σ = quS C.js M.dn (C.o.take M.m) σ := by
  have hi : i ∈ quS C.js M.dn (C.o.take M.m) τ := by rw [hq]; simp
  obtain ⟨a1, a2, a3⟩ := quS_mem.1 hi
  have hil : i < C.js.length := hC.rel (List.mem_of_mem_take a1)
  have hnd : (C.o.take M.m).Nodup := hC.ord.nodup.sublist (List.take_sublist _ _)
  have hk : ∀ p, kO (M.dn.set i (jb C.js i).k) p = if p = i then (jb C.js i).k else kO M.dn p := fun p => kO_set p _ (by omega)
  have hf : ∀ σ, quS C.js (M.dn.set i (jb C.js i).k) (C.o.take M.m) σ = (quS C.js M.dn (C.o.take M.m) σ).filter (fun p => decide (p ≠ i)) := by
    intro σ
    unfold quS
    rw [List.filter_filter]
    refine List.filter_congr fun p hp => ?_
    rw [hk]
    by_cases h : p = i
    · subst h; simp
    · simp [h]
  refine ⟨?_, fun σ hσ => ?_⟩
  · rw [hf, hq, List.filter_cons_of_neg (by simp)]
    refine List.filter_eq_self.2 fun p hp => ?_
    have hn2 : (quS C.js M.dn (C.o.take M.m) τ).Nodup := hnd.sublist List.filter_sublist
    rw [hq] at hn2
    have := (List.nodup_cons.1 hn2).1
    simp
    rintro rfl
    exact this hp
  · rw [hf]
    refine List.filter_eq_self.2 fun p hp => ?_
    simp
    rintro rfl
    have := (quS_mem.1 hp).2.1
    omega
theorem Hd.leave {i τ : Nat} {r : List Int} {rest : List Nat} (hC : Cok C) (hl : C.js.length = M.dn.length) (h : Hd C.ts C.js M.dn (C.o.take M.m) M.L) (hL : M.L = (τ : Int) :: r) (hq : quS C.js M.dn (C.o.take M.m) τ = i :: rest) :
    Hd C.ts C.js (M.dn.set i (jb C.js i).k) (C.o.take M.m) (LV M rest) := by
  obtain ⟨h1, h2⟩ := quS_leave hC hl hq
  unfold LV
  by_cases h0 : rest = []
  · rw [if_pos h0, hL]
    have hs := h.srt
    rw [hL] at hs
    have hc := List.pairwise_cons.1 hs
    refine ⟨hc.2, fun σ => ?_, fun x hx => h.nat x (by rw [hL]; simp [show x ∈ r from hx])⟩
    by_cases hσ : σ = τ
    · subst hσ
      rw [h1, h0]
      simp only [List.tail_cons, ne_eq, not_true_eq_false, iff_false]
      intro hm
      have := hc.1 _ hm
      omega
    · rw [h2 σ hσ, ← h.mem σ, hL]
      simp only [List.tail_cons, List.mem_cons]
      constructor
      · exact .inr
      · rintro (hh | hh)
        · omega
        · exact hh
  · rw [if_neg h0]
    refine ⟨h.srt, fun σ => ?_, h.nat⟩
    by_cases hσ : σ = τ
    · subst hσ
      rw [h1, h.mem σ, hq]
      simp [h0]
    · rw [h2 σ hσ]; exact h.mem σ
theorem Ex.leave {i τ N f : Nat} {rest : List Nat} (hC : Cok C) (hl : C.js.length = M.dn.length) (h : Ex C w M vc vs ve rb rv lf) (hτ : τ < C.ts.length) (hq : quS C.js M.dn (C.o.take M.m) τ = i :: rest) (hlen : C.js.length = M.dn.length)
    (hQ0 : FQP C.w0.heap.size w C.gq (τ * 3) (rv τ) N f ((quS C.js M.dn (C.o.take M.m) τ).map rb)) (hN : N ≤ 2004) {f' : Nat} (hQ : FQP C.w0.heap.size w1 C.gq (τ * 3) (rv τ) N f' (rest.map rb)) (hK : Kept (blk C.gq (rv τ)) w w1) (hF : FrQ C.gq (τ * 3) w w1)
    (k12 : KT [THe, TTh] w1 w2) (b2 : Below C.w0.heap.size C.w0 w2) (hH : ∃ X c, HsI C.K C.Bh w2 C.hb X c (LV M rest) ∧ c ≤ M.m) :
    Ex C w2 { M with dn := M.dn.set i (jb C.js i).k, L := LV M rest } vc vs ve rb rv lf := by
  obtain ⟨h1, h2⟩ := quS_leave hC hl hq
  have hi : i ∈ quS C.js M.dn (C.o.take M.m) τ := by rw [hq]; simp
  obtain ⟨a1, a2, a3⟩ := quS_mem.1 hi
  have hil : i < C.js.length := hC.rel (List.mem_of_mem_take a1)
  have k01 : KT [TQu, TRi] w w1 := KT.kept hK hQ0.tys
  have k02 : KT [TQu, TRi, THe, TTh] w w2 := (k01.mono (by simp)).trans (k12.mono (by simp))
  have hsub : ∀ p, kO (M.dn.set i (jb C.js i).k) p < (jb C.js p).k → kO M.dn p < (jb C.js p).k := by
    intro p hp
    rw [kO_set _ _ (by omega)] at hp
    split at hp
    · rename_i e; subst e; omega
    · exact hp
  refine ⟨b2, k02.blk _ _ _ h.box (by decide), h.com.kt k02 (by decide), k02.row h.spn (by decide), k02.row h.ens (by decide), hH, ?_, fun σ hσ => ?_, h.qd, fun p hp hpk => (h.rs p hp (hsub p hpk)).kt k02 (by decide), fun p q hp hpk hq' hqk hne => h.rd p q hp (hsub p hpk) hq' (hsub q hqk) hne⟩
  · obtain ⟨cs, hc⟩ := h.bl
    exact ⟨cs, k02.blk _ _ _ hc (by decide)⟩
  · by_cases hσt : σ = τ
    · subst hσt
      exact ⟨N, f', by rw [h1]; exact hQ.kt k12 (by decide), hN⟩
    · obtain ⟨N', f2, hq1, hq2⟩ := h.qs σ hσ
      exact ⟨N', f2, by rw [h2 σ hσt]; exact (hq1.other hK hF (by omega) hQ.row (fun g hg => h.qd σ τ g hσ hτ hσt hg)).kt k12 (by decide), hq2⟩
set_option maxRecDepth 100000 in
set_option maxHeartbeats 8000000 in
theorem leave_any {i τ : Nat} {r : List Int} {rest : List Nat} (hC : Cok C) (hl : C.js.length = M.dn.length) (h : Ex C w M vc vs ve rb rv lf) (hL : M.L = (τ : Int) :: r) (hτ : τ < C.ts.length) (hq : quS C.js M.dn (C.o.take M.m) τ = i :: rest) :
    Calls Tryz.prog 70 #[.pointer (some ⟨C.bx, 0, none⟩)] w (ExP C { M with dn := M.dn.set i (jb C.js i).k, L := LV M rest } lf) := by
  obtain ⟨X, c, hH, hc⟩ := h.hp
  obtain ⟨N, f, hQ, hN⟩ := h.qs τ hτ
  have hQ1 := hQ
  rw [hq, List.map_cons] at hQ1
  have hH1 := hH
  rw [hL] at hH1
  have PK := Lib.hid (hpeekI hH1)
  have c2 := h.c2
  have c3 := h.c3
  have l2 := World.block_lt_of_cell? w _ c2
  have i0 : (0 : Int) ≤ (τ : Int) := by omega
  have i1 : (τ : Int) < (C.ts.length : Int) := by omega
  have H := Lib.hid h
  have HQ := Lib.hid hQ
  have HQ1 := Lib.hid hQ1
  have HH := Lib.hid hH
  have HH1 := Lib.hid hH1
  have HL := Lib.hid hL
  have Hq := Lib.hid hq
  have HC := Lib.hid hc
  clear h hQ hQ1 hH hH1 hL hq hc
  go_enter Tryz.func70, Tryz.ntmps70
  go_upto_region 1 with (go_at_call 67; (with_reducible refine PK.out.mono ?_); rintro e w1 ⟨rfl, hB1⟩)
  have E1 := Lib.hid (H.out.later hC hB1)
  have Q1 := Lib.hid (HQ.out.kt (KT.of (S := []) hB1) (by simp))
  have Q2 := Lib.hid (HQ1.out.kt (KT.of (S := []) hB1) (by simp))
  have H1 := Lib.hid (HH.out.later hB1)
  have H2 := Lib.hid (HH1.out.later hB1)
  have d2 := (hB1.cell (p := ⟨C.bx, 2, none⟩) l2).trans c2
  have d3 := (hB1.cell (p := ⟨C.bx, 3, none⟩) l2).trans c3
  have PO := Lib.hid (pop_someP w1 Q2.out)
  clear c2 c3 hB1 PK
  go_upto_region 3 with (go_at_call 94; (with_reducible refine PO.out.mono ?_); rintro e w2 ⟨rfl, f', hQ2, hK2, hF2⟩)
  have K2 := Lib.hid hK2
  have F2 := Lib.hid hF2
  have QQ := Lib.hid hQ2
  have kt2 : KT [TQu, TRi] w1 w2 := KT.kept hK2 Q2.out.tys
  have y2 : w2.cell? ⟨C.bx, 2, none⟩ = some (.pointer (some ⟨C.hb, 0, none⟩)) := (kt2.cell (v := .int .i64 0) E1.out.box (by decide)).trans d2
  have b2 : Below C.w0.heap.size C.w0 w2 := E1.out.bel.trans (hK2.below E1.out.bel.size (fun k hk => (Q2.out.blk_ge k hk).1))
  have LN := len_anyP w2 hQ2
  rw [List.length_map] at LN
  have HH2 := Lib.hid (H1.out.kt kt2 (by decide) E1.out.bel b2 hC.lb E1.out.bl)
  have B2 := Lib.hid b2
  clear d2 d3 hK2 hF2 hQ2 kt2 b2 PO
  by_cases h0 : rest = []
  · subst h0
    have LN := Lib.hid LN
    have HH3 := HH2.out
    rw [HL.out] at HH3
    have PP := Lib.hid (hpopI HH3)
    have HH3 := Lib.hid HH3
    go_upto_region 4 with (go_at_call 65; (with_reducible refine LN.out.mono ?_); rintro e w3 ⟨rfl, rfl⟩)
    go_wp2_with (go_at_call 95; (with_reducible refine PP.out.mono ?_); rintro e w3 ⟨rfl, hH3, hK3⟩)
    go_end0
    refine ⟨rfl, vc, vs, ve, rb, rv, E1.out.leave hC hl hτ Hq.out hl Q1.out hN QQ.out K2.out F2.out (KT.kept hK3 HH3.out.tys) (B2.out.trans (hK3.below B2.out.size (fun j hj => Nat.le_trans hC.Bh (HH3.out.ge j hj).1))) ⟨X, c, ?_, HC.out⟩⟩
    unfold LV
    rw [if_pos rfl, HL.out]
    exact hH3
  · have hne : (((rest.length : Nat) : Int) == 0) = false := by
      rw [beq_eq_false_iff_ne]
      intro hh
      exact h0 (List.eq_nil_of_length_eq_zero (by omega))
    have LN := Lib.hid LN
    have Z := Lib.hid h0
    clear h0
    go_wp2_with (go_at_call 65; (with_reducible refine LN.out.mono ?_); rintro e w3 ⟨rfl, rfl⟩)
    go_end0
    refine ⟨rfl, vc, vs, ve, rb, rv, E1.out.leave hC hl hτ Hq.out hl Q1.out hN QQ.out K2.out F2.out (KT.refl _ _) B2.out ⟨X, c, ?_, HC.out⟩⟩
    unfold LV
    rw [if_neg Z.out]
    exact HH2.out
end
end Go.Proofs.YtnhddnldebdmbaaGreatDoor
/- A job works. -/
namespace Go.Proofs.YtnhddnldebdmbaaGreatDoor
open Go.RowKit
set_option linter.unusedVariables false
set_option linter.unusedSimpArgs false
attribute [local go_sem ↓] Go.wp_at_zero Go.wp_at_succ
section
variable {C : Cfg} {w w' w1 w2 : World} {M : Mv} {vc vs ve : Value} {rb : Nat → Nat} {rv : Nat → Value} {lf : Nat → Int × List Int}
/-- What stands behind it, if a job has worked n. -/
def wkM (C : Cfg) (M : Mv) (i : Nat) (n : Int) (rest : List Nat) : Mv :=
  { M with now := M.now + n, sp := addN M.sp i M.now n, dn := M.dn.set i (kO M.dn i + n),
           en := if kO M.dn i + n = (jb C.js i).k then M.en.set i (M.now + n) else M.en,
           L := if kO M.dn i + n = (jb C.js i).k then LV M rest else M.L }
def lfW (lf : Nat → Int × List Int) (i : Nat) (n : Int) : Nat → Int × List Int := fun q => if q = i then ((lf i).1 - n, (lf i).2) else lf q
structure WkH (C : Cfg) (M : Mv) (lf : Nat → Int × List Int) (i τ : Nat) (r : List Int) (rest : List Nat) (n : Int) : Prop where
  ld : C.js.length = M.dn.length
  le : C.js.length = M.en.length
  L : M.L = (τ : Int) :: r
  lt : τ < C.ts.length
  q : quS C.js M.dn (C.o.take M.m) τ = i :: rest
  lf : (lf i).1 = (jb C.js i).k - kO M.dn i
  last : ∀ x, M.sp.getLast? = some x → x.j = i → x.t = M.now
  few : M.sp.length ≤ 1000000000
  n0 : 0 ≤ M.now
  n1 : 1 ≤ n
  n2 : kO M.dn i + n ≤ (jb C.js i).k
  n3 : M.now + n ≤ 9223372036854775807
  d0 : 0 ≤ kO M.dn i
set_option maxRecDepth 100000 in
set_option maxHeartbeats 8000000 in
theorem work_any {i τ : Nat} {r : List Int} {rest : List Nat} {n : Int} (hC : Cok C) (h : Ex C w M vc vs ve rb rv lf) (hW : WkH C M lf i τ r rest n) :
    Calls Tryz.prog 48 #[.pointer (some ⟨C.bx, 0, none⟩), .int .i64 n] w (ExP C (wkM C M i n rest) (lfW lf i n)) := by
  have hi : i ∈ quS C.js M.dn (C.o.take M.m) τ := by rw [hW.q]; simp
  obtain ⟨a1, a2, a3⟩ := quS_mem.1 hi
  have hil : i < C.js.length := hC.rel (List.mem_of_mem_take a1)
  have hfew := hC.few
  have hbd := hC.bd i hil
  have FS := Lib.hid (first_some hC h hW.L hW.lt hW.q)
  have H := Lib.hid h
  have HW := Lib.hid hW
  have A1 := Lib.hid a1
  clear h hW hi a1 a2
  go_enter Tryz.func48, Tryz.ntmps48
  go_upto_region 1 with (go_at_call 46; (with_reducible refine FS.out.mono ?_); rintro e w1 ⟨rfl, hB1⟩)
  have hE1 := H.out.later hC hB1
  obtain ⟨A, cc, hA, hcr⟩ := (hE1.rs i A1.out a3).is
  have r0 := cell_of_row w1 (rb i) 0 _ _ _ hA
  simp only [List.getElem?_toArray, List.getElem?_cons_zero] at r0
  have TL := Lib.hid (tell_any (n := n) hC hE1 HW.out.last HW.out.few (show i ≤ 1000000 by omega) HW.out.n0 (by have := HW.out.n1; omega) HW.out.n3)
  have E1 := Lib.hid hE1
  clear hE1 hA hcr hB1 FS
  go_upto_region 2 with (go_at_call 69; (with_reducible refine TL.out.mono ?_); rintro e w2 ⟨rfl, vs2, hE2⟩)
  have hR2 := hE2.rs i A1.out a3
  obtain ⟨A2, cc2, hA2, hcr2⟩ := hR2.is
  have q1 := cell_of_row w2 (rb i) 1 _ _ _ hA2
  have qf : w2.frozen? ⟨rb i, 1, none⟩ = false := by simp [World.frozen?, hA2]
  simp only [List.getElem?_toArray, List.getElem?_cons_zero, List.getElem?_cons_succ] at q1
  have hlf := HW.out.lf
  obtain ⟨kk, hkk⟩ : ∃ kk, (lf i).1 = kk := ⟨_, rfl⟩
  rw [hkk] at q1 hlf
  have hE3 := hE2.rest (k := kk - n) (c := (lf i).2) hC A1.out a3 ((Kept.refl [rb i] w2).set (rb i) 1 (.int .i64 (kk - n)) (by simp)) ⟨hR2.ge, A2, cc2, heap_setCell_same _ (rb i) 1 _ _ _ hA2, hcr2⟩
  have hf3 := hE3.c4
  have ff3 := hE3.fz 4
  have hE4 := hE3.wait hC (M.now + n)
  have p1 := cell_of_row _ (rb i) 1 _ _ _ ((hE4.rs i A1.out a3).is.choose_spec.choose_spec.1)
  have p0 := cell_of_row _ (rb i) 0 _ _ _ ((hE4.rs i A1.out a3).is.choose_spec.choose_spec.1)
  simp only [List.getElem?_toArray, List.getElem?_cons_zero, List.getElem?_cons_succ, if_true] at p1 p0
  have n0 := HW.out.n0
  have n1 := HW.out.n1
  have n2 := HW.out.n2
  have n3 := HW.out.n3
  have d0 := HW.out.d0
  have hwA : wrap64 (kk - n) = kk - n := wrap64_in (by omega)
  have hwB : wrap64 (M.now + n) = M.now + n := wrap64_in (by omega)
  have elf : (fun q => if q = i then (kk - n, (lf i).2) else lf q) = lfW lf i n := by unfold lfW; rw [hkk]
  rw [elf] at hE4
  have HLF := Lib.hid hlf
  have HKK := Lib.hid hkk
  have kb1 : 0 ≤ kk - n := by omega
  have kb2 : kk ≤ 2147483647 := by omega
  clear hlf hkk n2
  have HE4 := Lib.hid hE4
  have hv4 := hE4.c4
  simp only at hf3 hv4
  clear hE2 hR2 hA2 hcr2 hE3 hE4 elf
  obtain ⟨W3, hW3⟩ : ∃ W3, w2.setCell ⟨rb i, 1, none⟩ (.int .i64 (kk - n)) = W3 := ⟨_, rfl⟩
  go_upto_region 3 with (fail)
  rw [hW3] at hf3 ff3 p1 p0 HE4 hv4
  try rw [hW3]
  clear hW3 q1 qf
  go_upto_region 4 with (fail)
  obtain ⟨W4, hW4⟩ : ∃ W4, W3.setCell ⟨C.bx, 4, none⟩ (.int .i64 (M.now + n)) = W4 := ⟨_, rfl⟩
  rw [hW4] at p1 p0 HE4 hv4
  try rw [hW4]
  clear hW4 hf3 ff3
  by_cases hz : kk - n = 0
  · rw [hz] at p1
    have hens := HE4.out.ens
    obtain ⟨ge, cap, hve, hBg, hgl, hle, hmx, hfz⟩ := own_form hens (by omega)
    subst hve
    have v6 := HE4.out.c6
    have fe := hfz i
    have hEE := HE4.out.ends hC (g := ge) rfl hil (M.now + n)
    have i0 : (0 : Int) ≤ (i : Int) := by omega
    have i1 : (i : Int) < (C.js.length : Int) := by omega
    have ue : ∃ u, W4.cell? ⟨ge, i, none⟩ = some u := by
      have hl0 : i < (numL M.en).length := by simp [numL]; have := HW.out.le; omega
      exact ⟨_, own_cell hens rfl (List.getElem?_eq_getElem hl0)⟩
    obtain ⟨u, hu⟩ := ue
    have HEE := Lib.hid hEE
    unfold maxLen at hmx
    clear hens hfz hEE hmx
    go_upto_region 5 with (fail)
    go_region
    have LVE := Lib.hid (leave_any (M := { M with now := M.now + n, sp := addN M.sp i M.now n, en := M.en.set i (M.now + n) }) hC HW.out.ld (HEE.out.later hC (below_drew _)) HW.out.L HW.out.lt HW.out.q)
    have hkd : kO M.dn i + n = (jb C.js i).k := by have := HLF.out; omega
    have HKD := Lib.hid hkd
    clear hkd v6 fe hu p0 p1 hv4
    go_wp2_with (go_at_call 70; (with_reducible refine LVE.out.mono ?_); rintro e w5 ⟨rfl, vc5, vs5, ve5, rb5, rv5, hE5⟩)
    go_end0
    refine ⟨rfl, vc5, vs5, ve5, rb5, rv5, ?_⟩
    unfold wkM
    rw [if_pos HKD.out, if_pos HKD.out, HKD.out]
    exact hE5
  · have hz2 : (kk - n == 0) = false := by rw [beq_eq_false_iff_ne]; exact hz
    go_wp2
    go_end0
    have hkd : kO M.dn i + n ≠ (jb C.js i).k := by have := HLF.out; omega
    have hil2 : i < M.dn.length := by rw [← HW.out.ld]; exact hil
    have fin := HE4.out.dn (dn' := M.dn.set i (kO M.dn i + n)) (fun p hp => by
      simp only
      rw [kO_set _ _ hil2]
      by_cases hpi : p = i
      · subst hpi
        rw [if_pos rfl]
        have := HLF.out
        omega
      · rw [if_neg hpi])
    refine ⟨rfl, vc, vs2, ve, rb, rv, ?_⟩
    unfold wkM
    rw [if_neg hkd, if_neg hkd]
    exact fin
end
end Go.Proofs.YtnhddnldebdmbaaGreatDoor
/- A job works a section. -/
namespace Go.Proofs.YtnhddnldebdmbaaGreatDoor
open Go.RowKit
set_option linter.unusedVariables false
set_option linter.unusedSimpArgs false
attribute [local go_sem ↓] Go.wp_at_zero Go.wp_at_succ
theorem run_tail64 (b o n cc : Nat) (w : World) (h : n + 1 ≤ cc) (hm : cc ≤ 9223372036854775807) : (Instr.slice 31 (.slice (some ⟨b, o, none⟩) (n + 1) cc) (some (.int .i64 1)) none none).run Tryz.prog w = .ok (.slice (some ⟨b, if cc = 1 then o else o + 1, none⟩) n (cc - 1)) w := by
  have h3 : (0 : Int) ≤ 1 := by omega
  have h5 : (1 : Int).toNat = 1 := rfl
  have h1 : (1 : Int) ≤ ((n + 1 : Nat) : Int) := by omega
  have h6 : n + 1 - 1 = n := by omega
  have h7 : ((n + 1 : Nat) : Int) ≤ (cc : Int) := by omega
  by_cases h0 : cc = 1
  · subst h0
    obtain rfl : n = 0 := by omega
    go_simp
  · rw [if_neg h0]
    go_simp
    intro h; omega
theorem CRow.tail {w : World} {b o cc : Nat} {x : Int} {l : List Int} (h : CRow w (some ⟨b, o, none⟩) cc (x :: l)) : CRow w (some ⟨b, if cc = 1 then o else o + 1, none⟩) (cc - 1) l := by
  have hle := h.le
  rw [List.length_cons] at hle
  refine ⟨by omega, by have := h.mx; omega, fun y hy => h.wf y (by simp [hy]), fun i y hy => ?_⟩
  have hi := (List.getElem?_eq_some_iff.1 hy).1
  obtain ⟨b2, o2, e, hc⟩ := h.at_ (i + 1) y (by simpa using hy)
  simp only [Option.some.injEq, Addr.mk.injEq, and_true] at e
  obtain ⟨rfl, rfl⟩ := e
  refine ⟨b, _, rfl, ?_⟩
  rw [if_neg (by omega), Nat.add_assoc, Nat.add_comm 1 i]
  exact hc
section
variable {C : Cfg} {w w' w1 w2 : World} {M : Mv} {vc vs ve : Value} {rb : Nat → Nat} {rv : Nat → Value} {lf : Nat → Int × List Int}
def lfC (lf : Nat → Int × List Int) (i : Nat) (l : List Int) : Nat → Int × List Int := fun q => if q = i then ((lf i).1, l) else lf q
theorem WkH.cut {i τ : Nat} {r : List Int} {rest : List Nat} {n : Int} {l : List Int} (h : WkH C M lf i τ r rest n) : WkH C M (lfC lf i l) i τ r rest n :=
  ⟨h.ld, h.le, h.L, h.lt, h.q, by unfold lfC; rw [if_pos rfl]; exact h.lf, h.last, h.few, h.n0, h.n1, h.n2, h.n3, h.d0⟩
set_option maxRecDepth 100000 in
set_option maxHeartbeats 8000000 in
theorem section_any {i τ : Nat} {r : List Int} {rest : List Nat} {n a : Int} {l : List Int} (hC : Cok C) (h : Ex C w M vc vs ve rb rv lf) (hW : WkH C M lf i τ r rest n) (hc : (lf i).2 = a :: l) :
    Calls Tryz.prog 47 #[.pointer (some ⟨C.bx, 0, none⟩), .int .i64 n] w (ExP C (wkM C M i n rest) (lfW (lfC lf i l) i n)) := by
  have hi : i ∈ quS C.js M.dn (C.o.take M.m) τ := by rw [hW.q]; simp
  obtain ⟨a1, a2, a3⟩ := quS_mem.1 hi
  have FS := Lib.hid (first_some hC h hW.L hW.lt hW.q)
  have H := Lib.hid h
  have HW := Lib.hid hW
  have A1 := Lib.hid a1
  clear h hW hi a1 a2
  go_enter Tryz.func47, Tryz.ntmps47
  go_upto_region 1 with (go_at_call 46; (with_reducible refine FS.out.mono ?_); rintro e w1 ⟨rfl, hB1⟩)
  have hE1 := H.out.later hC hB1
  have hR1 := hE1.rs i A1.out a3
  obtain ⟨A, cc, hA, hcr⟩ := hR1.is
  rw [hc] at hA hcr
  obtain ⟨b, o, rfl, -⟩ := hcr.at_ 0 a rfl
  have hle := hcr.le
  have hmx := hcr.mx
  rw [List.length_cons] at hA hle
  have q2 := cell_of_row w1 (rb i) 2 _ _ _ hA
  have qf : w1.frozen? ⟨rb i, 2, none⟩ = false := by simp [World.frozen?, hA]
  simp only [List.getElem?_toArray, List.getElem?_cons_zero, List.getElem?_cons_succ] at q2
  have hsl := fun W => run_tail64 b o l.length cc W hle hmx
  obtain ⟨va, hva⟩ : ∃ va, (if cc = 1 then o else o + 1) = va := ⟨_, rfl⟩
  have hct := hcr.tail
  rw [hva] at hct
  rw [hva] at hsl
  have hE2 := hE1.rest (k := (lf i).1) (c := l) hC A1.out a3 ((Kept.refl [rb i] w1).set (rb i) 2 (.slice (some ⟨b, va, none⟩) l.length (cc - 1)) (by simp)) ⟨hR1.ge, some ⟨b, va, none⟩, cc - 1, heap_setCell_same _ (rb i) 2 _ _ _ hA, hct⟩
  have WK := Lib.hid (work_any hC hE2 (HW.out.cut (l := l)))
  clear hE1 hR1 hA hcr hB1 FS hva hct hE2 hc
  generalize l.length = m at *
  go_wp2_with (go_at_call 48; (with_reducible refine WK.out.mono ?_); rintro e w2 ⟨rfl, vc2, vs2, ve2, rb2, rv2, hE3⟩)
  go_end0
  exact ⟨rfl, vc2, vs2, ve2, rb2, rv2, hE3⟩
end
end Go.Proofs.YtnhddnldebdmbaaGreatDoor
/- The executive goes on: the plain side of a round. -/
namespace Go.Proofs.YtnhddnldebdmbaaGreatDoor
open Go.RowKit
set_option linter.unusedVariables false
set_option linter.unusedSimpArgs false
section
variable {C : Cfg} {t m n : Nat} {L : List Int}
abbrev Cfg.st (C : Cfg) (t : Nat) : TSt := tst C.ts C.js t
def Cfg.mv (C : Cfg) (t m : Nat) (L : List Int) : Mv := ⟨m, t, (C.st t).dn, (C.st t).sp, (C.st t).en, L⟩
structure PlF (C : Cfg) (t m : Nat) (L : List Int) : Prop where
  hd : Hd C.ts C.js (C.st t).dn (C.o.take m) L
  dec : Dec C.js (C.st t)
  le : m ≤ C.o.length
  lo : ∀ p ∈ C.o.take m, (jb C.js p).r ≤ t
  hz : ∀ p ∈ C.o.drop m, kO (C.st t).dn p = 0
theorem Cok.ti (hC : Cok C) (t : Nat) : TI C.js t (C.st t) := ti_all hC.lg t
theorem PlF.who_none (hC : Cok C) (h : PlF C t m []) (hR : Rel C.js C.o m t) : who C.ts C.js t = none := by
  show whoS _ _ _ _ = none
  rw [h.dec.who]
  exact pick_none (fun i hi => (hC.t0 i hi).1) hC.ord hR h.hd
theorem PlF.who_some {x : Int} {r : List Int} (hC : Cok C) (h : PlF C t m (x :: r)) (hR : Rel C.js C.o m t) : ∃ (τ i : Nat) (rest : List Nat), x = (τ : Int) ∧ τ < C.ts.length ∧ quS C.js (C.st t).dn (C.o.take m) τ = i :: rest ∧ who C.ts C.js t = some i := by
  obtain ⟨τ, rfl, hτ⟩ := h.hd.nat x (by simp)
  have h1 := (h.hd.mem τ).1 (by simp)
  cases hq : quS C.js (C.st t).dn (C.o.take m) τ with
  | nil => exact absurd hq h1
  | cons i rest =>
    refine ⟨τ, i, rest, rfl, hτ, hq, ?_⟩
    show whoS _ _ _ _ = some i
    rw [h.dec.who]
    exact pick_some (L := r) (fun i hi => (hC.t0 i hi).1) hC.ord hC.seq hR h.hd hC.dist (fun i hi => (hC.t0 i hi).2) rfl hq
theorem mem_split {p : Nat} (hC : Cok C) (hp : p < C.js.length) (m : Nat) : p ∈ C.o.take m ∨ p ∈ C.o.drop m := by
  have h1 : p ∈ C.o := hC.ord.mem.2 (by simpa using hp)
  rw [← List.take_append_drop m C.o] at h1
  exact List.mem_append.1 h1
/-- Nobody runs, and nobody comes: all have ended. -/
theorem PlF.ended (hC : Cok C) (h : PlF C t m []) (hd : C.o.drop m = []) : ∀ i, i < C.js.length → kO (C.st t).dn i = (jb C.js i).k := by
  intro i hi
  have h1 := (hC.ti t).d0 i hi
  rcases mem_split hC hi m with h2 | h2
  · rcases Int.lt_or_le (kO (C.st t).dn i) (jb C.js i).k with h3 | h3
    · exfalso
      obtain ⟨τ, hτ⟩ : ∃ τ : Nat, (jb C.js i).t = (τ : Int) := ⟨(jb C.js i).t.toNat, by have := (hC.t0 i hi).1; omega⟩
      have h4 : i ∈ quS C.js (C.st t).dn (C.o.take m) τ := quS_mem.2 ⟨h2, hτ, h3⟩
      have := (h.hd.mem τ).2 (fun e => by rw [e] at h4; cases h4)
      cases this
    · omega
  · rw [hd] at h2; cases h2
theorem far {p : Nat} {r : List Nat} (hC : Cok C) (hR : Rel C.js C.o m t) (hd : C.o.drop m = p :: r) {k : Nat} (hk : (t : Int) + k ≤ (jb C.js p).r) : ∀ j, j < C.js.length → (jb C.js j).r ≤ t ∨ (t : Int) + k ≤ (jb C.js j).r := by
  intro j hj
  rcases mem_split hC hj m with h2 | h2
  · exact .inl (hR.lo j h2)
  · have hs := hC.ord.srt.sublist (List.drop_sublist m C.o)
    rw [hd] at hs h2
    rcases List.mem_cons.1 h2 with rfl | h2
    · exact .inr hk
    · have := (List.pairwise_cons.1 hs).1 j h2
      have hp : p < C.js.length := hC.rel (List.mem_of_mem_drop (i := m) (by rw [hd]; simp))
      unfold Ahead at this
      rw [kO_rls hp, kO_rls hj] at this
      exact .inr (by omega)
theorem far_nil (hC : Cok C) (hR : Rel C.js C.o m t) (hd : C.o.drop m = []) (k : Nat) : ∀ j, j < C.js.length → (jb C.js j).r ≤ t ∨ (t : Int) + k ≤ (jb C.js j).r := by
  intro j hj
  rcases mem_split hC hj m with h2 | h2
  · exact .inl (hR.lo j h2)
  · rw [hd] at h2; cases h2
/-- Nobody runs for a while. -/
theorem PlF.idle (hC : Cok C) (h : PlF C t m []) (hR : Rel C.js C.o m t) (hn : 1 ≤ n) (hf : ∀ j, j < C.js.length → (jb C.js j).r ≤ t ∨ (t : Int) + n ≤ (jb C.js j).r) :
    C.st (t + n) = { C.st t with ru := none } ∧ PlF C (t + n) m [] := by
  have e := run_idle (h.who_none hC hR) hC.lg hf n hn (Nat.le_refl _)
  refine ⟨e, ?_⟩
  have e2 : (C.st (t + n)).dn = (C.st t).dn := by show (tst _ _ _).dn = _; rw [e]
  refine ⟨by rw [e2]; exact h.hd, fun i hi => ?_, h.le, fun p hp => ?_, fun p hp => by rw [e2]; exact h.hz p hp⟩
  · have : (C.st (t + n)).ru = none := by show (tst _ _ _).ru = _; rw [e]
    rw [this] at hi; cases hi
  · have := h.lo p hp; omega
theorem kO_run {i : Nat} (hC : Cok C) (hi : i < C.js.length) (v : Int) (p : Nat) : kO ((C.st t).dn.set i v) p = if p = i then v else kO (C.st t).dn p := kO_set p v (by rw [(hC.ti t).ld]; exact hi)
theorem nodup_far {i p : Nat} (hC : Cok C) (hi : i ∈ C.o.take m) (hp : p ∈ C.o.drop m) : p ≠ i := by
  rintro rfl
  have := hC.ord.nodup
  rw [← List.take_append_drop m C.o] at this
  exact (List.nodup_append.1 this).2.2 p hi p hp rfl
theorem wkM_L {i : Nat} {rest : List Nat} {v : Int} : (wkM C (C.mv t m L) i v rest).L = if kO (C.st t).dn i + v = (jb C.js i).k then LV (C.mv t m L) rest else L := rfl
/-- A job has run so long. -/
theorem PlF.ran {i τ : Nat} {r : List Int} {rest : List Nat} (hC : Cok C) (h : PlF C t m L) (hL : L = (τ : Int) :: r) (hq : quS C.js (C.st t).dn (C.o.take m) τ = i :: rest) (hn : 1 ≤ n)
    (he : C.st (t + n) = runM C.js (C.st t) t i n) (hk : kO (C.st t).dn i + n ≤ (jb C.js i).k) (hdec : wthS (jb C.js i).c (kO (C.st t).dn i + n) = false) :
    PlF C (t + n) m (wkM C (C.mv t m L) i n rest).L := by
  have hi : i ∈ quS C.js (C.st t).dn (C.o.take m) τ := by rw [hq]; simp
  obtain ⟨a1, a2, a3⟩ := quS_mem.1 hi
  have hil : i < C.js.length := hC.rel (List.mem_of_mem_take a1)
  have e2 : (C.st (t + n)).dn = (C.st t).dn.set i (kO (C.st t).dn i + n) := by rw [he]; rfl
  refine ⟨?_, fun j hj => ?_, h.le, fun p hp => ?_, fun p hp => ?_⟩
  · rw [e2]
    by_cases hd : kO (C.st t).dn i + n = (jb C.js i).k
    · have := Hd.leave (M := C.mv t m L) hC (hC.ti t).ld.symm h.hd hL hq
      rw [wkM_L, if_pos hd, hd]
      exact this
    · rw [wkM_L, if_neg hd]
      refine Hd.dn (M := C.mv t m L) h.hd (fun p hp => ?_)
      rw [kO_run hC hil]
      split
      · rename_i e; subst e; simp only [Cfg.mv]; omega
      · exact Iff.rfl
  · have hru : (C.st (t + n)).ru = some i := by rw [he]; rfl
    rw [hru] at hj
    injection hj with hj
    subst hj
    rw [e2, kO_run hC hil, if_pos rfl]
    exact hdec
  · have := h.lo p hp; omega
  · rw [e2, kO_run hC hil, if_neg (nodup_far hC a1 hp)]
    exact h.hz p hp
/-- Who does not run is within no section. -/
theorem wth_all {ts : List Ts} {js : List Fv} (hl : Lg js) : ∀ (n : Nat) (i : Nat), (tst ts js n).ru ≠ some i → wthS (jb js i).c (kO (tst ts js n).dn i) = false
  | 0, i, _ => by
    refine wthS_neg _ _ (hl.pos i) ?_
    simp only [tst, kO]
    by_cases h : i < js.length
    · simp [h]
    · simp [h]
  | n + 1, i, h => by
    have ih := wth_all (ts := ts) hl n i
    have hI := ti_all (ts := ts) hl n
    rw [tst_succ] at h ⊢
    have key : whoS ts js (tst ts js n) n ≠ some i → wthS (jb js i).c (kO (tst ts js n).dn i) = false := by
      intro hw
      by_cases hr : (tst ts js n).ru = some i
      · unfold whoS at hw
        rw [hr] at hw
        simp only at hw
        split at hw
        · exact absurd rfl hw
        · rename_i hf; simpa using hf
      · exact ih hr
    cases hw : whoS ts js (tst ts js n) n with
    | none => rw [tstep_none hw]; exact key (by rw [hw]; simp)
    | some j =>
      rw [tstep_some hw] at h ⊢
      simp only [runM] at h ⊢
      have hij : i ≠ j := fun e => h (by rw [e])
      rw [kO_set _ _ (by rw [hI.ld]; exact (hI.who_some hl hw).1), if_neg hij]
      exact key (by rw [hw]; simpa using Ne.symm hij)
theorem PlF.wth (hC : Cok C) (h : PlF C t m L) (i : Nat) : wthS (jb C.js i).c (kO (C.st t).dn i) = false := by
  by_cases hr : (C.st t).ru = some i
  · exact h.dec i hr
  · exact wth_all hC.lg t i hr
end
end Go.Proofs.YtnhddnldebdmbaaGreatDoor
/- The executive goes on: the walk. -/
namespace Go.Proofs.YtnhddnldebdmbaaGreatDoor
open Go.RowKit
set_option linter.unusedVariables false
set_option linter.unusedSimpArgs false
attribute [local go_sem ↓] Go.wp_at_zero Go.wp_at_succ
/-- Where it is at tick t, of T. -/
structure PlI (C : Cfg) (T t : Nat) (w : World) : Prop where
  ex : ∃ m L lf vc vs ve rb rv, Ex C w (C.mv t m L) vc vs ve rb rv lf ∧ (t < T → lf = lfN C.js (C.st t).dn ∧ PlF C t m L)
  le : t ≤ T
def PlP (C : Cfg) (T : Nat) (e : Ending) (w' : World) : Prop := e = .returned (.tuple #[]) ∧ ∃ M lf vc vs ve rb rv, Ex C w' M vc vs ve rb rv lf ∧ M.sp = (C.st T).sp ∧ M.en = (C.st T).en
section
variable {C : Cfg} {T t m k i τ : Nat} {L : List Int} {w : World}
theorem mv_run {rest : List Nat} (he : C.st (t + k) = runM C.js (C.st t) t i k) : wkM C (C.mv t m L) i k rest = C.mv (t + k) m (wkM C (C.mv t m L) i k rest).L := by
  have e : ((t + k : Nat) : Int) = (t : Int) + k := by omega
  unfold Cfg.mv
  rw [he, e]
  rfl
theorem pl_next {vc vs ve : Value} {rb : Nat → Nat} {rv : Nat → Value} {lf : Nat → Int × List Int} {rest : List Nat} (h : Ex C w (wkM C (C.mv t m L) i k rest) vc vs ve rb rv lf) (he : C.st (t + k) = runM C.js (C.st t) t i k) (hle : t + k ≤ T)
    (hF : t + k < T → PlF C (t + k) m (wkM C (C.mv t m L) i k rest).L ∧ ∀ p, lfN C.js (C.st (t + k)).dn p = lf p) : PlI C T (t + k) w := by
  rw [mv_run he] at h
  refine ⟨?_, hle⟩
  by_cases hlt : t + k < T
  · obtain ⟨h1, h2⟩ := hF hlt
    exact ⟨m, _, _, vc, vs, ve, rb, rv, h.lfs (fun p _ _ => h2 p), fun _ => ⟨rfl, h1⟩⟩
  · exact ⟨m, _, _, vc, vs, ve, rb, rv, h, fun h => absurd h hlt⟩
theorem lf_free (hC : Cok C) (hi : i < C.js.length) (hc : cl (jb C.js i).c (kO (C.st t).dn i) = []) (he : C.st (t + k) = runM C.js (C.st t) t i k) : ∀ p, lfN C.js (C.st (t + k)).dn p = lfW (lfN C.js (C.st t).dn) i k p := by
  intro p
  have e2 : (C.st (t + k)).dn = (C.st t).dn.set i (kO (C.st t).dn i + k) := by rw [he]; rfl
  unfold lfN lfW
  rw [e2, kO_run hC hi]
  by_cases h : p = i
  · subst h
    simp only [if_true, (cl_none _ _ hc k (by omega)).2, hc]
    congr 1
    omega
  · rw [if_neg h, if_neg h]
theorem lf_sec {l : List Int} (hC : Cok C) (hi : i < C.js.length) (hc : cl (jb C.js i).c (kO (C.st t).dn i + k) = l) (he : C.st (t + k) = runM C.js (C.st t) t i k) : ∀ p, lfN C.js (C.st (t + k)).dn p = lfW (lfC (lfN C.js (C.st t).dn) i l) i k p := by
  intro p
  have e2 : (C.st (t + k)).dn = (C.st t).dn.set i (kO (C.st t).dn i + k) := by rw [he]; rfl
  unfold lfN lfW lfC
  rw [e2, kO_run hC hi]
  by_cases h : p = i
  · subst h
    simp only [if_true, hc]
    congr 1
    omega
  · simp only [if_neg h]
theorem wkh_of {r : List Int} {rest : List Nat} {n : Int} (hC : Cok C) (htot : (C.js.map (·.k)).sum ≤ 1000000000) (hL : L = (τ : Int) :: r) (hτ : τ < C.ts.length) (hq : quS C.js (C.st t).dn (C.o.take m) τ = i :: rest) (n1 : 1 ≤ n) (n2 : kO (C.st t).dn i + n ≤ (jb C.js i).k) (n3 : (t : Int) + n ≤ 9223372036854775807) :
    WkH C (C.mv t m L) (lfN C.js (C.st t).dn) i τ r rest n := by
  have hi : i ∈ quS C.js (C.st t).dn (C.o.take m) τ := by rw [hq]; simp
  obtain ⟨a1, a2, a3⟩ := quS_mem.1 hi
  have hil : i < C.js.length := hC.rel (List.mem_of_mem_take a1)
  have hI := hC.ti t
  refine ⟨hI.ld.symm, hI.le.symm, hL, hτ, hq, rfl, fun y hy hyi => ?_, ?_, by simp only [Cfg.mv]; omega, n1, n2, n3, (hI.d0 i hil).1⟩
  · obtain ⟨y1, y2, y3, y4⟩ := hI.sp y hy
    simp only [Cfg.mv]
    rcases Int.lt_or_le y.t t with h | h
    · have := y4 h; rw [hyi] at this; omega
    · omega
  · have h2 : ((C.st t).sp.length : Int) ≤ (C.js.map (·.k)).sum := spn_few (ts := C.ts) hC.lg t
    simp only [Cfg.mv]
    omega
end
set_option maxRecDepth 100000 in
set_option maxHeartbeats 16000000 in
theorem play_any {C : Cfg} {w : World} {en : Int} {T : Nat} (hC : Cok C) (h : PlI C T 0 w) (hT : en.toNat = T) (he : en ≤ 9223372036854775807) (htot : (C.js.map (·.k)).sum ≤ 1000000000) :
    Calls Tryz.prog 23 #[.pointer (some ⟨C.bx, 0, none⟩), .int .i64 en] w (PlP C T) := by
  have H0 := Lib.hid h
  have HT := Lib.hid hT
  have HTOT := Lib.hid htot
  have HE := Lib.hid he
  clear h hT htot he
  go_enter Tryz.func23, Tryz.ntmps23
  go_wp2
  go_step3
  go_wp2
  go_step3
  go_wp2
  go_loopg [] (T + 1) (fun gm wr => ∃ t : Nat, T + 1 ≤ gm + t ∧ Hid (PlI C T t wr))
  case atStart => exact ⟨0, by omega, H0⟩
  case round =>
    obtain ⟨t, hm, hI⟩ := hrel
    clear H0
    obtain ⟨m, L, lf, vc, vs, ve, rb, rv, hE, hF⟩ := hI.out.ex
    have c4 := hE.c4
    have htT := hI.out.le
    by_cases hlt : t < T
    · obtain ⟨hlf, hF1⟩ := hF hlt
      subst hlf
      clear hF
      have hF := hF1
      clear hF1
      have ten : (t : Int) < en := by have := HT.out; omega
      have hen := HE.out
      have RL := Lib.hid (release_any (M := C.mv t m L) hC ⟨⟨vc, vs, ve, rb, rv, hE⟩, hF.hd, hF.le, Nat.le_refl _, hF.lo⟩ (show 0 ≤ (t : Int) ∧ (t : Int) ≤ 9223372036854775807 by omega) hF.hz)
      have HF := Lib.hid hF
      clear hE hF
      simp only [Cfg.mv] at c4
      go_upto_region 2 with (go_at_call 43; (with_reducible refine RL.out.mono ?_); rintro e w1 ⟨rfl, m1, L1, hR1, hRel⟩)
      have hF1 : PlF C t m1 L1 := ⟨hR1.hd, HF.out.dec, hR1.le, hR1.lo, fun p hp => HF.out.hz p (by
        have hge := hR1.ge
        simp only [Cfg.mv] at hge
        have : C.o.drop m1 = (C.o.drop m).drop (m1 - m) := by rw [List.drop_drop]; congr 1; omega
        rw [this] at hp
        exact List.mem_of_mem_drop hp)⟩
      obtain ⟨vc, vs, ve, rb, rv, hE1⟩ := hR1.ex
      have hE1 : Ex C w1 (C.mv t m1 L1) vc vs ve rb rv (lfN C.js (C.st t).dn) := hE1
      have hRel : Rel C.js C.o m1 t := hRel
      have l4 := World.block_lt_of_cell? w1 _ hE1.c4
      have QT := Lib.hid (quiet_any hC hE1 (show 0 ≤ (t : Int) ∧ (t : Int) ≤ 9223372036854775807 by omega))
      have E1 := Lib.hid hE1
      have F1 := Lib.hid hF1
      have RE := Lib.hid hRel
      have d4 := hE1.c4
      simp only [Cfg.mv] at d4
      clear hR1 hF1 hRel hE1 RL c4 HF
      cases L1 with
      | nil =>
        have FN := Lib.hid (fun W (hB : Below w1.heap.size w1 W) => first_none (E1.out.later hC hB) rfl)
        cases hd : C.o.drop m1 with
        | nil =>
          have hrel : relS C (C.mv t m1 []) = 9223372036854775807 := by unfold relS; simp only [Cfg.mv, hd]
          rw [hrel] at QT
          have HD := Lib.hid hd
          obtain ⟨g, off, cs, hvc, -⟩ := E1.out.com.ex
          simp only [Cfg.mv, hd, List.length_nil] at hvc
          subst hvc
          have d1 := E1.out.c1
          have l1 := World.block_lt_of_cell? w1 _ d1
          clear hrel hd
          go_upto_region 8 with (first
            | (go_at_call 45; (with_reducible refine QT.out.mono ?_); rintro e w2 ⟨rfl, nq, rfl⟩; have F2 := Lib.hid (FN.out _ (below_drewN2 w1 nq)))
            | (go_at_call 46; (with_reducible refine F2.out.mono ?_); rintro e w3 ⟨rfl, hB3⟩; have B3 := Lib.hid ((below_drewN2 w1 nq).trans (hB3.mono (by simp)));
               have y1 := (B3.out.cell (p := ⟨C.bx, 1, none⟩) l1).trans d1))
          have hdn := F1.out.ended hC HD.out
          have e := run_done (ts := C.ts) hC.lg hdn (T - t)
          rw [show t + (T - t) = T by omega] at e
          have EE := Lib.hid e
          have FIN := Lib.hid (E1.out.later hC B3.out)
          clear hdn e
          go_wp2
          first | rw [Exit.noGoto_ret] | simp only [Exit.noGoto] | skip
          go_end0
          exact ⟨rfl, _, _, _, _, _, _, _, FIN.out, EE.out.2.1.symm, EE.out.2.2.symm⟩
        | cons p r =>
          have hrel : relS C (C.mv t m1 []) = (jb C.js p).r - t := by unfold relS; simp only [Cfg.mv, hd]
          rw [hrel] at QT
          have hpl : p < C.js.length := hC.rel (List.mem_of_mem_drop (i := m1) (by rw [hd]; simp))
          have hrp := RE.out.hi p (by rw [hd]; simp)
          have hrb := hC.bd p hpl
          obtain ⟨k, hk⟩ : ∃ k : Nat, min ((jb C.js p).r - t) (en - t) = (k : Int) := ⟨(min ((jb C.js p).r - t) (en - t)).toNat, by omega⟩
          have hTen := HT.out
          have hk1 : 1 ≤ k := by omega
          have hkT : t + k ≤ T := by omega
          have hkr : (t : Int) + k ≤ (jb C.js p).r := by omega
          have IDL := Lib.hid (F1.out.idle hC RE.out hk1 (far hC RE.out hd hkr))
          have HD := Lib.hid hd
          obtain ⟨g, off, cs, hvc, -⟩ := E1.out.com.ex
          simp only [Cfg.mv, hd, List.length_cons] at hvc
          subst hvc
          have d1 := E1.out.c1
          have l1 := World.block_lt_of_cell? w1 _ d1
          have lz : (((r.length + 1 : Nat) : Int) == 0) = false := by rw [beq_eq_false_iff_ne]; omega
          have wsub : IntKind.i64.wrap (en - t) = en - t := IntWalk.i64_in _ (by omega)
          have WT := Lib.hid (fun W (hB : Below w1.heap.size w1 W) => wait_any hC (E1.out.later hC hB) (k : Int) (show (0 : Int) ≤ (t : Int) by omega) (by omega) (show (t : Int) + k ≤ 9223372036854775807 by omega))
          have HK := Lib.hid hk
          clear hrel hd hTen hkr hrp hrb hpl
          go_upto_region 9 with (first
            | (go_at_call 45; (with_reducible refine QT.out.mono ?_); rintro e w2 ⟨rfl, nq, rfl⟩; have F2 := Lib.hid (FN.out _ (below_drewN2 w1 nq)))
            | (go_at_call 46; (with_reducible refine F2.out.mono ?_); rintro e w3 ⟨rfl, hB3⟩; have B3 := Lib.hid ((below_drewN2 w1 nq).trans (hB3.mono (by simp)));
               have y1 := (B3.out.cell (p := ⟨C.bx, 1, none⟩) l1).trans d1))
          have y4 := (B3.out.cell (p := ⟨C.bx, 4, none⟩) l4).trans d4
          have W3 := Lib.hid (WT.out _ B3.out)
          clear y1 d1 d4 l1
          go_wp2_with (go_at_call 44; (with_reducible refine W3.out.mono ?_); rintro e w4 ⟨rfl, vc4, vs4, ve4, rb4, rv4, hE4⟩)
          have NX := Lib.hid (show PlI C T (t + k) w4 from by
            obtain ⟨e1, e2⟩ := IDL.out
            have e3 : ({ C.mv t m1 [] with now := (C.mv t m1 []).now + (k : Int) } : Mv) = C.mv (t + k) m1 [] := by
              have ec : ((t + k : Nat) : Int) = (t : Int) + k := by omega
              unfold Cfg.mv
              rw [e1, ec]
            rw [e3] at hE4
            have e4 : (C.st (t + k)).dn = (C.st t).dn := by rw [e1]
            refine ⟨⟨m1, [], _, vc4, vs4, ve4, rb4, rv4, hE4, fun _ => ⟨by rw [e4], e2⟩⟩, hkT⟩)
          clear hE4
          go_roundg (gk - k)
          case measure => omega
          case rel => exact ⟨t + k, by omega, NX⟩
      | cons x r =>
        obtain ⟨τ, i, rest, rfl, hτ, hq, hwho⟩ := F1.out.who_some hC RE.out
        have hiq : i ∈ quS C.js (C.st t).dn (C.o.take m1) τ := by rw [hq]; simp
        obtain ⟨a1, a2, a3⟩ := quS_mem.1 hiq
        have hil : i < C.js.length := hC.rel (List.mem_of_mem_take a1)
        have hbd := hC.bd i hil
        have hI := (hC.ti t).d0 i hil
        have FN := Lib.hid (fun W (hB : Below w1.heap.size w1 W) => first_some (M := C.mv t m1 ((τ : Int) :: r)) hC (E1.out.later hC hB) rfl hτ hq)
        have hTen := HT.out
        have RS := Lib.hid (fun W (hB : Below w1.heap.size w1 W) => (E1.out.later hC hB).rs i a1 a3)
        have wsub : IntKind.i64.wrap (en - t) = en - t := IntWalk.i64_in _ (by omega)
        have hwth := F1.out.wth hC i
        cases hcl : cl (jb C.js i).c (kO (C.st t).dn i) with
        | cons a l =>
          obtain ⟨s1, s2, s3, s4, s5⟩ := cl_step _ _ _ _ (hC.lg.pos i) hI.1 hwth hcl
          have hfit := hC.lg.fit i hil
          obtain ⟨k, hk⟩ : ∃ k : Nat, min a (en - t) = (k : Int) := ⟨(min a (en - t)).toNat, by omega⟩
          have hk1 : 1 ≤ k := by omega
          have hkT : t + k ≤ T := by omega
          have hka : (k : Int) ≤ a := by omega
          have hfull : t + k < T → (k : Int) = a := by omega
          have RUN := Lib.hid (run_sec (ts := C.ts) hC.lg hwho hwth hcl k hk1 hka)
          have SC := Lib.hid (fun W (hB : Below w1.heap.size w1 W) => section_any (n := (k : Int)) (a := a) (l := l) hC (E1.out.later hC hB) (wkh_of hC HTOT.out rfl hτ hq (by omega) (by omega) (by omega)) hcl)
          have FULL := Lib.hid hfull
          have S4 := Lib.hid s4
          have S5 := Lib.hid s5
          have HK := Lib.hid hk
          have HQ := Lib.hid hq
          have KB := Lib.hid (show kO (C.st t).dn i + k ≤ (jb C.js i).k by omega)
          have CLL := Lib.hid hcl
          have qv : Hid (relS C (C.mv t m1 ((τ : Int) :: r)) = relS C (C.mv t m1 ((τ : Int) :: r))) := Lib.hid rfl
          generalize relS C (C.mv t m1 ((τ : Int) :: r)) = rel at *
          clear hfull s2 s3 s4 s5 hq hiq a2 a3 hbd hI hwth hcl hfit hwho hTen
          go_upto_region 4 with (first
            | (go_at_call 45; (with_reducible refine QT.out.mono ?_); rintro e w2 ⟨rfl, nq, rfl⟩; have F2 := Lib.hid (FN.out _ (below_drewN2 w1 nq)))
            | (go_at_call 46; (with_reducible refine F2.out.mono ?_); rintro e w3 ⟨rfl, hB3⟩; have B3 := Lib.hid ((below_drewN2 w1 nq).trans (hB3.mono (by simp)))))
          have y4 := (B3.out.cell (p := ⟨C.bx, 4, none⟩) l4).trans d4
          obtain ⟨A, cc, hA, hcr⟩ := (RS.out _ B3.out).is
          have ecl : (lfN C.js (C.st t).dn i).2 = a :: l := CLL.out
          rw [ecl] at hA hcr
          obtain ⟨b, o, rfl, hca⟩ := hcr.at_ 0 a rfl
          have hle := hcr.le
          have hmx := hcr.mx
          rw [List.length_cons] at hA hle
          have q2 := cell_of_row w3 (rb i) 2 _ _ _ hA
          simp only [List.getElem?_toArray, List.getElem?_cons_zero, List.getElem?_cons_succ] at q2
          have q3 : w3.cell? ⟨b, o, none⟩ = some (.int .i64 a) := by
            have := ((E1.out.later hC B3.out).bel.cell (p := ⟨b, o + 0, none⟩) (World.block_lt_of_cell? _ _ hca)).trans hca
            rwa [Nat.add_zero] at this
          have lz : (0 : Int) < ((l.length + 1 : Nat) : Int) := by omega
          have S3 := Lib.hid (SC.out _ B3.out)
          clear hA hcr hca hB3 d4 ecl
          go_upto_region 5 with (fail)
          first | go_quiet (fail) | go_region
          have y4' : (w3.drewN nq).cell? ⟨C.bx, 4, none⟩ = some (.int .i64 (t : Int)) := y4
          have S4' := Lib.hid (SC.out _ (B3.out.trans ((below_drewN2 w3 nq).mono B3.out.size)))
          clear y4 q2 q3 S3
          go_wp2_with (go_at_call 47; (with_reducible refine S4'.out.mono ?_); rintro e w4 ⟨rfl, vc4, vs4, ve4, rb4, rv4, hE4⟩)
          have NX := Lib.hid (show PlI C T (t + k) w4 from pl_next hE4 RUN.out hkT (fun hlt2 => ⟨F1.out.ran hC rfl HQ.out hk1 RUN.out KB.out (by rw [FULL.out hlt2]; exact S4.out), lf_sec hC hil (by rw [FULL.out hlt2]; exact S5.out) RUN.out⟩))
          clear hE4
          go_roundg (gk - k)
          case measure => omega
          case rel => exact ⟨t + k, by omega, NX⟩
        | nil =>
          obtain ⟨hr1, hr2⟩ : 1 ≤ relS C (C.mv t m1 ((τ : Int) :: r)) ∧ ∀ k : Nat, (k : Int) ≤ relS C (C.mv t m1 ((τ : Int) :: r)) → ∀ j, j < C.js.length → (jb C.js j).r ≤ t ∨ (t : Int) + k ≤ (jb C.js j).r := by
            unfold relS
            simp only [Cfg.mv]
            cases hd : C.o.drop m1 with
            | nil =>
              simp only
              exact ⟨by omega, fun k _ => far_nil hC RE.out hd k⟩
            | cons p r' =>
              have hrp := RE.out.hi p (by rw [hd]; simp)
              simp only
              exact ⟨by omega, fun k hk => far hC RE.out hd (by omega)⟩
          generalize relS C (C.mv t m1 ((τ : Int) :: r)) = rel at *
          obtain ⟨k, hk⟩ : ∃ k : Nat, min (min ((jb C.js i).k - kO (C.st t).dn i) rel) (en - t) = (k : Int) := ⟨(min (min ((jb C.js i).k - kO (C.st t).dn i) rel) (en - t)).toNat, by omega⟩
          have hk1 : 1 ≤ k := by omega
          have hkT : t + k ≤ T := by omega
          have hkk : kO (C.st t).dn i + k ≤ (jb C.js i).k := by omega
          have RUN := Lib.hid (run_free (ts := C.ts) hC.lg F1.out.dec hwho hcl hkk (hr2 k (by omega)) k hk1 (Nat.le_refl _))
          have SC := Lib.hid (fun W (hB : Below w1.heap.size w1 W) => work_any (n := (k : Int)) hC (E1.out.later hC hB) (wkh_of hC HTOT.out rfl hτ hq (by omega) (by omega) (by omega)))
          have CLN := Lib.hid ((cl_none _ _ hcl k (by omega)).1)
          have KB := Lib.hid hkk
          have HK := Lib.hid hk
          have HQ := Lib.hid hq
          have CLL := Lib.hid hcl
          obtain ⟨kw, hkw⟩ : ∃ kw, (jb C.js i).k - kO (C.st t).dn i = kw := ⟨_, rfl⟩
          have HKW := Lib.hid hkw
          rw [hkw] at hk
          clear hr2 hq hiq a2 a3 hbd hI hwth hcl hwho hTen hkk hkw
          go_upto_region 4 with (first
            | (go_at_call 45; (with_reducible refine QT.out.mono ?_); rintro e w2 ⟨rfl, nq, rfl⟩; have F2 := Lib.hid (FN.out _ (below_drewN2 w1 nq)))
            | (go_at_call 46; (with_reducible refine F2.out.mono ?_); rintro e w3 ⟨rfl, hB3⟩; have B3 := Lib.hid ((below_drewN2 w1 nq).trans (hB3.mono (by simp)))))
          have y4 := (B3.out.cell (p := ⟨C.bx, 4, none⟩) l4).trans d4
          obtain ⟨A, cc, hA, hcr⟩ := (RS.out _ B3.out).is
          have ecl : lfN C.js (C.st t).dn i = (kw, []) := by unfold lfN; rw [CLL.out, HKW.out]
          rw [ecl] at hA
          simp only [List.length_nil] at hA
          have q2 := cell_of_row w3 (rb i) 2 _ _ _ hA
          have q1 := cell_of_row w3 (rb i) 1 _ _ _ hA
          simp only [List.getElem?_toArray, List.getElem?_cons_zero, List.getElem?_cons_succ] at q2 q1
          clear hA hcr hB3 d4 ecl
          go_upto_region 7 with (fail)
          first | go_quiet (fail) | go_region
          have y4' : (w3.drewN nq).cell? ⟨C.bx, 4, none⟩ = some (.int .i64 (t : Int)) := y4
          have S4' := Lib.hid (SC.out _ (B3.out.trans ((below_drewN2 w3 nq).mono B3.out.size)))
          clear y4 q2 q1
          go_wp2_with (go_at_call 48; (with_reducible refine S4'.out.mono ?_); rintro e w4 ⟨rfl, vc4, vs4, ve4, rb4, rv4, hE4⟩)
          have NX := Lib.hid (show PlI C T (t + k) w4 from pl_next hE4 RUN.out hkT (fun hlt2 => ⟨F1.out.ran hC rfl HQ.out hk1 RUN.out KB.out CLN.out, lf_free hC hil CLL.out RUN.out⟩))
          clear hE4
          go_roundg (gk - k)
          case measure => omega
          case rel => exact ⟨t + k, by omega, NX⟩
    · have hte : t = T := by omega
      subst hte
      have ten : ¬ ((t : Int) < en) := by have := HT.out; omega
      simp only [Cfg.mv] at c4
      have HX := Lib.hid hE
      clear hE hF
      go_wp2
      first | rw [Exit.noGoto_ret] | simp only [Exit.noGoto] | skip
      go_end0
      exact ⟨rfl, _, _, _, _, _, _, _, HX.out, rfl, rfl⟩
end Go.Proofs.YtnhddnldebdmbaaGreatDoor
