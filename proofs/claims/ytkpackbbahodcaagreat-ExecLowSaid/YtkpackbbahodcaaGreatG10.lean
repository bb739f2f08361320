/- Texts about the program, one after the other: ERls, ETell, ELv, EWk, ESec, EPl, EFin, EGen. -/
import Derived.Test.YtkpackbbahodcaaGreatG9
import Derived.Test.YtkpackbbahodcaaGreatG7
/- Who is released by now is put into the queues: the walk. -/
namespace Go.Proofs.YtkpackbbahodcaaGreat
open Go.RowKit
set_option linter.unusedVariables false
set_option linter.unusedSimpArgs false
attribute [local go_sem ↓] Go.wp_at_zero Go.wp_at_succ
/-- What is left of a job that has worked so much. -/
def lfN (js : List Fv) (dn : List Int) (p : Nat) : Int × List Int := ((jb js p).k - kO dn p, cl (jb js p).c (kO dn p))
theorem lfN_zero {C : Cfg} (hC : Cok C) {dn : List Int} {p : Nat} (h : kO dn p = 0) : lfN C.js dn p = ((jb C.js p).k, (jb C.js p).c) := by
  unfold lfN; rw [h, Int.sub_zero, cl_zero _ (hC.lg.pos p)]
theorem run_tail (g off n : Nat) (w : World) (h : n ≤ 100000) : (Instr.slice 60 (.slice (some ⟨g, off, none⟩) (n + 1) (n + 1)) (some (.int .i64 1)) none none).run Tryz.prog w = .ok (.slice (some ⟨g, if n = 0 then off else off + 1, none⟩) n n) w := by
  have h3 : (0 : Int) ≤ 1 := by omega
  have h5 : (1 : Int).toNat = 1 := rfl
  by_cases h0 : n = 0
  · subst h0
    go_simp
  · have h1 : (1 : Int) ≤ ((n + 1 : Nat) : Int) := by omega
    have h4 : ¬ n + 1 = 1 := by omega
    have h6 : n + 1 - 1 = n := by omega
    rw [if_neg h0]
    go_simp
    intro h; omega
theorem Com.tail {B : Nat} {w : World} {g off n : Nat} {cs : Array Value} {p : Nat} {r : List Nat} (hB : B ≤ g) (hg : w.heap[g]? = some (.cells cs TIn (0, 0))) (hn : (p :: r).length = n + 1) (hl : n + 1 ≤ 1000) (hc : ∀ (j q : Nat), (p :: r)[j]? = some q → w.cell? ⟨g, off + j, none⟩ = some (.int .i64 (q : Int))) :
    Com B w (.slice (some ⟨g, if n = 0 then off else off + 1, none⟩) n n) r := by
  have hr : r.length = n := by simpa using hn
  refine ⟨g, if n = 0 then off else off + 1, cs, by rw [hr], hB, hg, by omega, fun j q hj => ?_⟩
  have hj2 := (List.getElem?_eq_some_iff.1 hj).1
  rw [if_neg (by omega)]
  have := hc (j + 1) q (by simpa using hj)
  rw [Nat.add_assoc, Nat.add_comm 1 j]; exact this
structure RlI (C : Cfg) (M : Mv) (k : Nat) (L : List Int) (w : World) : Prop where
  ex : ∃ vc vs ve rb rv, Ex C w { M with m := k, L := L } vc vs ve rb rv (lfN C.js M.dn)
  hd : Hd C.ts C.js M.dn (C.o.take k) L
  le : k ≤ C.o.length
  ge : M.m ≤ k
  lo : ∀ p ∈ C.o.take k, (jb C.js p).r ≤ M.now
def RlP (C : Cfg) (M : Mv) (e : Ending) (w' : World) : Prop := e = .returned (.tuple #[]) ∧ ∃ k L, RlI C M k L w' ∧ Rel C.js C.o k M.now
set_option maxRecDepth 100000 in
set_option maxHeartbeats 8000000 in
theorem release_any {C : Cfg} {M : Mv} {w : World} (hC : Cok C) (h : RlI C M M.m M.L w) (hn : 0 ≤ M.now ∧ M.now ≤ 9223372036854775807) (hz : ∀ p ∈ C.o.drop M.m, kO M.dn p = 0) :
    Calls Tryz.prog 49 #[.pointer (some ⟨C.bx, 0, none⟩)] w (RlP C M) := by
  have H0 := Lib.hid h
  have HN := Lib.hid hn
  have HZ := Lib.hid hz
  clear h hn hz
  go_enter Tryz.func49, Tryz.ntmps49
  go_wp2
  go_loopg [] (C.o.length + 1) (fun gm wr => ∃ (k : Nat) (L : List Int), C.o.length + 1 ≤ gm + k ∧ k ≤ C.o.length ∧ Hid (RlI C M k L wr))
  case atStart => exact ⟨M.m, M.L, by omega, H0.out.le, H0⟩
  case round =>
    obtain ⟨k, L, hm, hkl, hI⟩ := hrel
    clear H0
    obtain ⟨vc, vs, ve, rb, rv, hE⟩ := hI.out.ex
    obtain ⟨g, off, cs, rfl, hB, hg, hl, hc⟩ := hE.com.ex
    have c1 := hE.c1
    have HE := Lib.hid hE
    have Q := quiet_any hC hE HN.out
    simp only at hl hc c1 hg
    cases hd : C.o.drop k with
    | nil =>
      rw [hd] at c1
      simp only [List.length_nil] at c1
      have hrl := rel_done hC hkl hI.out.lo (fun p r e => by rw [hd] at e; cases e)
      have HR := Lib.hid hrl
      clear hE hc hl hg hd Q hrl
      go_wp2
      go_end0
      exact ⟨rfl, k, L, hI.out, HR.out⟩
    | cons p r =>
      have hrel : relS C { M with m := k, L := L } = (jb C.js p).r - M.now := by unfold relS; simp only [hd]
      rw [hrel] at Q
      have ln : (p :: r).length = r.length + 1 := rfl
      have lz : (0 : Int) < ((r.length + 1 : Nat) : Int) := by omega
      by_cases hr : (jb C.js p).r ≤ M.now
      · have hq : (decide ((jb C.js p).r - M.now ≤ 0)) = true := decide_eq_true (by omega)
        have Q := Lib.hid Q
        have HD := Lib.hid hd
        have hmd : ∀ q ∈ C.o.drop k, q ∈ C.o.drop M.m := fun q hq => by
          have hge := hI.out.ge
          have : C.o.drop k = (C.o.drop M.m).drop (k - M.m) := by rw [List.drop_drop]; congr 1; omega
          rw [this] at hq
          exact List.mem_of_mem_drop hq
        have HCM0 := Lib.hid (fun n va (hn : r.length = n) (hva : (if n = 0 then off else off + 1) = va) => show Com C.w0.heap.size wr (.slice (some ⟨g, va, none⟩) n n) r from by
          rw [← hva]
          refine Com.tail (p := p) hB hg (by simp [hn]) (by rw [hd] at hl; simp at hl; omega) (fun j q hj => hc j q (by rw [hd]; exact hj)))
        rw [hd, ln] at c1 hl
        have hp : p ∈ C.o := List.mem_of_mem_drop (i := k) (by rw [hd]; simp)
        have hpl := hC.rel hp
        have hfew := hC.few
        obtain ⟨t0, t1⟩ := hC.t0 p hpl
        obtain ⟨τ, hτ⟩ : ∃ τ : Nat, (jb C.js p).t = (τ : Int) := ⟨(jb C.js p).t.toNat, by omega⟩
        have HT := Lib.hid hτ
        have hτl : τ < C.ts.length := by omega
        obtain ⟨jbk, jo, x, A, cc, hR, hx, hjl, hF⟩ := hC.row.get hpl
        have hxe := jb_get hx
        subst hxe
        have HF := Lib.hid hF
        have e1 := hc 0 p (by rw [hd]; rfl)
        rw [Nat.add_zero] at e1
        clear hc hd hE hg hrel t0 t1 hτ
        go_upto_region 1 with (go_at_call 51; (with_reducible refine Q.out.mono ?_); rintro e w1 ⟨rfl, nq, rfl⟩)
        have HCM1 := Lib.hid (fun n va hn hva => (HCM0.out n va hn hva).kt (KT.of (S := []) (below_drewN2 wr nq)) (by simp))
        have hE1 := HE.out.later hC (below_drewN2 wr nq)
        have e1' : (wr.drewN nq).cell? ⟨g, off, none⟩ = _ := e1
        clear e1 c1
        generalize wr.drewN nq = W1 at *
        have c0 := hE1.c0
        have c1 := hE1.c1
        have c2 := hE1.c2
        have c3 := hE1.c3
        have f1 := hE1.fz 1
        have hdl : (C.o.drop k).length = r.length + 1 := by rw [HD.out]; rfl
        simp only [hdl] at c1
        rw [hR] at c0
        have jW := hF.later hE1.bel
        have j0 := jW.c0
        have j1 := jW.c1
        have j2 := jW.c2
        have j3 := jW.c3
        have j4 := jW.c4
        have hld := jW.loadJ
        obtain ⟨va, hva⟩ : ∃ va, (if r.length = 0 then off else off + 1) = va := ⟨_, rfl⟩
        have HCM := Lib.hid (HCM1.out _ va rfl hva)
        have hsl := fun w => run_tail g off r.length w (by omega)
        rw [hva] at hsl
        clear hva
        have i0 : (0 : Int) ≤ (p : Int) := by omega
        have i1 : (p : Int) < (C.js.length : Int) := by omega
        have HE1 := Lib.hid hE1
        have JW := Lib.hid jW
        clear hE1 jW hdl hF hx hR
        go_upto_region 3 with (fail)
        have kx : KT [TX] W1 (W1.setCell ⟨C.bx, 1, none⟩ (.slice (some ⟨g, va, none⟩) r.length r.length)) := KT.set HE1.out.box (by simp)
        have bel2 : Below C.w0.heap.size C.w0 (W1.setCell ⟨C.bx, 1, none⟩ (.slice (some ⟨g, va, none⟩) r.length r.length)) := below_set HE1.out.bel hC.bx HE1.out.bel.size
        obtain ⟨W2, hW2⟩ : ∃ W2, W1.setCell ⟨C.bx, 1, none⟩ (.slice (some ⟨g, va, none⟩) r.length r.length) = W2 := ⟨_, rfl⟩
        have d0 : W2.cell? ⟨C.bx, 0, none⟩ = some (.slice (some ⟨jbk, jo, none⟩) C.js.length C.rc) := by rw [← hW2]; exact set_o c0 (by omega)
        have d2 : W2.cell? ⟨C.bx, 2, none⟩ = some (.pointer (some ⟨C.hb, 0, none⟩)) := by rw [← hW2]; exact set_o c2 (by omega)
        have d3 : W2.cell? ⟨C.bx, 3, none⟩ = some (.slice (some ⟨C.gq, 0, none⟩) C.ts.length C.ts.length) := by rw [← hW2]; exact set_o c3 (by omega)
        rw [hW2] at kx bel2 ⊢
        have KX := Lib.hid kx
        have BEL2 := Lib.hid bel2
        have jF2 := HF.out.later bel2
        have k0 := jF2.c0
        have k1 := jF2.c1
        have k2 := jF2.c2
        have k3 := jF2.c3
        have k4 := jF2.c4
        have kld := jF2.loadJ
        have HW2 := Lib.hid hW2
        clear kx bel2
        clear hW2 c0 c1 c2 c3 j0 j1 j2 j3 j4 hld f1 hsl e1' jF2
        go_upto_region 4 with (fail)
        rw [HT.out]
        have hb23 : Below W2.heap.size W2 (W2.alloc (.cells #[.int .i64 (τ : Int), .int .i64 (jb C.js p).a, .int .i64 (jb C.js p).r, .int .i64 (jb C.js p).k, .slice A (jb C.js p).c.length cc] 46)) := (Below.refl _ _).alloc (Nat.le_refl _) _
        have hzc := fun i => cell_of_row (W2.alloc (.cells #[.int .i64 (τ : Int), .int .i64 (jb C.js p).a, .int .i64 (jb C.js p).r, .int .i64 (jb C.js p).k, .slice A (jb C.js p).c.length cc] 46)) W2.heap.size i _ _ _ (heap_alloc_new W2 _)
        have HJB := Lib.hid (show ∃ cs, (W2.alloc (.cells #[.int .i64 (τ : Int), .int .i64 (jb C.js p).a, .int .i64 (jb C.js p).r, .int .i64 (jb C.js p).k, .slice A (jb C.js p).c.length cc] 46)).heap[W2.heap.size]? = some (Obj.cells cs 46 (0, 0)) from ⟨_, heap_alloc_new W2 _⟩)
        have z0 := hzc 0
        have z3 := hzc 3
        have z4 := hzc 4
        simp only [List.getElem?_toArray, List.getElem?_cons_zero, List.getElem?_cons_succ] at z0 z3 z4
        generalize W2.alloc (.cells #[.int .i64 (τ : Int), .int .i64 (jb C.js p).a, .int .i64 (jb C.js p).r, .int .i64 (jb C.js p).k, .slice A (jb C.js p).c.length cc] 46) = W3 at *
        generalize hnb : W2.heap.size = nb at *
        have l2 : C.bx < nb := by rw [← hnb]; exact World.block_lt_of_cell? W2 _ d2
        have y2 := (hb23.cell (p := ⟨C.bx, 2, none⟩) l2).trans d2
        have y3 := (hb23.cell (p := ⟨C.bx, 3, none⟩) l2).trans d3
        have HB23 := Lib.hid hb23
        have HNB := Lib.hid hnb
        obtain ⟨N, f, hQ1, hN⟩ := HE1.out.qs τ hτl
        simp only at hQ1
        have hQ3 := (hQ1.kt KX.out (by decide)).kt (KT.of (S := []) (by rw [hnb]; exact hb23)) (by simp)
        have HQ3 := Lib.hid hQ3
        have ti0 : (0 : Int) ≤ (τ : Int) := by omega
        have ti1 : (τ : Int) < (C.ts.length : Int) := by omega
        clear d0 d2 d3 k0 k1 k2 k3 k4 kld hzc hb23 hQ1 hQ3 hnb
        go_upto_region 4 with (fail)
        go_quiet (fail)
        have hB24 : Below nb W2 (W3.drewN nq) := HB23.out.trans ((below_drewN2 W3 nq).mono (by have := HB23.out.size; have := HNB.out; omega))
        have HJB : Hid (∃ cs, (W3.drewN nq).drew.heap[nb]? = some (Obj.cells cs 46 (0, 0))) := HJB
        have HQ4 := Lib.hid (HQ3.out.kt (KT.of (S := []) (below_drewN2 W3 nq)) (by simp))
        have z0' : (W3.drewN nq).cell? ⟨nb, 0, none⟩ = some (.int .i64 (τ : Int)) := z0
        have z3' : (W3.drewN nq).cell? ⟨nb, 3, none⟩ = some (.int .i64 (jb C.js p).k) := z3
        have z4' : (W3.drewN nq).cell? ⟨nb, 4, none⟩ = some (.slice A (jb C.js p).c.length cc) := z4
        have y2' : (W3.drewN nq).cell? ⟨C.bx, 2, none⟩ = some (.pointer (some ⟨C.hb, 0, none⟩)) := y2
        have HB24 := Lib.hid hB24
        clear z0 z3 z4 y2 y3 hB24 HQ3 HB23
        generalize W3.drewN nq = W4 at *
        have LN := len_anyP W4 HQ4.out
        rw [List.length_map] at LN
        by_cases h0 : quS C.js M.dn (C.o.take k) τ = []
        · rw [h0] at LN
          have LN := Lib.hid LN
          have HZ0 := Lib.hid h0
          clear h0
          obtain ⟨X, c, hH, hcm⟩ := HE1.out.hp
          simp only at hH hcm
          have bel4 : Below C.w0.heap.size C.w0 W4.drew := (BEL2.out.trans (HB24.out.mono (by rw [← HNB.out]; exact BEL2.out.size))).trans ((below_drew W4).mono (BEL2.out.trans (HB24.out.mono (by rw [← HNB.out]; exact BEL2.out.size))).size)
          have kt4 : KT [TX] W1 W4.drew := KX.out.trans (KT.of (by rw [HNB.out]; exact HB24.out.trans ((below_drew W4).mono (by have := HB24.out.size; have := HNB.out; omega))))
          have hH4 := hH.kt kt4 (by decide) HE1.out.bel bel4 hC.lb HE1.out.bl
          have hol := hC.ord.len
          rw [List.length_map] at hol
          have PU := Lib.hid (hpushI (x := (τ : Int)) hH4 ⟨τ, rfl, by rw [hC.ps, List.length_map]; exact hτl⟩ (by omega))
          have HH4 := Lib.hid hH4
          have KT4 := Lib.hid kt4
          have BEL4 := Lib.hid bel4
          have HCM2 := Lib.hid hcm
          clear hH hH4 kt4 bel4 hcm hol
          go_upto_region 6 with (go_at_call 64; (with_reducible refine LN.out.mono ?_); rintro e w1 ⟨rfl, rfl⟩)
          go_region_with (
            go_at_call 63; (with_reducible refine PU.out.mono ?_); rintro e W5 ⟨rfl, X', hH5, hK5, hX5⟩;
            have k23 : KT [THe, TTh] W4.drew W5 := KT.kept hK5 HH4.out.tys;
            obtain ⟨csj, hcsj⟩ := HJB.out;
            have z3'' := (k23.cell (b := nb) (i := 3) (v := .int .i64 0) hcsj (by decide)).trans z3';
            have z4'' := (k23.cell (b := nb) (i := 4) (v := .int .i64 0) hcsj (by decide)).trans z4';
            have hQV := (HQ4.out.kt (KT.of (S := []) (below_drew W4)) (by simp)).kt k23 (by decide);
            have bV : Below C.w0.heap.size C.w0 W5 := BEL4.out.trans (hK5.below BEL4.out.size (fun j hj => Nat.le_trans hC.Bh (HH4.out.ge j hj).1));
            have hbd : Below W2.heap.size W2 W4.drew := (by rw [HNB.out]; exact HB24.out.trans ((below_drew W4).mono (by have := HB24.out.size; have := HNB.out; omega)));
            have hHV : ∃ X c, HsI C.K C.Bh W5 C.hb X c (LS C { M with m := k, L := L } τ) ∧ c ≤ k + 1 := ⟨X', c + 1, (by unfold LS; rw [if_pos HZ0.out]; exact hH5), (by have := HCM2.out; omega)⟩;
            have hb6 : Below W5.heap.size W5 (W5.alloc (.cells #[.int .i64 (p : Int), .int .i64 (jb C.js p).k, .slice A (jb C.js p).c.length cc] TRe)) := (Below.refl _ _).alloc (Nat.le_refl _) _;
            have hQ6 := hQV.kt (KT.of (S := []) hb6) (by simp);
            have PP := Lib.hid (qpushP W5.heap.size _ hQ6 hN);
            have HQ6 := Lib.hid hQ6;
            have HHV := Lib.hid hHV;
            have BV := Lib.hid bV;
            have K23 := Lib.hid k23;
            have HBD := Lib.hid hbd;
            clear z0' z3' z4' y2' hcsj hH5 hK5 hX5 hQV hQ6 hb6 hHV bV k23 hbd)
          all_goals
            go_wp2_with (go_at_call 65; (with_reducible refine PP.out.mono ?_); rintro e W7 ⟨rfl, v', f', hQ7, hK7, hF7, hX7⟩)
            have hkp : kO M.dn p < (jb C.js p).k := by rw [HZ.out p (hmd p (by rw [HD.out]; simp))]; have := hC.lg.k1 p hpl; omega
            have hNr : roomUp N ((quS C.js M.dn (C.o.take k) τ).map rb).length ≤ 2004 := by
              have h1 := quS_len (js := C.js) (dn := M.dn) (l := C.o.take k) (τ := τ)
              have h2 : (C.o.take k).length ≤ C.o.length := by rw [List.length_take]; exact Nat.min_le_right _ _
              have h3 := hC.ord.len
              rw [List.length_map] at h3
              rw [List.length_map]
              unfold roomUp
              split
              · omega
              · exact hN
            have fin := HE1.out.rel (v' := v') (A := A) (cc := cc) hC HD.out HT.out hτl hkp (lfN_zero hC (HZ.out p (hmd p (by rw [HD.out]; simp)))) HF.out.s (fun _ => ⟨_, HW2.out.symm, HCM.out⟩) HBD.out K23.out BV.out HHV.out rfl HQ6.out hQ7 hNr hK7 hF7 hX7
            obtain ⟨vc2, rb2, rv2, hE2⟩ := fin
            have hd2 := hI.out.hd.rel (M := { M with m := k, L := L }) hC HD.out HT.out hkp hτl
            have hlo2 : ∀ q ∈ C.o.take (k + 1), (jb C.js q).r ≤ M.now := by
              have hpo : C.o[k]? = some p := by rw [← List.head?_drop, HD.out]; rfl
              rw [take_one hpo]
              intro q hq
              rcases List.mem_append.1 hq with hq | hq
              · exact hI.out.lo q hq
              · rw [List.mem_singleton.1 hq]; exact hr
            have hk1 : k + 1 ≤ C.o.length := by
              have := congrArg List.length HD.out
              rw [List.length_drop] at this
              simp at this; omega
            have FIN := Lib.hid (show RlI C M (k + 1) (LS C { M with m := k, L := L } τ) W7 from ⟨⟨vc2, vs, ve, rb2, rv2, hE2⟩, hd2, hk1, by have := hI.out.ge; omega, hlo2⟩)
            clear hE2 hd2 hlo2 hQ7 hK7 hF7 hX7
            go_roundg (gk - 1)
            case measure => omega
            case rel => exact ⟨k + 1, _, by omega, hk1, FIN⟩
        · have hne : ((((quS C.js M.dn (C.o.take k) τ).length : Nat) : Int) == 0) = false := by
            rw [beq_eq_false_iff_ne]
            intro hh
            exact h0 (List.eq_nil_of_length_eq_zero (by omega))
          have LN := Lib.hid LN
          have HZ0 := Lib.hid h0
          clear h0
          go_upto_region 7 with (go_at_call 64; (with_reducible refine LN.out.mono ?_); rintro e w1 ⟨rfl, rfl⟩)
          have k23 : KT [THe, TTh] W4 W4 := KT.refl _ _
          have hQV := HQ4.out
          have hbd : Below W2.heap.size W2 W4 := by rw [HNB.out]; exact HB24.out
          have bV : Below C.w0.heap.size C.w0 W4 := BEL2.out.trans (HB24.out.mono (by rw [← HNB.out]; exact BEL2.out.size))
          obtain ⟨X, c, hH, hcm⟩ := HE1.out.hp
          simp only at hH hcm
          have hHV : ∃ X c, HsI C.K C.Bh W4 C.hb X c (LS C { M with m := k, L := L } τ) ∧ c ≤ k + 1 := ⟨X, c, by unfold LS; rw [if_neg HZ0.out]; exact hH.kt (KX.out.trans (KT.of (by rw [HNB.out]; exact HB24.out))) (by decide) HE1.out.bel bV hC.lb HE1.out.bl, by omega⟩
          clear hH hcm
          have hb6 : Below W4.heap.size W4 (W4.alloc (.cells #[.int .i64 (p : Int), .int .i64 (jb C.js p).k, .slice A (jb C.js p).c.length cc] TRe)) := (Below.refl _ _).alloc (Nat.le_refl _) _
          have hQ6 := hQV.kt (KT.of (S := []) hb6) (by simp)
          have PP := Lib.hid (qpushP W4.heap.size _ hQ6 hN)
          have HQ6 := Lib.hid hQ6
          have HHV := Lib.hid hHV
          have BV := Lib.hid bV
          have K23 := Lib.hid k23
          have HBD := Lib.hid hbd
          clear hQV hQ6 hb6 hHV bV k23 hbd
          go_wp2_with (go_at_call 65; (with_reducible refine PP.out.mono ?_); rintro e W7 ⟨rfl, v', f', hQ7, hK7, hF7, hX7⟩)
          have hkp : kO M.dn p < (jb C.js p).k := by rw [HZ.out p (hmd p (by rw [HD.out]; simp))]; have := hC.lg.k1 p hpl; omega
          have hNr : roomUp N ((quS C.js M.dn (C.o.take k) τ).map rb).length ≤ 2004 := by
            have h1 := quS_len (js := C.js) (dn := M.dn) (l := C.o.take k) (τ := τ)
            have h2 : (C.o.take k).length ≤ C.o.length := by rw [List.length_take]; exact Nat.min_le_right _ _
            have h3 := hC.ord.len
            rw [List.length_map] at h3
            rw [List.length_map]
            unfold roomUp
            split
            · omega
            · exact hN
          have fin := HE1.out.rel (v' := v') (A := A) (cc := cc) hC HD.out HT.out hτl hkp (lfN_zero hC (HZ.out p (hmd p (by rw [HD.out]; simp)))) HF.out.s (fun _ => ⟨_, HW2.out.symm, HCM.out⟩) HBD.out K23.out BV.out HHV.out rfl HQ6.out hQ7 hNr hK7 hF7 hX7
          obtain ⟨vc2, rb2, rv2, hE2⟩ := fin
          have hd2 := hI.out.hd.rel (M := { M with m := k, L := L }) hC HD.out HT.out hkp hτl
          have hlo2 : ∀ q ∈ C.o.take (k + 1), (jb C.js q).r ≤ M.now := by
            have hpo : C.o[k]? = some p := by rw [← List.head?_drop, HD.out]; rfl
            rw [take_one hpo]
            intro q hq
            rcases List.mem_append.1 hq with hq | hq
            · exact hI.out.lo q hq
            · rw [List.mem_singleton.1 hq]; exact hr
          have hk1 : k + 1 ≤ C.o.length := by
            have := congrArg List.length HD.out
            rw [List.length_drop] at this
            simp at this; omega
          have FIN := Lib.hid (show RlI C M (k + 1) (LS C { M with m := k, L := L } τ) W7 from ⟨⟨vc2, vs, ve, rb2, rv2, hE2⟩, hd2, hk1, by have := hI.out.ge; omega, hlo2⟩)
          clear hE2 hd2 hlo2 hQ7 hK7 hF7 hX7
          go_roundg (gk - 1)
          case measure => omega
          case rel => exact ⟨k + 1, _, by omega, hk1, FIN⟩
      · have hq : (decide ((jb C.js p).r - M.now ≤ 0)) = false := decide_eq_false (by omega)
        have hrl := rel_done hC hkl hI.out.lo (fun p' r' e => by rw [hd] at e; injection e with e1 e2; subst e1; omega)
        have HR := Lib.hid hrl
        have Q := Lib.hid Q
        rw [hd, ln] at c1
        clear hE hc hl hg hd hrl hr hrel
        go_wp2_with (go_at_call 51; (with_reducible refine Q.out.mono ?_); rintro e w1 ⟨rfl, nq, rfl⟩)
        go_end0
        refine ⟨rfl, k, L, ⟨⟨_, vs, ve, rb, rv, HE.out.later hC (below_drewN2 wr nq)⟩, hI.out.hd, hI.out.le, hI.out.ge, hI.out.lo⟩, HR.out⟩
end Go.Proofs.YtkpackbbahodcaaGreat
/- A span more, or a longer one. -/
namespace Go.Proofs.YtkpackbbahodcaaGreat
open Go.RowKit
set_option linter.unusedVariables false
set_option linter.unusedSimpArgs false
attribute [local go_sem ↓] Go.wp_at_zero Go.wp_at_succ
theorem infoSp : (Tryz.prog.info? TSp).map (fun i => (i.zero, i.size, i.bytes)) = some (some (.agg #[.int .i64 0, .int .i64 0, .int .i64 0]), 3, 24) := by kernel_rfl
def snL (x : Spn) : List Value := [.int .i64 (x.j : Int), .int .i64 x.f, .int .i64 x.t]
theorem spC_app (a b : List Spn) : spC (a ++ b) = spC a ++ spC b := by simp [spC]
theorem spC_one (x : Spn) : spC [x] = snL x := rfl
theorem spC_len : ∀ l : List Spn, (spC l).length = l.length * 3
  | [] => rfl
  | x :: l => by
    have := spC_len l
    rw [show x :: l = [x] ++ l from rfl, spC_app, List.length_append, this, List.length_append]
    simp [spC_one, snL]; omega
theorem step_appS {ops : Array Oper} {o : Oper} {a : Act} {w : World} {K : Act → World → Prop} {Q : Exit → Act → World → Prop} {E : Prop}
    (hg : o.guard = none) (s x : Operand) (hop : o.op = Op.call { callee := Callee.builtin Builtin.append, args := #[s, x], argTypes := #[30, 30] })
    (base : Nat) (v : Value) (n : Nat) (xs : List Value) (hs : a.eval s = v) (hown : w.ownsRow base TSp 3 v n xs)
    (ad : Addr) (news : List Value) (hx : a.eval x = .slice (some ad) 1 1) (hn : news.length = 3) (hc : ∀ j u, news[j]? = some u → w.cell? (ad.add j) = some u) (h1c : ∀ u ∈ news, u.oneCell' = true)
    (b1 : n ≤ 1000000001) (hbase : base ≤ w.heap.size)
    (hK : ∀ v' w', w'.ownsRow base TSp 3 v' (n + 1) (xs ++ news) → w.grownBy w' v.ownBlock → K (a.put o.dst v') w') :
    if Region.wanted o (yielded ops a.tmps) = true then Oper.wp Tryz.prog o a w K Q else E := by
  have hw : Region.wanted o (yielded ops a.tmps) = true := by simp [Region.wanted, hg]
  rw [if_pos hw]
  obtain ⟨i0, hi, hz0, hz1, hz2⟩ := info_parts infoSp
  obtain ⟨v', w', hrun, r1, r2, _⟩ := run_append_own (P := Tryz.prog) w base 30 o.type TSp i0 _ 3 24 Tryz.underlying30 hi hz0 hz1 hz2 rfl (by omega) v n xs hown ad 1 1 news (by omega) hc h1c (by unfold maxLen; omega) (by omega) hbase
  unfold Oper.wp
  simp [execOp, hop, resolve, invoke, builtin, hs, hx, hrun, Result.andThen]
  exact hK v' w' r1 r2
theorem sp_new (w : World) (x : Spn) : ∀ j u, (snL x)[j]? = some u → (w.alloc (.cells #[.int .i64 (x.j : Int), .int .i64 x.f, .int .i64 x.t] TSp)).cell? ((⟨w.heap.size, 0, none⟩ : Addr).add j) = some u := by
  intro j u hj
  rw [add_none, Nat.zero_add, cell_of_row _ _ j _ _ _ (heap_alloc_new w _)]
  simpa [snL] using hj
theorem sp_one (x : Spn) : ∀ u ∈ snL x, u.oneCell' = true := by
  intro u hu
  simp only [snL, List.mem_cons, List.not_mem_nil, or_false] at hu
  rcases hu with rfl | rfl | rfl <;> rfl
theorem sp_set (l : List Spn) (x : Spn) (t : Int) : (spC (l ++ [x])).set (l.length * 3 + 2) (.int .i64 t) = spC (l ++ [⟨x.j, x.f, t⟩]) := by
  rw [spC_app, spC_app, List.set_append_right _ _ (by rw [spC_len]; omega), spC_len]
  congr 1
  rw [show l.length * 3 + 2 - l.length * 3 = 2 by omega]
  rfl
section
variable {C : Cfg} {w w' : World} {M : Mv} {vc vs ve : Value} {rb : Nat → Nat} {rv : Nat → Value} {lf : Nat → Int × List Int}
def ExT (C : Cfg) (M : Mv) (vc ve : Value) (rb : Nat → Nat) (rv : Nat → Value) (lf : Nat → Int × List Int) (e : Ending) (w' : World) : Prop := e = .returned (.tuple #[]) ∧ ∃ vs, Ex C w' M vc vs ve rb rv lf
/-- Where only spans turn. -/
theorem Ex.span (h : Ex C w M vc vs ve rb rv lf) (hC : Cok C) (k : KT [TX, TSp] w w') (b' : Below C.w0.heap.size C.w0 w') {vs' : Value} {sp' : List Spn}
    (hbox : w'.heap[C.bx]? = some (.cells #[.slice C.R C.js.length C.rc, vc, .pointer (some ⟨C.hb, 0, none⟩), .slice (some ⟨C.gq, 0, none⟩) C.ts.length C.ts.length, .int .i64 M.now, vs', ve] TX (0, 0)))
    (hs : w'.ownsRow C.w0.heap.size TSp 3 vs' sp'.length (spC sp')) : Ex C w' { M with sp := sp' } vc vs' ve rb rv lf := by
  refine ⟨b', hbox, h.com.kt k (by decide), hs, k.row h.ens (by decide), ?_, ?_, fun τ hτ => ?_, h.qd, fun p hp hk => (h.rs p hp hk).kt k (by decide), h.rd⟩
  · obtain ⟨X, c, h1, h2⟩ := h.hp
    exact ⟨X, c, h1.kt k (by decide) h.bel b' hC.lb h.bl, h2⟩
  · obtain ⟨cs, hc⟩ := h.bl
    exact ⟨cs, k.blk _ _ _ hc (by decide)⟩
  · obtain ⟨N, f, h1, h2⟩ := h.qs τ hτ
    exact ⟨N, f, h1.kt k (by decide), h2⟩
/-- The last span grows. -/
theorem Ex.grow {l : List Spn} {x : Spn} {g cap : Nat} (h : Ex C w M vc (.slice (some ⟨g, 0, none⟩) (l.length + 1) cap) ve rb rv lf) (hC : Cok C) (hsp : M.sp = l ++ [x]) (t : Int) :
    Ex C (w.setCell ⟨g, l.length * 3 + 2, none⟩ (.int .i64 t)) { M with sp := l ++ [⟨x.j, x.f, t⟩] } vc (.slice (some ⟨g, 0, none⟩) (l.length + 1) cap) ve rb rv lf := by
  have hs := h.spn
  rw [hsp] at hs
  obtain ⟨cs, hcs⟩ := own_ty hs (g := g) rfl
  have hne : C.bx ≠ g := fun e => by
    have := h.box
    rw [e, hcs] at this
    simp only [Option.some.injEq, Obj.cells.injEq] at this
    exact absurd this.2.1 (by decide)
  have hg := (hs.lt g rfl).1
  refine h.span hC (KT.set hcs (by simp)) (below_set h.bel hg h.bel.size) ?_ ?_
  · rw [Below.heap_setCell _ _ _ _ (by simpa using hne)]; exact h.box
  · have h2 : (l ++ [x]).length = l.length + 1 := by simp
    have h3 := own_set hs (g := g) rfl (i := l.length * 3 + 2) (by rw [h2]; omega) (.int .i64 t)
    rw [sp_set] at h3
    simpa using h3
/-- A new span. -/
theorem Ex.more {vs2 : Value} {w1 w2 : World} {x : Spn} (h : Ex C w M vc vs ve rb rv lf) (hC : Cok C) (hB : Below w.heap.size w w1) (hown : w2.ownsRow C.w0.heap.size TSp 3 vs2 (M.sp.length + 1) (spC M.sp ++ snL x)) (hg : w1.grownBy w2 vs.ownBlock) :
    (w2.cell? ⟨C.bx, 4, none⟩ = some (.int .i64 M.now) ∧ w2.cell? ⟨C.bx, 5, none⟩ = some vs ∧ ∀ i, w2.frozen? ⟨C.bx, i, none⟩ = false) ∧
    Ex C (w2.setCell ⟨C.bx, 5, none⟩ vs2) { M with sp := M.sp ++ [x] } vc vs2 ve rb rv lf := by
  have h1 := h.later hC hB
  have hsp := h1.spn
  have hk : Kept vs.ownBlock.toList w1 w2 := kept_grown hg (fun k hk => by simp [hk])
  have kt : KT [TX, TSp] w1 w2 := KT.kept hk (fun k hm => by
    obtain ⟨cs, hc⟩ := own_ty hsp (g := k) (by simpa using hm)
    exact ⟨cs, _, hc, by simp⟩)
  have hbox2 : w2.heap[C.bx]? = some (.cells #[.slice C.R C.js.length C.rc, vc, .pointer (some ⟨C.hb, 0, none⟩), .slice (some ⟨C.gq, 0, none⟩) C.ts.length C.ts.length, .int .i64 M.now, vs, ve] TX (0, 0)) := by
    refine (hk.block C.bx (Array.getElem?_eq_some_iff.1 h1.box).1 (fun hm => ?_)).trans h1.box
    exact own_ne hsp h1.box (by decide) (by simpa using hm)
  have kt2 : KT [TX, TSp] w1 (w2.setCell ⟨C.bx, 5, none⟩ vs2) := kt.trans (KT.set hbox2 (by simp))
  have b2 : Below C.w0.heap.size C.w0 w2 := h1.bel.trans (hk.below h1.bel.size (fun k hm => (hsp.lt k (by simpa using hm)).1))
  refine ⟨⟨cell_of_row w2 C.bx 4 _ _ _ hbox2, cell_of_row w2 C.bx 5 _ _ _ hbox2, fun i => by simp [World.frozen?, hbox2]⟩, h1.span hC kt2 (below_set b2 hC.bx b2.size) (heap_setCell_same _ _ 5 _ _ _ hbox2) ?_⟩
  have hne : ∀ g, vs2.ownBlock = some g → g ∉ [C.bx] := fun g hg2 => by
    rw [List.mem_singleton]
    intro e
    subst e
    exact own_ne hown hbox2 (by decide) hg2
  have := ((Kept.refl [C.bx] w2).set C.bx 5 vs2 (by simp)).row hown hne
  rw [List.length_append, spC_app]
  exact this
set_option maxRecDepth 100000 in
set_option maxHeartbeats 8000000 in
theorem tell_grow {i : Nat} {l : List Spn} {x : Spn} {n : Int} (hC : Cok C) (h : Ex C w M vc vs ve rb rv lf) (hsp : M.sp = l ++ [x]) (hx : x.j = i) (hb : l.length ≤ 1000000000) (hi : i ≤ 1000000) (ht : 0 ≤ x.t) (hn : 0 ≤ n) (hs : x.t + n ≤ 9223372036854775807) :
    Calls Tryz.prog 68 #[.pointer (some ⟨C.bx, 0, none⟩), .int .i64 (i : Int), .int .i64 n] w (ExT C { M with sp := l ++ [⟨i, x.f, x.t + n⟩] } vc ve rb rv lf) := by
  subst hx
  have hown := h.spn
  have hlen : M.sp.length = l.length + 1 := by rw [hsp]; simp
  obtain ⟨g, cap, rfl, hBg, hgl, hle, hmx, hfz⟩ := own_form hown (by omega)
  rw [hlen] at h hown hle
  have hu : ∀ j u, (snL x)[j]? = some u → w.cell? ⟨g, l.length * 3 + j, none⟩ = some u := fun j u hj => own_cell hown rfl (by
    rw [hsp, spC_app, List.getElem?_append_right (by rw [spC_len]; omega), spC_len]
    rw [show l.length * 3 + j - l.length * 3 = j by omega]; exact hj)
  have u0 := hu 0 _ rfl
  have u2 := hu 2 _ rfl
  have c5 := h.c5
  have f2 := hfz (l.length * 3 + 2)
  have G := Lib.hid (h.grow hC hsp (x.t + n))
  have hw2 : wrap64 (x.t + n) = x.t + n := wrap64_in (by omega)
  have i0 : (0 : Int) ≤ (l.length : Int) := by omega
  have i1 : (l.length : Int) < ((l.length + 1 : Nat) : Int) := by omega
  have i2 : ((l.length + 1 : Nat) : Int) - 1 = (l.length : Int) := by omega
  unfold maxLen at hmx
  rw [Nat.add_zero] at u0
  generalize l.length = m at *
  clear h hown hu hfz hlen hsp
  go_enter Tryz.func68, Tryz.ntmps68
  go_wp2
  refine bodyPost_ret (results_none rfl _ _ _) rfl ?_
  exact ⟨rfl, _, G.out⟩
set_option maxRecDepth 100000 in
set_option maxHeartbeats 8000000 in
theorem tell_first {i : Nat} {n : Int} (hC : Cok C) (h : Ex C w M vc vs ve rb rv lf) (hsp : M.sp = []) (hi : i ≤ 1000000) (ht : 0 ≤ M.now) (hn : 0 ≤ n) (hs : M.now + n ≤ 9223372036854775807) :
    Calls Tryz.prog 68 #[.pointer (some ⟨C.bx, 0, none⟩), .int .i64 (i : Int), .int .i64 n] w (ExT C { M with sp := [⟨i, M.now, M.now + n⟩] } vc ve rb rv lf) := by
  have hown := h.spn
  have hlen : M.sp.length = 0 := by rw [hsp]; rfl
  obtain ⟨A, cap, rfl, hle, hmx⟩ := own_len hown
  rw [hlen] at h hown
  have c4 := h.c4
  have c5 := h.c5
  have hbel := h.bel.size
  have hw2 : wrap64 (M.now + n) = M.now + n := wrap64_in (by omega)
  unfold maxLen at hmx
  have hbl : C.bx < w.heap.size := World.block_lt_of_cell? w _ c4
  have H := Lib.hid h
  have HS := Lib.hid hsp
  clear h hsp hlen
  go_enter Tryz.func68, Tryz.ntmps68
  go_upto_region 2 with (fail)
  have O1 := Lib.hid (H.out.later hC ((below_drew w).trans ((Below.refl _ w.drew).alloc (Nat.le_refl _) (.cells #[.int .i64 (i : Int), .int .i64 M.now, .int .i64 M.now] TSp))))
  have BW := Lib.hid ((below_drew w).trans ((Below.refl _ w.drew).alloc (Nat.le_refl _) (.cells #[.int .i64 (i : Int), .int .i64 M.now, .int .i64 M.now] TSp)))
  go_region_law (first
    | (refine step_appS rfl _ _ rfl C.w0.heap.size (.slice A 0 cap) 0 (spC M.sp) rfl (by have := O1.out.spn; rw [HS.out] at this ⊢; exact this) ⟨w.heap.size, 0, none⟩ (snL ⟨i, M.now, M.now⟩) rfl rfl (sp_new w.drew ⟨i, M.now, M.now⟩) (sp_one ⟨i, M.now, M.now⟩) (by omega) (Nat.le_trans hbel (by simp)) ?_
       intro v2 w2 hown2 hg2
       have MO := H.out.more (x := ⟨i, M.now, M.now⟩) hC BW.out (by rw [HS.out] at hown2 ⊢; exact hown2) hg2
       obtain ⟨g2, cap2, rfl, -, hgl2, hle2, hmx2, -⟩ := own_form hown2 (by omega)
       obtain ⟨⟨d4, d5, fz⟩, MO⟩ := MO
       have f5 := fz 5))
  all_goals
    obtain ⟨W, hW⟩ : ∃ W, w2.setCell ⟨C.bx, 5, none⟩ (.slice (some ⟨g2, 0, none⟩) (0 + 1) cap2) = W := ⟨_, rfl⟩
    rw [hW] at MO
    rw [hW]
    clear hW f5 fz d4 d5 hown2 hg2
    have m5 := MO.c5
    have hsn := MO.spn
    have u2 : W.cell? ⟨g2, 2, none⟩ = some (.int .i64 M.now) := own_cell hsn rfl (by rw [HS.out] <;> rfl)
    have f2 : W.frozen? ⟨g2, 2, none⟩ = false := by
      obtain ⟨cs, hcs⟩ := own_ty hsn (g := g2) rfl
      simp [World.frozen?, hcs]
    have G := Lib.hid (show Ex C (W.setCell ⟨g2, 2, none⟩ (.int .i64 (M.now + n))) { M with sp := [⟨i, M.now, M.now + n⟩] } vc (.slice (some ⟨g2, 0, none⟩) 1 cap2) ve rb rv lf from
      MO.grow (l := []) (x := ⟨i, M.now, M.now⟩) hC (by rw [HS.out] <;> rfl) (M.now + n))
    clear MO hsn
    go_wp2
    refine bodyPost_ret (results_none rfl _ _ _) rfl ?_
    exact ⟨rfl, _, G.out⟩
set_option maxRecDepth 100000 in
set_option maxHeartbeats 8000000 in
theorem tell_other {i : Nat} {n : Int} {l : List Spn} {x : Spn} (hC : Cok C) (h : Ex C w M vc vs ve rb rv lf) (hsp : M.sp = l ++ [x]) (hx : x.j ≠ i) (hb : l.length ≤ 1000000000) (hi : i ≤ 1000000) (ht : 0 ≤ M.now) (hn : 0 ≤ n) (hs : M.now + n ≤ 9223372036854775807) :
    Calls Tryz.prog 68 #[.pointer (some ⟨C.bx, 0, none⟩), .int .i64 (i : Int), .int .i64 n] w (ExT C { M with sp := M.sp ++ [⟨i, M.now, M.now + n⟩] } vc ve rb rv lf) := by
  have hown := h.spn
  obtain ⟨m, hm⟩ : ∃ m, l.length = m := ⟨_, rfl⟩
  obtain ⟨q, hq⟩ : ∃ q, m + 1 = q := ⟨_, rfl⟩
  have hlen : M.sp.length = q := by rw [hsp, ← hq, ← hm]; simp
  obtain ⟨g, cap, rfl, hBg, hgl, hle, hmx, hfz⟩ := own_form hown (by omega)
  rw [hlen] at h hown hle
  have u0 : w.cell? ⟨g, m * 3, none⟩ = some (.int .i64 (x.j : Int)) := by
    have := own_cell hown (g := g) rfl (i := m * 3) (u := .int .i64 (x.j : Int)) (by
      rw [hsp, spC_app, List.getElem?_append_right (by rw [spC_len, hm]; exact Nat.le_refl _), spC_len, hm, Nat.sub_self]; rfl)
    exact this
  have hne1 : ¬ ((x.j : Int) = (i : Int)) := by omega
  have hne2 : ((x.j : Int) != (i : Int)) = true := by rw [bne_iff_ne]; exact hne1
  have hnt : (decide ((m : Int) < 0) || ((x.j : Int) != (i : Int))) = true := by rw [hne2, Bool.or_true]
  have i0 : (0 : Int) ≤ (m : Int) := by omega
  have i1 : (m : Int) < (q : Int) := by omega
  have i2 : (q : Int) - 1 = (m : Int) := by omega
  have i3 : (m : Int) + 1 = (q : Int) := by omega
  have i4 : (q : Int) < ((q + 1 : Nat) : Int) := by omega
  have i5 : (0 : Int) ≤ (q : Int) := by omega
  have hm6 : m ≤ 1000000000 := by omega
  have hq6 : q ≤ 1000000001 := by omega
  have c4 := h.c4
  have c5 := h.c5
  have hbel := h.bel.size
  have hw2 : wrap64 (M.now + n) = M.now + n := wrap64_in (by omega)
  unfold maxLen at hmx
  have hbl : C.bx < w.heap.size := World.block_lt_of_cell? w _ c4
  have H := Lib.hid h
  have HS := Lib.hid hlen
  have HF := Lib.hid hfz
  clear h hsp hlen hb hm hx hfz hq
  go_enter Tryz.func68, Tryz.ntmps68
  go_upto_region 2 with (fail)
  have O1 := Lib.hid (H.out.later hC ((below_drew w).trans ((Below.refl _ w.drew).alloc (Nat.le_refl _) (.cells #[.int .i64 (i : Int), .int .i64 M.now, .int .i64 M.now] TSp))))
  have BW := Lib.hid ((below_drew w).trans ((Below.refl _ w.drew).alloc (Nat.le_refl _) (.cells #[.int .i64 (i : Int), .int .i64 M.now, .int .i64 M.now] TSp)))
  go_region_law (first
    | (refine step_appS rfl _ _ rfl C.w0.heap.size (.slice (some ⟨g, 0, none⟩) q cap) q (spC M.sp) rfl (by have := O1.out.spn; rw [HS.out] at this; exact this) ⟨w.heap.size, 0, none⟩ (snL ⟨i, M.now, M.now⟩) rfl rfl (sp_new w.drew ⟨i, M.now, M.now⟩) (sp_one ⟨i, M.now, M.now⟩) (by omega) (Nat.le_trans hbel (by simp)) ?_
       intro v2 w2 hown2 hg2
       have MO := H.out.more (x := ⟨i, M.now, M.now⟩) hC BW.out (by rw [HS.out]; exact hown2) hg2
       obtain ⟨g2, cap2, rfl, -, hgl2, hle2, hmx2, -⟩ := own_form hown2 (by omega)
       obtain ⟨⟨d4, d5, fz⟩, MO⟩ := MO
       have f5 := fz 5))
  all_goals
    obtain ⟨W, hW⟩ : ∃ W, w2.setCell ⟨C.bx, 5, none⟩ (.slice (some ⟨g2, 0, none⟩) (q + 1) cap2) = W := ⟨_, rfl⟩
    rw [hW] at MO
    rw [hW]
    clear hW f5 fz d4 d5 hown2 hg2
    have m5 := MO.c5
    have hsn := MO.spn
    have u2 : W.cell? ⟨g2, q * 3 + 2, none⟩ = some (.int .i64 M.now) := own_cell hsn rfl (by rw [spC_app, List.getElem?_append_right (by rw [spC_len, HS.out]; omega), spC_len, HS.out, show q * 3 + 2 - q * 3 = 2 by omega]; rfl)
    have f2 : W.frozen? ⟨g2, q * 3 + 2, none⟩ = false := by
      obtain ⟨cs, hcs⟩ := own_ty hsn (g := g2) rfl
      simp [World.frozen?, hcs]
    have G := Lib.hid (show Ex C (W.setCell ⟨g2, q * 3 + 2, none⟩ (.int .i64 (M.now + n))) { M with sp := M.sp ++ [⟨i, M.now, M.now + n⟩] } vc (.slice (some ⟨g2, 0, none⟩) (q + 1) cap2) ve rb rv lf from
by
        have := Ex.grow (l := M.sp) (x := ⟨i, M.now, M.now⟩) (cap := cap2) (g := g2) (by rw [HS.out]; exact MO) hC rfl (M.now + n)
        rw [HS.out] at this
        exact this)
    clear MO hsn
    go_wp2
    refine bodyPost_ret (results_none rfl _ _ _) rfl ?_
    exact ⟨rfl, _, G.out⟩
theorem tell_any {i : Nat} {n : Int} (hC : Cok C) (h : Ex C w M vc vs ve rb rv lf) (hl : ∀ x, M.sp.getLast? = some x → x.j = i → x.t = M.now) (hb : M.sp.length ≤ 1000000000) (hi : i ≤ 1000000) (ht : 0 ≤ M.now) (hn : 0 ≤ n) (hs : M.now + n ≤ 9223372036854775807) :
    Calls Tryz.prog 68 #[.pointer (some ⟨C.bx, 0, none⟩), .int .i64 (i : Int), .int .i64 n] w (ExT C { M with sp := addN M.sp i M.now n } vc ve rb rv lf) := by
  rcases List.eq_nil_or_concat M.sp with h0 | ⟨l, x, h0⟩
  · have := tell_first hC h h0 hi ht hn hs
    unfold addN
    rw [h0]
    exact this
  · rw [List.concat_eq_append] at h0
    have hlen : l.length + 1 = M.sp.length := by rw [h0]; simp
    by_cases hx : x.j = i
    · have ht2 := hl x (by rw [h0]; simp) hx
      have := tell_grow hC h h0 hx (by omega) hi (by omega) hn (by omega)
      unfold addN
      rw [h0, List.getLast?_concat]
      simp only [hx, ht2, and_self, if_true, List.dropLast_concat]
      rw [ht2] at this
      exact this
    · have := tell_other hC h h0 hx (by omega) hi ht hn hs
      unfold addN
      rw [h0, List.getLast?_concat]
      simp only [hx, false_and, if_false]
      rw [h0] at this
      exact this
end
end Go.Proofs.YtkpackbbahodcaaGreat
/- A job leaves: what stands in memory behind it. -/
namespace Go.Proofs.YtkpackbbahodcaaGreat
open Go.RowKit
set_option linter.unusedVariables false
set_option linter.unusedSimpArgs false
attribute [local go_sem ↓] Go.wp_at_zero Go.wp_at_succ
section
variable {C : Cfg} {w w' w1 w2 : World} {M : Mv} {vc vs ve : Value} {rb : Nat → Nat} {rv : Nat → Value} {lf : Nat → Int × List Int}
theorem quS_same {js : List Fv} {dn dn' : List Int} {l : List Nat} {τ : Nat} (h : ∀ p ∈ l, (kO dn' p < (jb js p).k ↔ kO dn p < (jb js p).k)) : quS js dn' l τ = quS js dn l τ := by
  unfold quS
  refine List.filter_congr fun p hp => ?_
  congr 1
  exact decide_eq_decide.2 (h p hp)
theorem Ex.dn {dn' : List Int} (h : Ex C w M vc vs ve rb rv lf) (hq : ∀ p ∈ C.o.take M.m, (kO dn' p < (jb C.js p).k ↔ kO M.dn p < (jb C.js p).k)) : Ex C w { M with dn := dn' } vc vs ve rb rv lf :=
  ⟨h.bel, h.box, h.com, h.spn, h.ens, h.hp, h.bl, fun τ hτ => by
    obtain ⟨N, f, h1, h2⟩ := h.qs τ hτ
    exact ⟨N, f, by rw [quS_same hq]; exact h1, h2⟩, h.qd, fun p hp hk => h.rs p hp ((hq p hp).1 hk), fun p q hp hk hq' hk' hne => h.rd p q hp ((hq p hp).1 hk) hq' ((hq q hq').1 hk') hne⟩
theorem Hd.dn {dn' : List Int} {L : List Int} (h : Hd C.ts C.js M.dn (C.o.take M.m) L) (hq : ∀ p ∈ C.o.take M.m, (kO dn' p < (jb C.js p).k ↔ kO M.dn p < (jb C.js p).k)) : Hd C.ts C.js dn' (C.o.take M.m) L :=
  ⟨h.srt, fun τ => by rw [quS_same hq]; exact h.mem τ, h.nat⟩
theorem Ex.lfs {lf' : Nat → Int × List Int} (h : Ex C w M vc vs ve rb rv lf) (hq : ∀ p ∈ C.o.take M.m, kO M.dn p < (jb C.js p).k → lf' p = lf p) : Ex C w M vc vs ve rb rv lf' :=
  ⟨h.bel, h.box, h.com, h.spn, h.ens, h.hp, h.bl, h.qs, h.qd, fun p hp hk => by rw [hq p hp hk]; exact h.rs p hp hk, h.rd⟩
/-- What is left of one job is told anew. -/
theorem Ex.rest {i : Nat} {k : Int} {c : List Int} (h : Ex C w M vc vs ve rb rv lf) (hC : Cok C) (hi : i ∈ C.o.take M.m) (hk : kO M.dn i < (jb C.js i).k) (hK : Kept [rb i] w w') (hr : Rst C.w0 w' (rb i) i k c) : Ex C w' M vc vs ve rb rv (fun q => if q = i then (k, c) else lf q) := by
  have hR := h.rs i hi hk
  obtain ⟨A, cc, hA, hcr⟩ := hR.is
  have kt : KT [TRe] w w' := KT.kept hK (fun j hj => by rw [List.mem_singleton.1 hj]; exact ⟨_, _, hA, by simp⟩)
  have b' : Below C.w0.heap.size C.w0 w' := h.bel.trans (hK.below h.bel.size (fun j hj => by rw [List.mem_singleton.1 hj]; exact hR.ge))
  refine ⟨b', kt.blk _ _ _ h.box (by decide), h.com.kt kt (by decide), kt.row h.spn (by decide), kt.row h.ens (by decide), ?_, ?_, fun τ hτ => ?_, h.qd, fun p hp hpk => ?_, h.rd⟩
  · obtain ⟨X, c, h1, h2⟩ := h.hp
    exact ⟨X, c, h1.kt kt (by decide) h.bel b' hC.lb h.bl, h2⟩
  · obtain ⟨cs, hc⟩ := h.bl
    exact ⟨cs, kt.blk _ _ _ hc (by decide)⟩
  · obtain ⟨N, f, h1, h2⟩ := h.qs τ hτ
    exact ⟨N, f, h1.kt kt (by decide), h2⟩
  · by_cases hpi : p = i
    · subst hpi
      simp only [if_true]
      exact hr
    · simp only [if_neg hpi]
      have hP := h.rs p hp hpk
      obtain ⟨A2, cc2, hA2, hcr2⟩ := hP.is
      exact ⟨hP.ge, A2, cc2, (hK.block _ (Array.getElem?_eq_some_iff.1 hA2).1 (by rw [List.mem_singleton]; exact h.rd p i hp hpk hi hk hpi)).trans hA2, hcr2⟩
/-- When a job ended is told. -/
theorem Ex.ends {i : Nat} {g : Nat} (h : Ex C w M vc vs ve rb rv lf) (hC : Cok C) (hg : ve.ownBlock = some g) (hi : i < C.js.length) (t : Int) : Ex C (w.setCell ⟨g, i, none⟩ (.int .i64 t)) { M with en := M.en.set i t } vc vs ve rb rv lf := by
  obtain ⟨cs, hcs⟩ := own_ty h.ens hg
  have hge := (h.ens.lt g hg).1
  have kt : KT [T64] w (w.setCell ⟨g, i, none⟩ (.int .i64 t)) := KT.set hcs (by simp)
  have b' : Below C.w0.heap.size C.w0 (w.setCell ⟨g, i, none⟩ (.int .i64 t)) := below_set h.bel hge h.bel.size
  refine ⟨b', kt.blk _ _ _ h.box (by decide), h.com.kt kt (by decide), kt.row h.spn (by decide), ?_, ?_, ?_, fun τ hτ => ?_, h.qd, fun p hp hpk => (h.rs p hp hpk).kt kt (by decide), h.rd⟩
  · have := own_set h.ens hg (i := i) (by omega) (.int .i64 t)
    have e : numL (M.en.set i t) = (numL M.en).set i (.int .i64 t) := by simp [numL, List.map_set]
    rw [e]; exact this
  · obtain ⟨X, c, h1, h2⟩ := h.hp
    exact ⟨X, c, h1.kt kt (by decide) h.bel b' hC.lb h.bl, h2⟩
  · obtain ⟨cs, hc⟩ := h.bl
    exact ⟨cs, kt.blk _ _ _ hc (by decide)⟩
  · obtain ⟨N, f, h1, h2⟩ := h.qs τ hτ
    exact ⟨N, f, h1.kt kt (by decide), h2⟩
/-- Who is left in the heap. -/
def LV (M : Mv) (rest : List Nat) : List Int := if rest = [] then M.L.tail else M.L
theorem quS_leave {i : Nat} {τ : Nat} {rest : List Nat} (hC : Cok C) (hl : C.js.length = M.dn.length) (hq : quS C.js M.dn (C.o.take M.m) τ = i :: rest) :
    quS C.js (M.dn.set i (jb C.js i).k) (C.o.take M.m) τ = rest ∧ ∀ σ, σ ≠ τ → quS C.js (M.dn.set i (jb C.js i).k) (C.o.take M.m) σ = quS C.js M.dn (C.o.take M.m) σ := by
  have hi : i ∈ quS C.js M.dn (C.o.take M.m) τ := by rw [hq]; simp
  obtain ⟨a1, a2, a3⟩ := quS_mem.1 hi
  have hil : i < C.js.length := hC.rel (List.mem_of_mem_take a1)
  have hnd : (C.o.take M.m).Nodup := hC.ord.nodup.sublist (List.take_sublist _ _)
  have hk : ∀ p, kO (M.dn.set i (jb C.js i).k) p = if p = i then (jb C.js i).k else kO M.dn p := fun p => kO_set p _ (by omega)
  have hf : ∀ σ, quS C.js (M.dn.set i (jb C.js i).k) (C.o.take M.m) σ = (quS C.js M.dn (C.o.take M.m) σ).filter (fun p => decide (p ≠ i)) := by
    intro σ
    unfold quS
    rw [List.filter_filter]
    refine List.filter_congr fun p hp => ?_
    rw [hk]
    by_cases h : p = i
    · subst h; simp
    · simp [h]
  refine ⟨?_, fun σ hσ => ?_⟩
  · rw [hf, hq, List.filter_cons_of_neg (by simp)]
    refine List.filter_eq_self.2 fun p hp => ?_
    have hn2 : (quS C.js M.dn (C.o.take M.m) τ).Nodup := hnd.sublist List.filter_sublist
    rw [hq] at hn2
    have := (List.nodup_cons.1 hn2).1
    simp
    rintro rfl
    exact this hp
  · rw [hf]
    refine List.filter_eq_self.2 fun p hp => ?_
    simp
    rintro rfl
    have := (quS_mem.1 hp).2.1
    omega
theorem Hd.leave {i τ : Nat} {r : List Int} {rest : List Nat} (hC : Cok C) (hl : C.js.length = M.dn.length) (h : Hd C.ts C.js M.dn (C.o.take M.m) M.L) (hL : M.L = (τ : Int) :: r) (hq : quS C.js M.dn (C.o.take M.m) τ = i :: rest) :
    Hd C.ts C.js (M.dn.set i (jb C.js i).k) (C.o.take M.m) (LV M rest) := by
  obtain ⟨h1, h2⟩ := quS_leave hC hl hq
  unfold LV
  by_cases h0 : rest = []
  · rw [if_pos h0, hL]
    have hs := h.srt
    rw [hL] at hs
    have hc := List.pairwise_cons.1 hs
    refine ⟨hc.2, fun σ => ?_, fun x hx => h.nat x (by rw [hL]; simp [show x ∈ r from hx])⟩
    by_cases hσ : σ = τ
    · subst hσ
      rw [h1, h0]
      simp only [List.tail_cons, ne_eq, not_true_eq_false, iff_false]
      intro hm
      have := hc.1 _ hm
      omega
    · rw [h2 σ hσ, ← h.mem σ, hL]
      simp only [List.tail_cons, List.mem_cons]
      constructor
      · exact .inr
      · rintro (hh | hh)
        · omega
        · exact hh
  · rw [if_neg h0]
    refine ⟨h.srt, fun σ => ?_, h.nat⟩
    by_cases hσ : σ = τ
    · subst hσ
      rw [h1, h.mem σ, hq]
      simp [h0]
    · rw [h2 σ hσ]; exact h.mem σ
theorem Ex.leave {i τ N f : Nat} {rest : List Nat} (hC : Cok C) (hl : C.js.length = M.dn.length) (h : Ex C w M vc vs ve rb rv lf) (hτ : τ < C.ts.length) (hq : quS C.js M.dn (C.o.take M.m) τ = i :: rest) (hlen : C.js.length = M.dn.length)
    (hQ0 : FQP C.w0.heap.size w C.gq (τ * 3) (rv τ) N f ((quS C.js M.dn (C.o.take M.m) τ).map rb)) (hN : N ≤ 2004) {f' : Nat} (hQ : FQP C.w0.heap.size w1 C.gq (τ * 3) (rv τ) N f' (rest.map rb)) (hK : Kept (blk C.gq (rv τ)) w w1) (hF : FrQ C.gq (τ * 3) w w1)
    (k12 : KT [THe, TTh] w1 w2) (b2 : Below C.w0.heap.size C.w0 w2) (hH : ∃ X c, HsI C.K C.Bh w2 C.hb X c (LV M rest) ∧ c ≤ M.m) :
    Ex C w2 { M with dn := M.dn.set i (jb C.js i).k, L := LV M rest } vc vs ve rb rv lf := by
  obtain ⟨h1, h2⟩ := quS_leave hC hl hq
  have hi : i ∈ quS C.js M.dn (C.o.take M.m) τ := by rw [hq]; simp
  obtain ⟨a1, a2, a3⟩ := quS_mem.1 hi
  have hil : i < C.js.length := hC.rel (List.mem_of_mem_take a1)
  have k01 : KT [TQu, TRi] w w1 := KT.kept hK hQ0.tys
  have k02 : KT [TQu, TRi, THe, TTh] w w2 := (k01.mono (by simp)).trans (k12.mono (by simp))
  have hsub : ∀ p, kO (M.dn.set i (jb C.js i).k) p < (jb C.js p).k → kO M.dn p < (jb C.js p).k := by
    intro p hp
    rw [kO_set _ _ (by omega)] at hp
    split at hp
    · rename_i e; subst e; omega
    · exact hp
  refine ⟨b2, k02.blk _ _ _ h.box (by decide), h.com.kt k02 (by decide), k02.row h.spn (by decide), k02.row h.ens (by decide), hH, ?_, fun σ hσ => ?_, h.qd, fun p hp hpk => (h.rs p hp (hsub p hpk)).kt k02 (by decide), fun p q hp hpk hq' hqk hne => h.rd p q hp (hsub p hpk) hq' (hsub q hqk) hne⟩
  · obtain ⟨cs, hc⟩ := h.bl
    exact ⟨cs, k02.blk _ _ _ hc (by decide)⟩
  · by_cases hσt : σ = τ
    · subst hσt
      exact ⟨N, f', by rw [h1]; exact hQ.kt k12 (by decide), hN⟩
    · obtain ⟨N', f2, hq1, hq2⟩ := h.qs σ hσ
      exact ⟨N', f2, by rw [h2 σ hσt]; exact (hq1.other hK hF (by omega) hQ.row (fun g hg => h.qd σ τ g hσ hτ hσt hg)).kt k12 (by decide), hq2⟩
set_option maxRecDepth 100000 in
set_option maxHeartbeats 8000000 in
theorem leave_any {i τ : Nat} {r : List Int} {rest : List Nat} (hC : Cok C) (hl : C.js.length = M.dn.length) (h : Ex C w M vc vs ve rb rv lf) (hL : M.L = (τ : Int) :: r) (hτ : τ < C.ts.length) (hq : quS C.js M.dn (C.o.take M.m) τ = i :: rest) :
    Calls Tryz.prog 69 #[.pointer (some ⟨C.bx, 0, none⟩)] w (ExP C { M with dn := M.dn.set i (jb C.js i).k, L := LV M rest } lf) := by
  obtain ⟨X, c, hH, hc⟩ := h.hp
  obtain ⟨N, f, hQ, hN⟩ := h.qs τ hτ
  have hQ1 := hQ
  rw [hq, List.map_cons] at hQ1
  have hH1 := hH
  rw [hL] at hH1
  have PK := Lib.hid (hpeekI hH1)
  have c2 := h.c2
  have c3 := h.c3
  have l2 := World.block_lt_of_cell? w _ c2
  have i0 : (0 : Int) ≤ (τ : Int) := by omega
  have i1 : (τ : Int) < (C.ts.length : Int) := by omega
  have H := Lib.hid h
  have HQ := Lib.hid hQ
  have HQ1 := Lib.hid hQ1
  have HH := Lib.hid hH
  have HH1 := Lib.hid hH1
  have HL := Lib.hid hL
  have Hq := Lib.hid hq
  have HC := Lib.hid hc
  clear h hQ hQ1 hH hH1 hL hq hc
  go_enter Tryz.func69, Tryz.ntmps69
  go_upto_region 1 with (go_at_call 66; (with_reducible refine PK.out.mono ?_); rintro e w1 ⟨rfl, hB1⟩)
  have E1 := Lib.hid (H.out.later hC hB1)
  have Q1 := Lib.hid (HQ.out.kt (KT.of (S := []) hB1) (by simp))
  have Q2 := Lib.hid (HQ1.out.kt (KT.of (S := []) hB1) (by simp))
  have H1 := Lib.hid (HH.out.later hB1)
  have H2 := Lib.hid (HH1.out.later hB1)
  have d2 := (hB1.cell (p := ⟨C.bx, 2, none⟩) l2).trans c2
  have d3 := (hB1.cell (p := ⟨C.bx, 3, none⟩) l2).trans c3
  have PO := Lib.hid (pop_someP w1 Q2.out)
  clear c2 c3 hB1 PK
  go_upto_region 3 with (go_at_call 84; (with_reducible refine PO.out.mono ?_); rintro e w2 ⟨rfl, f', hQ2, hK2, hF2⟩)
  have K2 := Lib.hid hK2
  have F2 := Lib.hid hF2
  have QQ := Lib.hid hQ2
  have kt2 : KT [TQu, TRi] w1 w2 := KT.kept hK2 Q2.out.tys
  have y2 : w2.cell? ⟨C.bx, 2, none⟩ = some (.pointer (some ⟨C.hb, 0, none⟩)) := (kt2.cell (v := .int .i64 0) E1.out.box (by decide)).trans d2
  have b2 : Below C.w0.heap.size C.w0 w2 := E1.out.bel.trans (hK2.below E1.out.bel.size (fun k hk => (Q2.out.blk_ge k hk).1))
  have LN := len_anyP w2 hQ2
  rw [List.length_map] at LN
  have HH2 := Lib.hid (H1.out.kt kt2 (by decide) E1.out.bel b2 hC.lb E1.out.bl)
  have B2 := Lib.hid b2
  clear d2 d3 hK2 hF2 hQ2 kt2 b2 PO
  by_cases h0 : rest = []
  · subst h0
    have LN := Lib.hid LN
    have HH3 := HH2.out
    rw [HL.out] at HH3
    have PP := Lib.hid (hpopI HH3)
    have HH3 := Lib.hid HH3
    go_upto_region 4 with (go_at_call 64; (with_reducible refine LN.out.mono ?_); rintro e w3 ⟨rfl, rfl⟩)
    go_wp2_with (go_at_call 85; (with_reducible refine PP.out.mono ?_); rintro e w3 ⟨rfl, hH3, hK3⟩)
    go_end0
    refine ⟨rfl, vc, vs, ve, rb, rv, E1.out.leave hC hl hτ Hq.out hl Q1.out hN QQ.out K2.out F2.out (KT.kept hK3 HH3.out.tys) (B2.out.trans (hK3.below B2.out.size (fun j hj => Nat.le_trans hC.Bh (HH3.out.ge j hj).1))) ⟨X, c, ?_, HC.out⟩⟩
    unfold LV
    rw [if_pos rfl, HL.out]
    exact hH3
  · have hne : (((rest.length : Nat) : Int) == 0) = false := by
      rw [beq_eq_false_iff_ne]
      intro hh
      exact h0 (List.eq_nil_of_length_eq_zero (by omega))
    have LN := Lib.hid LN
    have Z := Lib.hid h0
    clear h0
    go_wp2_with (go_at_call 64; (with_reducible refine LN.out.mono ?_); rintro e w3 ⟨rfl, rfl⟩)
    go_end0
    refine ⟨rfl, vc, vs, ve, rb, rv, E1.out.leave hC hl hτ Hq.out hl Q1.out hN QQ.out K2.out F2.out (KT.refl _ _) B2.out ⟨X, c, ?_, HC.out⟩⟩
    unfold LV
    rw [if_neg Z.out]
    exact HH2.out
end
end Go.Proofs.YtkpackbbahodcaaGreat
/- A job works. -/
namespace Go.Proofs.YtkpackbbahodcaaGreat
open Go.RowKit
set_option linter.unusedVariables false
set_option linter.unusedSimpArgs false
attribute [local go_sem ↓] Go.wp_at_zero Go.wp_at_succ
section
variable {C : Cfg} {w w' w1 w2 : World} {M : Mv} {vc vs ve : Value} {rb : Nat → Nat} {rv : Nat → Value} {lf : Nat → Int × List Int}
/-- What stands behind it, if a job has worked n. -/
def wkM (C : Cfg) (M : Mv) (i : Nat) (n : Int) (rest : List Nat) : Mv :=
  { M with now := M.now + n, sp := addN M.sp i M.now n, dn := M.dn.set i (kO M.dn i + n),
           en := if kO M.dn i + n = (jb C.js i).k then M.en.set i (M.now + n) else M.en,
           L := if kO M.dn i + n = (jb C.js i).k then LV M rest else M.L }
def lfW (lf : Nat → Int × List Int) (i : Nat) (n : Int) : Nat → Int × List Int := fun q => if q = i then ((lf i).1 - n, (lf i).2) else lf q
structure WkH (C : Cfg) (M : Mv) (lf : Nat → Int × List Int) (i τ : Nat) (r : List Int) (rest : List Nat) (n : Int) : Prop where
  ld : C.js.length = M.dn.length
  le : C.js.length = M.en.length
  L : M.L = (τ : Int) :: r
  lt : τ < C.ts.length
  q : quS C.js M.dn (C.o.take M.m) τ = i :: rest
  lf : (lf i).1 = (jb C.js i).k - kO M.dn i
  last : ∀ x, M.sp.getLast? = some x → x.j = i → x.t = M.now
  few : M.sp.length ≤ 1000000000
  n0 : 0 ≤ M.now
  n1 : 1 ≤ n
  n2 : kO M.dn i + n ≤ (jb C.js i).k
  n3 : M.now + n ≤ 9223372036854775807
  d0 : 0 ≤ kO M.dn i
set_option maxRecDepth 100000 in
set_option maxHeartbeats 8000000 in
theorem work_any {i τ : Nat} {r : List Int} {rest : List Nat} {n : Int} (hC : Cok C) (h : Ex C w M vc vs ve rb rv lf) (hW : WkH C M lf i τ r rest n) :
    Calls Tryz.prog 54 #[.pointer (some ⟨C.bx, 0, none⟩), .int .i64 n] w (ExP C (wkM C M i n rest) (lfW lf i n)) := by
  have hi : i ∈ quS C.js M.dn (C.o.take M.m) τ := by rw [hW.q]; simp
  obtain ⟨a1, a2, a3⟩ := quS_mem.1 hi
  have hil : i < C.js.length := hC.rel (List.mem_of_mem_take a1)
  have hfew := hC.few
  have hbd := hC.bd i hil
  have FS := Lib.hid (first_some hC h hW.L hW.lt hW.q)
  have H := Lib.hid h
  have HW := Lib.hid hW
  have A1 := Lib.hid a1
  clear h hW hi a1 a2
  go_enter Tryz.func54, Tryz.ntmps54
  go_upto_region 1 with (go_at_call 52; (with_reducible refine FS.out.mono ?_); rintro e w1 ⟨rfl, hB1⟩)
  have hE1 := H.out.later hC hB1
  obtain ⟨A, cc, hA, hcr⟩ := (hE1.rs i A1.out a3).is
  have r0 := cell_of_row w1 (rb i) 0 _ _ _ hA
  simp only [List.getElem?_toArray, List.getElem?_cons_zero] at r0
  have TL := Lib.hid (tell_any (n := n) hC hE1 HW.out.last HW.out.few (show i ≤ 1000000 by omega) HW.out.n0 (by have := HW.out.n1; omega) HW.out.n3)
  have E1 := Lib.hid hE1
  clear hE1 hA hcr hB1 FS
  go_upto_region 2 with (go_at_call 68; (with_reducible refine TL.out.mono ?_); rintro e w2 ⟨rfl, vs2, hE2⟩)
  have hR2 := hE2.rs i A1.out a3
  obtain ⟨A2, cc2, hA2, hcr2⟩ := hR2.is
  have q1 := cell_of_row w2 (rb i) 1 _ _ _ hA2
  have qf : w2.frozen? ⟨rb i, 1, none⟩ = false := by simp [World.frozen?, hA2]
  simp only [List.getElem?_toArray, List.getElem?_cons_zero, List.getElem?_cons_succ] at q1
  have hlf := HW.out.lf
  obtain ⟨kk, hkk⟩ : ∃ kk, (lf i).1 = kk := ⟨_, rfl⟩
  rw [hkk] at q1 hlf
  have hE3 := hE2.rest (k := kk - n) (c := (lf i).2) hC A1.out a3 ((Kept.refl [rb i] w2).set (rb i) 1 (.int .i64 (kk - n)) (by simp)) ⟨hR2.ge, A2, cc2, heap_setCell_same _ (rb i) 1 _ _ _ hA2, hcr2⟩
  have hf3 := hE3.c4
  have ff3 := hE3.fz 4
  have hE4 := hE3.wait hC (M.now + n)
  have p1 := cell_of_row _ (rb i) 1 _ _ _ ((hE4.rs i A1.out a3).is.choose_spec.choose_spec.1)
  have p0 := cell_of_row _ (rb i) 0 _ _ _ ((hE4.rs i A1.out a3).is.choose_spec.choose_spec.1)
  simp only [List.getElem?_toArray, List.getElem?_cons_zero, List.getElem?_cons_succ, if_true] at p1 p0
  have n0 := HW.out.n0
  have n1 := HW.out.n1
  have n2 := HW.out.n2
  have n3 := HW.out.n3
  have d0 := HW.out.d0
  have hwA : wrap64 (kk - n) = kk - n := wrap64_in (by omega)
  have hwB : wrap64 (M.now + n) = M.now + n := wrap64_in (by omega)
  have elf : (fun q => if q = i then (kk - n, (lf i).2) else lf q) = lfW lf i n := by unfold lfW; rw [hkk]
  rw [elf] at hE4
  have HLF := Lib.hid hlf
  have HKK := Lib.hid hkk
  have kb1 : 0 ≤ kk - n := by omega
  have kb2 : kk ≤ 2147483647 := by omega
  clear hlf hkk n2
  have HE4 := Lib.hid hE4
  have hv4 := hE4.c4
  simp only at hf3 hv4
  clear hE2 hR2 hA2 hcr2 hE3 hE4 elf
  obtain ⟨W3, hW3⟩ : ∃ W3, w2.setCell ⟨rb i, 1, none⟩ (.int .i64 (kk - n)) = W3 := ⟨_, rfl⟩
  go_upto_region 3 with (fail)
  rw [hW3] at hf3 ff3 p1 p0 HE4 hv4
  try rw [hW3]
  clear hW3 q1 qf
  go_upto_region 4 with (fail)
  obtain ⟨W4, hW4⟩ : ∃ W4, W3.setCell ⟨C.bx, 4, none⟩ (.int .i64 (M.now + n)) = W4 := ⟨_, rfl⟩
  rw [hW4] at p1 p0 HE4 hv4
  try rw [hW4]
  clear hW4 hf3 ff3
  by_cases hz : kk - n = 0
  · rw [hz] at p1
    have hens := HE4.out.ens
    obtain ⟨ge, cap, hve, hBg, hgl, hle, hmx, hfz⟩ := own_form hens (by omega)
    subst hve
    have v6 := HE4.out.c6
    have fe := hfz i
    have hEE := HE4.out.ends hC (g := ge) rfl hil (M.now + n)
    have i0 : (0 : Int) ≤ (i : Int) := by omega
    have i1 : (i : Int) < (C.js.length : Int) := by omega
    have ue : ∃ u, W4.cell? ⟨ge, i, none⟩ = some u := by
      have hl0 : i < (numL M.en).length := by simp [numL]; have := HW.out.le; omega
      exact ⟨_, own_cell hens rfl (List.getElem?_eq_getElem hl0)⟩
    obtain ⟨u, hu⟩ := ue
    have HEE := Lib.hid hEE
    unfold maxLen at hmx
    clear hens hfz hEE hmx
    go_upto_region 5 with (fail)
    go_region
    have LVE := Lib.hid (leave_any (M := { M with now := M.now + n, sp := addN M.sp i M.now n, en := M.en.set i (M.now + n) }) hC HW.out.ld (HEE.out.later hC (below_drew _)) HW.out.L HW.out.lt HW.out.q)
    have hkd : kO M.dn i + n = (jb C.js i).k := by have := HLF.out; omega
    have HKD := Lib.hid hkd
    clear hkd v6 fe hu p0 p1 hv4
    go_wp2_with (go_at_call 69; (with_reducible refine LVE.out.mono ?_); rintro e w5 ⟨rfl, vc5, vs5, ve5, rb5, rv5, hE5⟩)
    go_end0
    refine ⟨rfl, vc5, vs5, ve5, rb5, rv5, ?_⟩
    unfold wkM
    rw [if_pos HKD.out, if_pos HKD.out, HKD.out]
    exact hE5
  · have hz2 : (kk - n == 0) = false := by rw [beq_eq_false_iff_ne]; exact hz
    go_wp2
    go_end0
    have hkd : kO M.dn i + n ≠ (jb C.js i).k := by have := HLF.out; omega
    have hil2 : i < M.dn.length := by rw [← HW.out.ld]; exact hil
    have fin := HE4.out.dn (dn' := M.dn.set i (kO M.dn i + n)) (fun p hp => by
      simp only
      rw [kO_set _ _ hil2]
      by_cases hpi : p = i
      · subst hpi
        rw [if_pos rfl]
        have := HLF.out
        omega
      · rw [if_neg hpi])
    refine ⟨rfl, vc, vs2, ve, rb, rv, ?_⟩
    unfold wkM
    rw [if_neg hkd, if_neg hkd]
    exact fin
end
end Go.Proofs.YtkpackbbahodcaaGreat
/- A job works a section. -/
namespace Go.Proofs.YtkpackbbahodcaaGreat
open Go.RowKit
set_option linter.unusedVariables false
set_option linter.unusedSimpArgs false
attribute [local go_sem ↓] Go.wp_at_zero Go.wp_at_succ
theorem run_tail64 (b o n cc : Nat) (w : World) (h : n + 1 ≤ cc) (hm : cc ≤ 9223372036854775807) : (Instr.slice 31 (.slice (some ⟨b, o, none⟩) (n + 1) cc) (some (.int .i64 1)) none none).run Tryz.prog w = .ok (.slice (some ⟨b, if cc = 1 then o else o + 1, none⟩) n (cc - 1)) w := by
  have h3 : (0 : Int) ≤ 1 := by omega
  have h5 : (1 : Int).toNat = 1 := rfl
  have h1 : (1 : Int) ≤ ((n + 1 : Nat) : Int) := by omega
  have h6 : n + 1 - 1 = n := by omega
  have h7 : ((n + 1 : Nat) : Int) ≤ (cc : Int) := by omega
  by_cases h0 : cc = 1
  · subst h0
    obtain rfl : n = 0 := by omega
    go_simp
  · rw [if_neg h0]
    go_simp
    intro h; omega
theorem CRow.tail {w : World} {b o cc : Nat} {x : Int} {l : List Int} (h : CRow w (some ⟨b, o, none⟩) cc (x :: l)) : CRow w (some ⟨b, if cc = 1 then o else o + 1, none⟩) (cc - 1) l := by
  have hle := h.le
  rw [List.length_cons] at hle
  refine ⟨by omega, by have := h.mx; omega, fun y hy => h.wf y (by simp [hy]), fun i y hy => ?_⟩
  have hi := (List.getElem?_eq_some_iff.1 hy).1
  obtain ⟨b2, o2, e, hc⟩ := h.at_ (i + 1) y (by simpa using hy)
  simp only [Option.some.injEq, Addr.mk.injEq, and_true] at e
  obtain ⟨rfl, rfl⟩ := e
  refine ⟨b, _, rfl, ?_⟩
  rw [if_neg (by omega), Nat.add_assoc, Nat.add_comm 1 i]
  exact hc
section
variable {C : Cfg} {w w' w1 w2 : World} {M : Mv} {vc vs ve : Value} {rb : Nat → Nat} {rv : Nat → Value} {lf : Nat → Int × List Int}
def lfC (lf : Nat → Int × List Int) (i : Nat) (l : List Int) : Nat → Int × List Int := fun q => if q = i then ((lf i).1, l) else lf q
theorem WkH.cut {i τ : Nat} {r : List Int} {rest : List Nat} {n : Int} {l : List Int} (h : WkH C M lf i τ r rest n) : WkH C M (lfC lf i l) i τ r rest n :=
  ⟨h.ld, h.le, h.L, h.lt, h.q, by unfold lfC; rw [if_pos rfl]; exact h.lf, h.last, h.few, h.n0, h.n1, h.n2, h.n3, h.d0⟩
set_option maxRecDepth 100000 in
set_option maxHeartbeats 8000000 in
theorem section_any {i τ : Nat} {r : List Int} {rest : List Nat} {n a : Int} {l : List Int} (hC : Cok C) (h : Ex C w M vc vs ve rb rv lf) (hW : WkH C M lf i τ r rest n) (hc : (lf i).2 = a :: l) :
    Calls Tryz.prog 53 #[.pointer (some ⟨C.bx, 0, none⟩), .int .i64 n] w (ExP C (wkM C M i n rest) (lfW (lfC lf i l) i n)) := by
  have hi : i ∈ quS C.js M.dn (C.o.take M.m) τ := by rw [hW.q]; simp
  obtain ⟨a1, a2, a3⟩ := quS_mem.1 hi
  have FS := Lib.hid (first_some hC h hW.L hW.lt hW.q)
  have H := Lib.hid h
  have HW := Lib.hid hW
  have A1 := Lib.hid a1
  clear h hW hi a1 a2
  go_enter Tryz.func53, Tryz.ntmps53
  go_upto_region 1 with (go_at_call 52; (with_reducible refine FS.out.mono ?_); rintro e w1 ⟨rfl, hB1⟩)
  have hE1 := H.out.later hC hB1
  have hR1 := hE1.rs i A1.out a3
  obtain ⟨A, cc, hA, hcr⟩ := hR1.is
  rw [hc] at hA hcr
  obtain ⟨b, o, rfl, -⟩ := hcr.at_ 0 a rfl
  have hle := hcr.le
  have hmx := hcr.mx
  rw [List.length_cons] at hA hle
  have q2 := cell_of_row w1 (rb i) 2 _ _ _ hA
  have qf : w1.frozen? ⟨rb i, 2, none⟩ = false := by simp [World.frozen?, hA]
  simp only [List.getElem?_toArray, List.getElem?_cons_zero, List.getElem?_cons_succ] at q2
  have hsl := fun W => run_tail64 b o l.length cc W hle hmx
  obtain ⟨va, hva⟩ : ∃ va, (if cc = 1 then o else o + 1) = va := ⟨_, rfl⟩
  have hct := hcr.tail
  rw [hva] at hct
  rw [hva] at hsl
  have hE2 := hE1.rest (k := (lf i).1) (c := l) hC A1.out a3 ((Kept.refl [rb i] w1).set (rb i) 2 (.slice (some ⟨b, va, none⟩) l.length (cc - 1)) (by simp)) ⟨hR1.ge, some ⟨b, va, none⟩, cc - 1, heap_setCell_same _ (rb i) 2 _ _ _ hA, hct⟩
  have WK := Lib.hid (work_any hC hE2 (HW.out.cut (l := l)))
  clear hE1 hR1 hA hcr hB1 FS hva hct hE2 hc
  generalize l.length = m at *
  go_wp2_with (go_at_call 54; (with_reducible refine WK.out.mono ?_); rintro e w2 ⟨rfl, vc2, vs2, ve2, rb2, rv2, hE3⟩)
  go_end0
  exact ⟨rfl, vc2, vs2, ve2, rb2, rv2, hE3⟩
end
end Go.Proofs.YtkpackbbahodcaaGreat
/- The executive goes on: the plain side of a round. -/
namespace Go.Proofs.YtkpackbbahodcaaGreat
open Go.RowKit
set_option linter.unusedVariables false
set_option linter.unusedSimpArgs false
section
variable {C : Cfg} {t m n : Nat} {L : List Int}
abbrev Cfg.st (C : Cfg) (t : Nat) : TSt := tst C.ts C.js t
def Cfg.mv (C : Cfg) (t m : Nat) (L : List Int) : Mv := ⟨m, t, (C.st t).dn, (C.st t).sp, (C.st t).en, L⟩
structure PlF (C : Cfg) (t m : Nat) (L : List Int) : Prop where
  hd : Hd C.ts C.js (C.st t).dn (C.o.take m) L
  dec : Dec C.js (C.st t)
  le : m ≤ C.o.length
  lo : ∀ p ∈ C.o.take m, (jb C.js p).r ≤ t
  hz : ∀ p ∈ C.o.drop m, kO (C.st t).dn p = 0
theorem Cok.ti (hC : Cok C) (t : Nat) : TI C.js t (C.st t) := ti_all hC.lg t
theorem PlF.who_none (hC : Cok C) (h : PlF C t m []) (hR : Rel C.js C.o m t) : who C.ts C.js t = none := by
  show whoS _ _ _ _ = none
  rw [h.dec.who]
  exact pick_none (fun i hi => (hC.t0 i hi).1) hC.ord hR h.hd
theorem PlF.who_some {x : Int} {r : List Int} (hC : Cok C) (h : PlF C t m (x :: r)) (hR : Rel C.js C.o m t) : ∃ (τ i : Nat) (rest : List Nat), x = (τ : Int) ∧ τ < C.ts.length ∧ quS C.js (C.st t).dn (C.o.take m) τ = i :: rest ∧ who C.ts C.js t = some i := by
  obtain ⟨τ, rfl, hτ⟩ := h.hd.nat x (by simp)
  have h1 := (h.hd.mem τ).1 (by simp)
  cases hq : quS C.js (C.st t).dn (C.o.take m) τ with
  | nil => exact absurd hq h1
  | cons i rest =>
    refine ⟨τ, i, rest, rfl, hτ, hq, ?_⟩
    show whoS _ _ _ _ = some i
    rw [h.dec.who]
    exact pick_some (L := r) (fun i hi => (hC.t0 i hi).1) hC.ord hC.seq hR h.hd hC.dist (fun i hi => (hC.t0 i hi).2) rfl hq
theorem mem_split {p : Nat} (hC : Cok C) (hp : p < C.js.length) (m : Nat) : p ∈ C.o.take m ∨ p ∈ C.o.drop m := by
  have h1 : p ∈ C.o := hC.ord.mem.2 (by simpa using hp)
  rw [← List.take_append_drop m C.o] at h1
  exact List.mem_append.1 h1
/-- Nobody runs, and nobody comes: all have ended. -/
theorem PlF.ended (hC : Cok C) (h : PlF C t m []) (hd : C.o.drop m = []) : ∀ i, i < C.js.length → kO (C.st t).dn i = (jb C.js i).k := by
  intro i hi
  have h1 := (hC.ti t).d0 i hi
  rcases mem_split hC hi m with h2 | h2
  · rcases Int.lt_or_le (kO (C.st t).dn i) (jb C.js i).k with h3 | h3
    · exfalso
      obtain ⟨τ, hτ⟩ : ∃ τ : Nat, (jb C.js i).t = (τ : Int) := ⟨(jb C.js i).t.toNat, by have := (hC.t0 i hi).1; omega⟩
      have h4 : i ∈ quS C.js (C.st t).dn (C.o.take m) τ := quS_mem.2 ⟨h2, hτ, h3⟩
      have := (h.hd.mem τ).2 (fun e => by rw [e] at h4; cases h4)
      cases this
    · omega
  · rw [hd] at h2; cases h2
theorem far {p : Nat} {r : List Nat} (hC : Cok C) (hR : Rel C.js C.o m t) (hd : C.o.drop m = p :: r) {k : Nat} (hk : (t : Int) + k ≤ (jb C.js p).r) : ∀ j, j < C.js.length → (jb C.js j).r ≤ t ∨ (t : Int) + k ≤ (jb C.js j).r := by
  intro j hj
  rcases mem_split hC hj m with h2 | h2
  · exact .inl (hR.lo j h2)
  · have hs := hC.ord.srt.sublist (List.drop_sublist m C.o)
    rw [hd] at hs h2
    rcases List.mem_cons.1 h2 with rfl | h2
    · exact .inr hk
    · have := (List.pairwise_cons.1 hs).1 j h2
      have hp : p < C.js.length := hC.rel (List.mem_of_mem_drop (i := m) (by rw [hd]; simp))
      unfold Ahead at this
      rw [kO_rls hp, kO_rls hj] at this
      exact .inr (by omega)
theorem far_nil (hC : Cok C) (hR : Rel C.js C.o m t) (hd : C.o.drop m = []) (k : Nat) : ∀ j, j < C.js.length → (jb C.js j).r ≤ t ∨ (t : Int) + k ≤ (jb C.js j).r := by
  intro j hj
  rcases mem_split hC hj m with h2 | h2
  · exact .inl (hR.lo j h2)
  · rw [hd] at h2; cases h2
/-- Nobody runs for a while. -/
theorem PlF.idle (hC : Cok C) (h : PlF C t m []) (hR : Rel C.js C.o m t) (hn : 1 ≤ n) (hf : ∀ j, j < C.js.length → (jb C.js j).r ≤ t ∨ (t : Int) + n ≤ (jb C.js j).r) :
    C.st (t + n) = { C.st t with ru := none } ∧ PlF C (t + n) m [] := by
  have e := run_idle (h.who_none hC hR) hC.lg hf n hn (Nat.le_refl _)
  refine ⟨e, ?_⟩
  have e2 : (C.st (t + n)).dn = (C.st t).dn := by show (tst _ _ _).dn = _; rw [e]
  refine ⟨by rw [e2]; exact h.hd, fun i hi => ?_, h.le, fun p hp => ?_, fun p hp => by rw [e2]; exact h.hz p hp⟩
  · have : (C.st (t + n)).ru = none := by show (tst _ _ _).ru = _; rw [e]
    rw [this] at hi; cases hi
  · have := h.lo p hp; omega
theorem kO_run {i : Nat} (hC : Cok C) (hi : i < C.js.length) (v : Int) (p : Nat) : kO ((C.st t).dn.set i v) p = if p = i then v else kO (C.st t).dn p := kO_set p v (by rw [(hC.ti t).ld]; exact hi)
theorem nodup_far {i p : Nat} (hC : Cok C) (hi : i ∈ C.o.take m) (hp : p ∈ C.o.drop m) : p ≠ i := by
  rintro rfl
  have := hC.ord.nodup
  rw [← List.take_append_drop m C.o] at this
  exact (List.nodup_append.1 this).2.2 p hi p hp rfl
theorem wkM_L {i : Nat} {rest : List Nat} {v : Int} : (wkM C (C.mv t m L) i v rest).L = if kO (C.st t).dn i + v = (jb C.js i).k then LV (C.mv t m L) rest else L := rfl
/-- A job has run so long. -/
theorem PlF.ran {i τ : Nat} {r : List Int} {rest : List Nat} (hC : Cok C) (h : PlF C t m L) (hL : L = (τ : Int) :: r) (hq : quS C.js (C.st t).dn (C.o.take m) τ = i :: rest) (hn : 1 ≤ n)
    (he : C.st (t + n) = runM C.js (C.st t) t i n) (hk : kO (C.st t).dn i + n ≤ (jb C.js i).k) (hdec : wthS (jb C.js i).c (kO (C.st t).dn i + n) = false) :
    PlF C (t + n) m (wkM C (C.mv t m L) i n rest).L := by
  have hi : i ∈ quS C.js (C.st t).dn (C.o.take m) τ := by rw [hq]; simp
  obtain ⟨a1, a2, a3⟩ := quS_mem.1 hi
  have hil : i < C.js.length := hC.rel (List.mem_of_mem_take a1)
  have e2 : (C.st (t + n)).dn = (C.st t).dn.set i (kO (C.st t).dn i + n) := by rw [he]; rfl
  refine ⟨?_, fun j hj => ?_, h.le, fun p hp => ?_, fun p hp => ?_⟩
  · rw [e2]
    by_cases hd : kO (C.st t).dn i + n = (jb C.js i).k
    · have := Hd.leave (M := C.mv t m L) hC (hC.ti t).ld.symm h.hd hL hq
      rw [wkM_L, if_pos hd, hd]
      exact this
    · rw [wkM_L, if_neg hd]
      refine Hd.dn (M := C.mv t m L) h.hd (fun p hp => ?_)
      rw [kO_run hC hil]
      split
      · rename_i e; subst e; simp only [Cfg.mv]; omega
      · exact Iff.rfl
  · have hru : (C.st (t + n)).ru = some i := by rw [he]; rfl
    rw [hru] at hj
    injection hj with hj
    subst hj
    rw [e2, kO_run hC hil, if_pos rfl]
    exact hdec
  · have := h.lo p hp; omega
  · rw [e2, kO_run hC hil, if_neg (nodup_far hC a1 hp)]
    exact h.hz p hp
/-- There are no more spans than ticks that were worked. -/
theorem sum_set : ∀ (l : List Int) (i : Nat) (v : Int), i < l.length → (l.set i (kO l i + v)).sum = l.sum + v
  | [], i, v, h => by simp at h
  | a :: l, 0, v, h => by simp [kO]; omega
  | a :: l, i + 1, v, h => by
    have := sum_set l i v (by simpa using h)
    have e : kO (a :: l) (i + 1) = kO l i := by simp [kO]
    rw [e, List.set_cons_succ, List.sum_cons, List.sum_cons, this]; omega
theorem addN_len (sp : List Spn) (i : Nat) (t m : Int) : (addN sp i t m).length ≤ sp.length + 1 := by
  unfold addN
  cases h : sp.getLast? with
  | none => simp
  | some x =>
    simp only
    split
    · simp <;> omega
    · simp
theorem spn_len {ts : List Ts} {js : List Fv} (hl : Lg js) : ∀ n : Nat, ((tst ts js n).sp.length : Int) ≤ (tst ts js n).dn.sum
  | 0 => by simp [tst]
  | n + 1 => by
    have ih := spn_len (ts := ts) hl n
    have hI := ti_all (ts := ts) hl n
    rw [tst_succ]
    cases hw : whoS ts js (tst ts js n) n with
    | none => rw [tstep_none hw]; exact ih
    | some i =>
      rw [tstep_some hw]
      have h1 := (hI.who_some hl hw).1
      have h2 := addN_len (tst ts js n).sp i n 1
      simp only [runM]
      rw [sum_set _ _ _ (by rw [hI.ld]; exact h1)]
      omega
theorem sum_le : ∀ (a b : List Int), a.length = b.length → (∀ i, i < a.length → kO a i ≤ kO b i) → a.sum ≤ b.sum
  | [], b, h, _ => by
    have : b = [] := List.eq_nil_of_length_eq_zero (by simpa using h.symm)
    subst this; simp
  | x :: a, [], h, _ => by simp at h
  | x :: a, y :: b, h, hk => by
    have h0 := hk 0 (by simp)
    have := sum_le a b (by simpa using h) (fun i hi => by
      have := hk (i + 1) (by simpa using hi)
      simpa [kO] using this)
    simp only [kO, List.getElem?_cons_zero, Option.getD_some] at h0
    rw [List.sum_cons, List.sum_cons]; omega
theorem spn_few {ts : List Ts} {js : List Fv} (hl : Lg js) (n : Nat) : ((tst ts js n).sp.length : Int) ≤ (js.map (·.k)).sum := by
  have h1 := spn_len (ts := ts) hl n
  have hI := ti_all (ts := ts) hl n
  have h2 := sum_le (tst ts js n).dn (js.map (·.k)) (by rw [hI.ld, List.length_map]) (fun i hi => by
    have hi' : i < js.length := by rw [← hI.ld]; exact hi
    have := (hI.d0 i hi').2
    have e : kO (js.map (·.k)) i = (jb js i).k := by simp [kO, jb, hi']
    omega)
  omega
/-- Who does not run is within no section. -/
theorem wth_all {ts : List Ts} {js : List Fv} (hl : Lg js) : ∀ (n : Nat) (i : Nat), (tst ts js n).ru ≠ some i → wthS (jb js i).c (kO (tst ts js n).dn i) = false
  | 0, i, _ => by
    refine wthS_neg _ _ (hl.pos i) ?_
    simp only [tst, kO]
    by_cases h : i < js.length
    · simp [h]
    · simp [h]
  | n + 1, i, h => by
    have ih := wth_all (ts := ts) hl n i
    have hI := ti_all (ts := ts) hl n
    rw [tst_succ] at h ⊢
    have key : whoS ts js (tst ts js n) n ≠ some i → wthS (jb js i).c (kO (tst ts js n).dn i) = false := by
      intro hw
      by_cases hr : (tst ts js n).ru = some i
      · unfold whoS at hw
        rw [hr] at hw
        simp only at hw
        split at hw
        · exact absurd rfl hw
        · rename_i hf; simpa using hf
      · exact ih hr
    cases hw : whoS ts js (tst ts js n) n with
    | none => rw [tstep_none hw]; exact key (by rw [hw]; simp)
    | some j =>
      rw [tstep_some hw] at h ⊢
      simp only [runM] at h ⊢
      have hij : i ≠ j := fun e => h (by rw [e])
      rw [kO_set _ _ (by rw [hI.ld]; exact (hI.who_some hl hw).1), if_neg hij]
      exact key (by rw [hw]; simpa using Ne.symm hij)
theorem PlF.wth (hC : Cok C) (h : PlF C t m L) (i : Nat) : wthS (jb C.js i).c (kO (C.st t).dn i) = false := by
  by_cases hr : (C.st t).ru = some i
  · exact h.dec i hr
  · exact wth_all hC.lg t i hr
end
end Go.Proofs.YtkpackbbahodcaaGreat
/- All end at some time. -/
namespace Go.Proofs.YtkpackbbahodcaaGreat
set_option linter.unusedVariables false
set_option linter.unusedSimpArgs false
/-- How many have not ended. -/
def lftC (js : List Fv) (dn : List Int) : Nat := (List.range js.length).countP fun i => decide (kO dn i < (jb js i).k)
section
variable {ts : List Ts} {js : List Fv}
theorem lftC_zero {dn : List Int} (h0 : ∀ i, i < js.length → kO dn i ≤ (jb js i).k) : lftC js dn = 0 ↔ ∀ i, i < js.length → kO dn i = (jb js i).k := by
  unfold lftC
  rw [List.countP_eq_zero]
  constructor
  · intro h i hi
    have := h i (List.mem_range.2 hi)
    have := h0 i hi
    simp at *
    omega
  · intro h i hi
    have := h i (List.mem_range.1 hi)
    simp; omega
theorem countP_one (f g : Nat → Bool) (i : Nat) : ∀ l : List Nat, l.Nodup → i ∈ l → f i = true → g i = false → (∀ j, j ≠ i → g j = f j) → l.countP f = l.countP g + 1
  | [], _, h, _, _, _ => by simp at h
  | a :: l, hn, h, hf, hg, he => by
    have hnd := List.nodup_cons.1 hn
    by_cases ha : a = i
    · subst ha
      rw [List.countP_cons_of_pos hf, List.countP_cons_of_neg (by simp [hg])]
      congr 1
      refine List.countP_congr fun j hj => ?_
      rw [he j (fun e => hnd.1 (by rw [← e]; exact hj))]
    · have hi : i ∈ l := by
        rcases List.mem_cons.1 h with h | h
        · exact absurd h.symm ha
        · exact h
      have := countP_one f g i l hnd.2 hi hf hg he
      rw [List.countP_cons, List.countP_cons, he a ha, this]
      omega
theorem lftC_set {dn : List Int} {i : Nat} {v : Int} (hl : dn.length = js.length) (hi : i < js.length) (hk : kO dn i < (jb js i).k) : lftC js (dn.set i v) + (if v < (jb js i).k then 0 else 1) = lftC js dn := by
  unfold lftC
  by_cases hv : v < (jb js i).k
  · rw [if_pos hv]
    refine List.countP_congr fun j hj => ?_
    rw [kO_set _ _ (by omega)]
    by_cases e : j = i
    · subst e; simp [hv, hk]
    · simp [e]
  · rw [if_neg hv]
    symm
    refine countP_one _ _ i _ List.nodup_range (List.mem_range.2 hi) (by simp [hk]) ?_ (fun j hj => ?_)
    · rw [kO_set _ _ (by omega), if_pos rfl]; simp; omega
    · rw [kO_set _ _ (by omega), if_neg hj]
theorem lftC_init (hl : Lg js) : lftC js (tst ts js 0).dn = js.length := by
  unfold lftC
  rw [List.countP_eq_length.2]
  · simp
  · intro i hi
    have hi := List.mem_range.1 hi
    have := hl.k1 i hi
    have e : kO (tst ts js 0).dn i = 0 := kO_rep _ _ _ hi
    exact decide_eq_true (by rw [e]; omega)
/-- By then all have ended. -/
theorem done_by (hl : Lg js) (R : Nat) (hR : ∀ i, i < js.length → (jb js i).r ≤ R) : ∀ m : Nat, (∀ i, i < js.length → kO (tst ts js (R + m)).dn i = (jb js i).k) ∨ (m : Int) ≤ (tst ts js (R + m)).dn.sum
  | 0 => by
    right
    have hI := ti_all (ts := ts) hl R
    have := sum_le (List.replicate js.length 0) (tst ts js R).dn (by simp [hI.ld]) (fun i hi => by
      have hi' : i < js.length := by simpa using hi
      rw [kO_rep _ _ _ hi']
      exact (hI.d0 i hi').1)
    simpa using this
  | m + 1 => by
    have hI := ti_all (ts := ts) hl (R + m)
    rcases done_by hl R hR m with h | h
    · left
      have := (run_done hl h 1).1
      intro i hi
      rw [← Nat.add_assoc, this]
      exact h i hi
    · by_cases hd : ∀ i, i < js.length → kO (tst ts js (R + m)).dn i = (jb js i).k
      · left
        have := (run_done hl hd 1).1
        intro i hi
        rw [← Nat.add_assoc, this]
        exact hd i hi
      · right
        rw [← Nat.add_assoc, tst_succ]
        cases hw : whoS ts js (tst ts js (R + m)) ((R + m : Nat) : Int) with
        | none =>
          exfalso
          apply hd
          intro i hi
          exact not_rdy (hI.d0 i hi).2 (hI.who_none hl hw i hi) (by have := hR i hi; omega)
        | some i =>
          rw [tstep_some hw]
          simp only [runM]
          rw [sum_set _ _ _ (by rw [hI.ld]; exact (hI.who_some hl hw).1)]
          omega
theorem done_at (hl : Lg js) (R S : Nat) (hR : ∀ i, i < js.length → (jb js i).r ≤ R) (hS : (js.map (·.k)).sum ≤ S) : ∀ i, i < js.length → kO (tst ts js (R + (S + 1))).dn i = (jb js i).k := by
  rcases done_by (ts := ts) hl R hR (S + 1) with h | h
  · exact h
  · exfalso
    have hI := ti_all (ts := ts) hl (R + (S + 1))
    have h2 := sum_le (tst ts js (R + (S + 1))).dn (js.map (·.k)) (by rw [hI.ld, List.length_map]) (fun i hi => by
      have hi' : i < js.length := by rw [← hI.ld]; exact hi
      have := (hI.d0 i hi').2
      have e : kO (js.map (·.k)) i = (jb js i).k := by simp [kO, jb, hi']
      omega)
    omega
theorem done_later (hl : Lg js) {a b : Nat} (hab : a ≤ b) (h : ∀ i, i < js.length → kO (tst ts js a).dn i = (jb js i).k) : (tst ts js b).dn = (tst ts js a).dn ∧ (tst ts js b).sp = (tst ts js a).sp ∧ (tst ts js b).en = (tst ts js a).en := by
  have := run_done (ts := ts) hl h (b - a)
  rwa [show a + (b - a) = b by omega] at this
end
end Go.Proofs.YtkpackbbahodcaaGreat
/- What is legal; runs of jobs that are made out of others. -/
namespace Go.Proofs.YtkpackbbahodcaaGreat
set_option linter.unusedVariables false
set_option linter.unusedSimpArgs false

/-! ### What is legal -/
theorem fitB_of (q : Int) : ∀ (left : Int) (l : List Int), Pos1 l → l.sum ≤ left → (∀ x ∈ l, x ≤ q) → fitB q left l = true
  | left, [], _, _, _ => rfl
  | left, c :: r, h1, h2, h3 => by
    rw [List.sum_cons] at h2
    have := h1.head
    have := h1.tail.sum
    have := h3 c (by simp)
    rw [fitB, fitB_of q (left - c) r h1.tail (by omega) (fun x hx => h3 x (List.mem_cons_of_mem _ hx)), decide_eq_true (by omega)]
    rfl
theorem leg_of {ts : List Ts} : ∀ js : List Fv, (∀ j ∈ js, LJ ts j) → js.Pairwise (fun x y => x.t = y.t → x.a + (tk ts x.t).t ≤ y.a) → legF ts [] js = true := by
  refine snoc_ind (fun _ _ => rfl) fun js j ih h1 h2 => ?_
  rw [List.pairwise_append] at h2
  have hj := h1 j (by simp)
  rw [legF_app, ih (fun x hx => h1 x (by simp [hx])) h2.1, List.nil_append, legF, legF, Bool.true_and, Bool.and_true]
  have hs : soonI ts js j.t ≤ j.a := by
    unfold soonI
    cases hl : lastT js j.t with
    | none => exact hj.a0
    | some l =>
      obtain ⟨m1, m2⟩ := lastT_mem hl
      have := h2.2.2 l m1 j (by simp) m2
      rw [m2] at this
      exact this
  rw [legJ, inB_yes ⟨hj.t0, by have := hj.t1; omega⟩, inB_yes ⟨hs, hj.a1⟩, inB_yes ⟨hj.r0, hj.r1⟩, inB_yes ⟨hj.k0, hj.k1⟩, fitB_of _ _ _ hj.pos hj.fit hj.q]
  rfl
theorem legS_of {ts : List Ts} {js : List Fv} (hc : (chkAll ts).2 = 0) (hl : js.length ≤ 4096) (h1 : ∀ j ∈ js, LJ ts j) (h2 : js.Pairwise (fun x y => x.t = y.t → x.a + (tk ts x.t).t ≤ y.a)) : legS ts js = true := by
  rw [legS, leg_of js h1 h2, decide_eq_true ⟨hc, hl⟩]
  rfl

/-! ### Who runs, of two rows of jobs -/
theorem pkN_congr {ts ts' : List Ts} {js js' : List Fv} {dn dn' : List Int} {t t' : Int} : ∀ n, (∀ i, i < n → rdy js' dn' t' i = rdy js dn t i) → (∀ i j, i < n → j < n → decide (prO ts' js' i < prO ts' js' j) = decide (prO ts js i < prO ts js j)) → pkN ts' js' dn' t' n = pkN ts js dn t n
  | 0, _, _ => rfl
  | n + 1, h1, h2 => by
    have e := pkN_congr n (fun i hi => h1 i (by omega)) (fun i j hi hj => h2 i j (by omega) (by omega))
    rw [pkN_succ, pkN_succ, e]
    unfold pk1
    rw [h1 n (by omega)]
    cases hp : pkN ts js dn t n with
    | none => rfl
    | some b =>
      have hb := ((pkN_spec n).2 b hp).1
      have h3 := h2 n b (by omega) (by omega)
      simp only [h3]
theorem jb_map {f : Fv → Fv} {js : List Fv} {i : Nat} (hi : i < js.length) : jb (js.map f) i = f (jb js i) := by
  have e : js[i]? = some js[i] := List.getElem?_eq_getElem hi
  rw [jb_get e, jb_get (x := f js[i]) (by rw [List.getElem?_map, e]; rfl)]
theorem jb_out {js : List Fv} {i : Nat} (hi : js.length ≤ i) : jb js i = ⟨0, 0, 0, 1, []⟩ := by
  have : js[i]? = none := List.getElem?_eq_none hi
  simp [jb, this]
theorem kO_map {f : Int → Int} {l : List Int} {i : Nat} (hi : i < l.length) : kO (l.map f) i = f (kO l i) := by
  simp [kO, hi]
theorem addN_map (f : Int → Int) (hf : ∀ a b, f a = f b → a = b) (sp : List Spn) (i : Nat) (t u m m' : Int) (ht : f t = u) (hm : f (t + m) = u + m') :
    addN (sp.map fun x => ⟨x.j, f x.f, f x.t⟩) i u m' = (addN sp i t m).map fun x => ⟨x.j, f x.f, f x.t⟩ := by
  rcases List.eq_nil_or_concat sp with h | ⟨l, x, h⟩
  · subst h
    simp [addN, ht, hm]
  · rw [List.concat_eq_append] at h
    subst h
    unfold addN
    rw [List.map_append, List.map_singleton]
    simp only [List.getLast?_concat, List.dropLast_concat]
    by_cases hc : x.j = i ∧ x.t = t
    · rw [if_pos hc, if_pos ⟨hc.1, by rw [hc.2, ht]⟩]
      simp [hm]
    · rw [if_neg hc, if_neg (fun h => hc ⟨h.1, hf _ _ (by rw [h.2, ht])⟩)]
      simp [ht, hm]
end Go.Proofs.YtkpackbbahodcaaGreat
