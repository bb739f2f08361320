/- Texts about the program, one after the other: ERls, ETell, ELv. -/
import Derived.WalkKit
import Derived.ProofKit
import Derived.Handy
import Derived.Lib.Hide
import Derived.Deep.MidRow
import Derived.Deep.QuietTactic
import Derived.BigQuiet
import Derived.Deep.RegionHeld3
import Derived.Laws.Externs
import Derived.RangeFuncBox
import Derived.Deep.CutBlock
import Derived.Deep.LoopGhost
import Derived.WalkMore
import Derived.Below
import Derived.LaidMore
import Derived.Laws.AppendOwn
import Derived.Laws.CopyOwn
import Derived.IntWalk
import Derived.OwnWalk
import Derived.Deep.RegionLaw
import Derived.BigRegion
import Derived.Deep.DrawnRows
import Derived.Deep.Quiet
import Derived.Deep.RegionHeldLaw
import Derived.LoopIn
import Derived.LoopNIn
import Derived.TacticsInMore
import Derived.OwnWalkIn
import Derived.RangeFuncNested
import Derived.RangeFuncBound
import Derived.RangeFuncCalls
import Derived.RangeFuncLeaves
import Derived.RangeFuncWrites
import Derived.Shelf.Abstract
import Derived.StillTailTactics
import Derived.Lib.SliceRun
import Derived.Deep.AppendSrc
import Derived.Deep.Upon
import Derived.Deep.DeepAppendWide
import Derived.OrdersIn
import Derived.Sort.LoopGhostIn
import Derived.Shelf.SlGeneric
import Derived.Shelf.Spec.SlicesGrow
import Derived.Ground.Names8Prog
import Derived.Laws.OwnMore
import Derived.Shelf.SlSortCmp.Whole1
import Derived.Ground.SlsfProg
import Derived.Ground.SlgnProg
import Derived.Laws.BytesString
import Derived.RangeFuncRecord
import Derived.MapKept
import Derived.Laws.MakeOwn
import Derived.Shelf.SlSortCmp.NoneTotal
import Derived.Shelf.Small.Bits
import Derived.Shelf.Small.Strs
import Derived.Shelf.Small.Wraps
import Derived.Shelf.Strconv.Itoa0
import Derived.Shelf.LaysM
import Derived.Shelf.Strconv.Clone
import Derived.Shelf.Strings.Search1
import Derived.Shelf.Bits.Mul64
import Derived.Ground.Names2Prog
import Derived.Shelf.Slices.SearchI
import Derived.ChangeOld
import Derived.OpenShut
import Derived.Maps.AppendAt
import Derived.Test.YthfkbbiaemmndaaGreatDoorRows
import Derived.Test.YthfkbbiaemmndaaGreatDoorProg
import Derived.Test.YthfkbbiaemmndaaGreatDoorG4
import Derived.Test.YthfkbbiaemmndaaGreatDoorG6
import Derived.Test.YthfkbbiaemmndaaGreatDoorG7
import Derived.Test.YthfkbbiaemmndaaGreatDoorG8
import Derived.Test.YthfkbbiaemmndaaGreatDoorG16
import Derived.Test.YthfkbbiaemmndaaGreatDoorG17
import Derived.Test.YthfkbbiaemmndaaGreatDoorG19
import Derived.Test.YthfkbbiaemmndaaGreatDoorG20
set_option linter.unusedVariables false
set_option linter.unusedSimpArgs false
set_option maxRecDepth 100000
set_option maxHeartbeats 16000000
namespace Go.Proofs.YthfkbbiaemmndaaGreatDoor
section
open Go.RowKit
attribute [local go_sem ↓] Go.wp_at_zero Go.wp_at_succ
def lfN (js : List Fv) (dn : List Int) (p : Nat) : Int × List Int := ((jb js p).k - kO dn p, cl (jb js p).c (kO dn p))
theorem lfN_zero {C : Cfg} (hC : Cok C) {dn : List Int} {p : Nat} (h : kO dn p = 0) : lfN C.js dn p = ((jb C.js p).k, (jb C.js p).c) := by
 unfold lfN; rw [h, Int.sub_zero, cl_zero _ (hC.lg.pos p)]
theorem run_tail (g off n : Nat) (w : World) (h : n ≤ 100000) : (Instr.slice 51 (.slice (some ⟨g, off, none⟩) (n + 1) (n + 1)) (some (.int .i64 1)) none none).run Tryz.prog w = .ok (.slice (some ⟨g, if n = 0 then off else off + 1, none⟩) n n) w := by
 have h3 : (0 : Int) ≤ 1 := by omega
 have h5 : (1 : Int).toNat = 1 := rfl
 by_cases h0 : n = 0
 ·subst h0
  go_simp
 ·have h1 : (1 : Int) ≤ ((n + 1 : Nat) : Int) := by omega
  have h4 : ¬ n + 1 = 1 := by omega
  have h6 : n + 1 - 1 = n := by omega
  rw [if_neg h0]
  go_simp
  intro h; omega
theorem Com.tail {B : Nat} {w : World} {g off n : Nat} {cs : Array Value} {p : Nat} {r : List Nat} (hB : B ≤ g) (hg : w.heap[g]? = some (.cells cs TIn (0, 0))) (hn : (p :: r).length = n + 1) (hl : n + 1 ≤ 1000) (hc : ∀ (j q : Nat), (p :: r)[j]? = some q → w.cell? ⟨g, off + j, none⟩ = some (.int .i64 (q : Int))) :
  Com B w (.slice (some ⟨g, if n = 0 then off else off + 1, none⟩) n n) r := by
 have hr : r.length = n := by simpa using hn
 refine ⟨g, if n = 0 then off else off + 1, cs, by rw [hr], hB, hg, by omega, fun j q hj => ?_⟩
 have hj2 := (List.getElem?_eq_some_iff.1 hj).1
 rw [if_neg (by omega)]
 have := hc (j + 1) q (by simpa using hj)
 rw [Nat.add_assoc, Nat.add_comm 1 j]; exact this
structure RlI (C : Cfg) (M : Mv) (k : Nat) (L : List Int) (w : World) : Prop where
 ex : ∃ vc vs ve rb rv, Ex C w { M with m := k, L := L } vc vs ve rb rv (lfN C.js M.dn)
 hd : Hd C.ts C.js M.dn (C.o.take k) L
 le : k ≤ C.o.length
 ge : M.m ≤ k
 lo : ∀ p ∈ C.o.take k, (jb C.js p).r ≤ M.now
def RlP (C : Cfg) (M : Mv) (e : Ending) (w' : World) : Prop := e = .returned (.tuple #[]) ∧ ∃ k L, RlI C M k L w' ∧ Rel C.js C.o k M.now
theorem release_any {C : Cfg} {M : Mv} {w : World} (hC : Cok C) (h : RlI C M M.m M.L w) (hn : 0 ≤ M.now ∧ M.now ≤ 9223372036854775807) (hz : ∀ p ∈ C.o.drop M.m, kO M.dn p = 0) :
  Calls Tryz.prog 106 #[.pointer (some ⟨C.bx, 0, none⟩)] w (RlP C M) := by
 have H0 := Lib.hid h
 have HN := Lib.hid hn
 have HZ := Lib.hid hz
 clear h hn hz
 go_enter Tryz.func106, Tryz.ntmps106
 go_wp2
 go_loopg [] (C.o.length + 1) (fun gm wr => ∃ (k : Nat) (L : List Int), C.o.length + 1 ≤ gm + k ∧ k ≤ C.o.length ∧ Hid (RlI C M k L wr))
 case atStart => exact ⟨M.m, M.L, by omega, H0.out.le, H0⟩
 case round =>
  obtain ⟨k, L, hm, hkl, hI⟩ := hrel
  clear H0
  obtain ⟨vc, vs, ve, rb, rv, hE⟩ := hI.out.ex
  obtain ⟨g, off, cs, rfl, hB, hg, hl, hc⟩ := hE.com.ex
  have c1 := hE.c1
  have HE := Lib.hid hE
  have Q := quiet_any hC hE HN.out
  simp only at hl hc c1 hg
  cases hd : C.o.drop k with
  | nil =>
    rw [hd] at c1
    simp only [List.length_nil] at c1
    have hrl := rel_done hC hkl hI.out.lo (fun p r e => by rw [hd] at e; cases e)
    have HR := Lib.hid hrl
    clear hE hc hl hg hd Q hrl
    go_wp2
    go_end0
    exact ⟨rfl, k, L, hI.out, HR.out⟩
  | cons p r =>
    have hrel : relS C { M with m := k, L := L } = (jb C.js p).r - M.now := by unfold relS; simp only [hd]
    rw [hrel] at Q
    have ln : (p :: r).length = r.length + 1 := rfl
    have lz : (0 : Int) < ((r.length + 1 : Nat) : Int) := by omega
    by_cases hr : (jb C.js p).r ≤ M.now
    ·have hq : (decide ((jb C.js p).r - M.now ≤ 0)) = true := decide_eq_true (by omega)
     have Q := Lib.hid Q
     have HD := Lib.hid hd
     have hmd : ∀ q ∈ C.o.drop k, q ∈ C.o.drop M.m := fun q hq => by
      have hge := hI.out.ge
      have : C.o.drop k = (C.o.drop M.m).drop (k - M.m) := by rw [List.drop_drop]; congr 1; omega
      rw [this] at hq
      exact List.mem_of_mem_drop hq
     have HCM0 := Lib.hid (fun n va (hn : r.length = n) (hva : (if n = 0 then off else off + 1) = va) => show Com C.w0.heap.size wr (.slice (some ⟨g, va, none⟩) n n) r from by
      rw [← hva]
      refine Com.tail (p := p) hB hg (by simp [hn]) (by rw [hd] at hl; simp at hl; omega) (fun j q hj => hc j q (by rw [hd]; exact hj)))
     rw [hd, ln] at c1 hl
     have hp : p ∈ C.o := List.mem_of_mem_drop (i := k) (by rw [hd]; simp)
     have hpl := hC.rel hp
     have hfew := hC.few
     obtain ⟨t0, t1⟩ := hC.t0 p hpl
     obtain ⟨τ, hτ⟩ : ∃ τ : Nat, (jb C.js p).t = (τ : Int) := ⟨(jb C.js p).t.toNat, by omega⟩
     have HT := Lib.hid hτ
     have hτl : τ < C.ts.length := by omega
     obtain ⟨jbk, jo, x, A, cc, hR, hx, hjl, hF⟩ := hC.row.get hpl
     have hxe := jb_get hx
     subst hxe
     have HF := Lib.hid hF
     have e1 := hc 0 p (by rw [hd]; rfl)
     rw [Nat.add_zero] at e1
     clear hc hd hE hg hrel t0 t1 hτ
     go_upto_region 1 with (go_at_call 108; (with_reducible refine Q.out.mono ?_); rintro e w1 ⟨rfl, nq, rfl⟩)
     have HCM1 := Lib.hid (fun n va hn hva => (HCM0.out n va hn hva).kt (KT.of (S := []) (below_drewN2 wr nq)) (by simp))
     have hE1 := HE.out.later hC (below_drewN2 wr nq)
     have e1' : (wr.drewN nq).cell? ⟨g, off, none⟩ = _ := e1
     clear e1 c1
     generalize wr.drewN nq = W1 at *
     have c0 := hE1.c0
     have c1 := hE1.c1
     have c2 := hE1.c2
     have c3 := hE1.c3
     have f1 := hE1.fz 1
     have hdl : (C.o.drop k).length = r.length + 1 := by rw [HD.out]; rfl
     simp only [hdl] at c1
     rw [hR] at c0
     have jW := hF.later hE1.bel
     have j0 := jW.c0
     have j1 := jW.c1
     have j2 := jW.c2
     have j3 := jW.c3
     have j4 := jW.c4
     have hld := jW.loadJ
     obtain ⟨va, hva⟩ : ∃ va, (if r.length = 0 then off else off + 1) = va := ⟨_, rfl⟩
     have HCM := Lib.hid (HCM1.out _ va rfl hva)
     have hsl := fun w => run_tail g off r.length w (by omega)
     rw [hva] at hsl
     clear hva
     have i0 : (0 : Int) ≤ (p : Int) := by omega
     have i1 : (p : Int) < (C.js.length : Int) := by omega
     have HE1 := Lib.hid hE1
     have JW := Lib.hid jW
     clear hE1 jW hdl hF hx hR
     go_upto_region 3 with (fail)
     have kx : KT [TX] W1 (W1.setCell ⟨C.bx, 1, none⟩ (.slice (some ⟨g, va, none⟩) r.length r.length)) := KT.set HE1.out.box (by simp)
     have bel2 : Below C.w0.heap.size C.w0 (W1.setCell ⟨C.bx, 1, none⟩ (.slice (some ⟨g, va, none⟩) r.length r.length)) := below_set HE1.out.bel hC.bx HE1.out.bel.size
     obtain ⟨W2, hW2⟩ : ∃ W2, W1.setCell ⟨C.bx, 1, none⟩ (.slice (some ⟨g, va, none⟩) r.length r.length) = W2 := ⟨_, rfl⟩
     have d0 : W2.cell? ⟨C.bx, 0, none⟩ = some (.slice (some ⟨jbk, jo, none⟩) C.js.length C.rc) := by rw [← hW2]; exact set_o c0 (by omega)
     have d2 : W2.cell? ⟨C.bx, 2, none⟩ = some (.pointer (some ⟨C.hb, 0, none⟩)) := by rw [← hW2]; exact set_o c2 (by omega)
     have d3 : W2.cell? ⟨C.bx, 3, none⟩ = some (.slice (some ⟨C.gq, 0, none⟩) C.ts.length C.ts.length) := by rw [← hW2]; exact set_o c3 (by omega)
     rw [hW2] at kx bel2 ⊢
     have KX := Lib.hid kx
     have BEL2 := Lib.hid bel2
     have jF2 := HF.out.later bel2
     have k0 := jF2.c0
     have k1 := jF2.c1
     have k2 := jF2.c2
     have k3 := jF2.c3
     have k4 := jF2.c4
     have kld := jF2.loadJ
     have HW2 := Lib.hid hW2
     clear kx bel2
     clear hW2 c0 c1 c2 c3 j0 j1 j2 j3 j4 hld f1 hsl e1' jF2
     go_upto_region 4 with (fail)
     rw [HT.out]
     have hb23 : Below W2.heap.size W2 (W2.alloc (.cells #[.int .i64 (τ : Int), .int .i64 (jb C.js p).a, .int .i64 (jb C.js p).r, .int .i64 (jb C.js p).k, .slice A (jb C.js p).c.length cc] 74)) := (Below.refl _ _).alloc (Nat.le_refl _) _
     have hzc := fun i => cell_of_row (W2.alloc (.cells #[.int .i64 (τ : Int), .int .i64 (jb C.js p).a, .int .i64 (jb C.js p).r, .int .i64 (jb C.js p).k, .slice A (jb C.js p).c.length cc] 74)) W2.heap.size i _ _ _ (heap_alloc_new W2 _)
     have HJB := Lib.hid (show ∃ cs, (W2.alloc (.cells #[.int .i64 (τ : Int), .int .i64 (jb C.js p).a, .int .i64 (jb C.js p).r, .int .i64 (jb C.js p).k, .slice A (jb C.js p).c.length cc] 74)).heap[W2.heap.size]? = some (Obj.cells cs 74 (0, 0)) from ⟨_, heap_alloc_new W2 _⟩)
     have z0 := hzc 0
     have z3 := hzc 3
     have z4 := hzc 4
     simp only [List.getElem?_toArray, List.getElem?_cons_zero, List.getElem?_cons_succ] at z0 z3 z4
     generalize W2.alloc (.cells #[.int .i64 (τ : Int), .int .i64 (jb C.js p).a, .int .i64 (jb C.js p).r, .int .i64 (jb C.js p).k, .slice A (jb C.js p).c.length cc] 74) = W3 at *
     generalize hnb : W2.heap.size = nb at *
     have l2 : C.bx < nb := by rw [← hnb]; exact World.block_lt_of_cell? W2 _ d2
     have y2 := (hb23.cell (p := ⟨C.bx, 2, none⟩) l2).trans d2
     have y3 := (hb23.cell (p := ⟨C.bx, 3, none⟩) l2).trans d3
     have HB23 := Lib.hid hb23
     have HNB := Lib.hid hnb
     obtain ⟨N, f, hQ1, hN⟩ := HE1.out.qs τ hτl
     simp only at hQ1
     have hQ3 := (hQ1.kt KX.out (by decide)).kt (KT.of (S := []) (by rw [hnb]; exact hb23)) (by simp)
     have HQ3 := Lib.hid hQ3
     have ti0 : (0 : Int) ≤ (τ : Int) := by omega
     have ti1 : (τ : Int) < (C.ts.length : Int) := by omega
     clear d0 d2 d3 k0 k1 k2 k3 k4 kld hzc hb23 hQ1 hQ3 hnb
     go_upto_region 4 with (fail)
     go_quiet (fail)
     have hB24 : Below nb W2 (W3.drewN nq) := HB23.out.trans ((below_drewN2 W3 nq).mono (by have := HB23.out.size; have := HNB.out; omega))
     have HJB : Hid (∃ cs, (W3.drewN nq).drew.heap[nb]? = some (Obj.cells cs 74 (0, 0))) := HJB
     have HQ4 := Lib.hid (HQ3.out.kt (KT.of (S := []) (below_drewN2 W3 nq)) (by simp))
     have z0' : (W3.drewN nq).cell? ⟨nb, 0, none⟩ = some (.int .i64 (τ : Int)) := z0
     have z3' : (W3.drewN nq).cell? ⟨nb, 3, none⟩ = some (.int .i64 (jb C.js p).k) := z3
     have z4' : (W3.drewN nq).cell? ⟨nb, 4, none⟩ = some (.slice A (jb C.js p).c.length cc) := z4
     have y2' : (W3.drewN nq).cell? ⟨C.bx, 2, none⟩ = some (.pointer (some ⟨C.hb, 0, none⟩)) := y2
     have HB24 := Lib.hid hB24
     clear z0 z3 z4 y2 y3 hB24 HQ3 HB23
     generalize W3.drewN nq = W4 at *
     have LN := len_anyP W4 HQ4.out
     rw [List.length_map] at LN
     by_cases h0 : quS C.js M.dn (C.o.take k) τ = []
     ·rw [h0] at LN
      have LN := Lib.hid LN
      have HZ0 := Lib.hid h0
      clear h0
      obtain ⟨X, c, hH, hcm⟩ := HE1.out.hp
      simp only at hH hcm
      have bel4 : Below C.w0.heap.size C.w0 W4.drew := (BEL2.out.trans (HB24.out.mono (by rw [← HNB.out]; exact BEL2.out.size))).trans ((below_drew W4).mono (BEL2.out.trans (HB24.out.mono (by rw [← HNB.out]; exact BEL2.out.size))).size)
      have kt4 : KT [TX] W1 W4.drew := KX.out.trans (KT.of (by rw [HNB.out]; exact HB24.out.trans ((below_drew W4).mono (by have := HB24.out.size; have := HNB.out; omega))))
      have hH4 := hH.kt kt4 (by decide) HE1.out.bel bel4 hC.lb HE1.out.bl
      have hol := hC.ord.len
      rw [List.length_map] at hol
      have PU := Lib.hid (hpushI (x := (τ : Int)) hH4 ⟨τ, rfl, by rw [hC.ps, List.length_map]; exact hτl⟩ (by omega))
      have HH4 := Lib.hid hH4
      have KT4 := Lib.hid kt4
      have BEL4 := Lib.hid bel4
      have HCM2 := Lib.hid hcm
      clear hH hH4 kt4 bel4 hcm hol
      go_upto_region 6 with (go_at_call 127; (with_reducible refine LN.out.mono ?_); rintro e w1 ⟨rfl, rfl⟩)
      go_region_with (
       go_at_call 126; (with_reducible refine PU.out.mono ?_); rintro e W5 ⟨rfl, X', hH5, hK5, hX5⟩;
       have k23 : KT [THe, TTh] W4.drew W5 := KT.kept hK5 HH4.out.tys;
       obtain ⟨csj, hcsj⟩ := HJB.out;
       have z3'' := (k23.cell (b := nb) (i := 3) (v := .int .i64 0) hcsj (by decide)).trans z3';
       have z4'' := (k23.cell (b := nb) (i := 4) (v := .int .i64 0) hcsj (by decide)).trans z4';
       have hQV := (HQ4.out.kt (KT.of (S := []) (below_drew W4)) (by simp)).kt k23 (by decide);
       have bV : Below C.w0.heap.size C.w0 W5 := BEL4.out.trans (hK5.below BEL4.out.size (fun j hj => Nat.le_trans hC.Bh (HH4.out.ge j hj).1));
       have hbd : Below W2.heap.size W2 W4.drew := (by rw [HNB.out]; exact HB24.out.trans ((below_drew W4).mono (by have := HB24.out.size; have := HNB.out; omega)));
       have hHV : ∃ X c, HsI C.K C.Bh W5 C.hb X c (LS C { M with m := k, L := L } τ) ∧ c ≤ k + 1 := ⟨X', c + 1, (by unfold LS; rw [if_pos HZ0.out]; exact hH5), (by have := HCM2.out; omega)⟩;
       have hb6 : Below W5.heap.size W5 (W5.alloc (.cells #[.int .i64 (p : Int), .int .i64 (jb C.js p).k, .slice A (jb C.js p).c.length cc] TRe)) := (Below.refl _ _).alloc (Nat.le_refl _) _;
       have hQ6 := hQV.kt (KT.of (S := []) hb6) (by simp);
       have PP := Lib.hid (qpushP W5.heap.size _ hQ6 hN);
       have HQ6 := Lib.hid hQ6;
       have HHV := Lib.hid hHV;
       have BV := Lib.hid bV;
       have K23 := Lib.hid k23;
       have HBD := Lib.hid hbd;
       clear z0' z3' z4' y2' hcsj hH5 hK5 hX5 hQV hQ6 hb6 hHV bV k23 hbd)
      all_goals
       go_wp2_with (go_at_call 128; (with_reducible refine PP.out.mono ?_); rintro e W7 ⟨rfl, v', f', hQ7, hK7, hF7, hX7⟩)
       have hkp : kO M.dn p < (jb C.js p).k := by rw [HZ.out p (hmd p (by rw [HD.out]; simp))]; have := hC.lg.k1 p hpl; omega
       have hNr : roomUp N ((quS C.js M.dn (C.o.take k) τ).map rb).length ≤ 2004 := by
        have h1 := quS_len (js := C.js) (dn := M.dn) (l := C.o.take k) (τ := τ)
        have h2 : (C.o.take k).length ≤ C.o.length := by rw [List.length_take]; exact Nat.min_le_right _ _
        have h3 := hC.ord.len
        rw [List.length_map] at h3
        rw [List.length_map]
        unfold roomUp
        split
        ·omega
        ·exact hN
       have fin := HE1.out.rel (v' := v') (A := A) (cc := cc) hC HD.out HT.out hτl hkp (lfN_zero hC (HZ.out p (hmd p (by rw [HD.out]; simp)))) HF.out.s (fun _ => ⟨_, HW2.out.symm, HCM.out⟩) HBD.out K23.out BV.out HHV.out rfl HQ6.out hQ7 hNr hK7 hF7 hX7
       obtain ⟨vc2, rb2, rv2, hE2⟩ := fin
       have hd2 := hI.out.hd.rel (M := { M with m := k, L := L }) hC HD.out HT.out hkp hτl
       have hlo2 : ∀ q ∈ C.o.take (k + 1), (jb C.js q).r ≤ M.now := by
        have hpo : C.o[k]? = some p := by rw [← List.head?_drop, HD.out]; rfl
        rw [take_one hpo]
        intro q hq
        rcases List.mem_append.1 hq with hq | hq
        ·exact hI.out.lo q hq
        ·rw [List.mem_singleton.1 hq]; exact hr
       have hk1 : k + 1 ≤ C.o.length := by
        have := congrArg List.length HD.out
        rw [List.length_drop] at this
        simp at this; omega
       have FIN := Lib.hid (show RlI C M (k + 1) (LS C { M with m := k, L := L } τ) W7 from ⟨⟨vc2, vs, ve, rb2, rv2, hE2⟩, hd2, hk1, by have := hI.out.ge; omega, hlo2⟩)
       clear hE2 hd2 hlo2 hQ7 hK7 hF7 hX7
       go_roundg (gk - 1)
       case measure => omega
       case rel => exact ⟨k + 1, _, by omega, hk1, FIN⟩
     ·have hne : ((((quS C.js M.dn (C.o.take k) τ).length : Nat) : Int) == 0) = false := by
       rw [beq_eq_false_iff_ne]
       intro hh
       exact h0 (List.eq_nil_of_length_eq_zero (by omega))
      have LN := Lib.hid LN
      have HZ0 := Lib.hid h0
      clear h0
      go_upto_region 7 with (go_at_call 127; (with_reducible refine LN.out.mono ?_); rintro e w1 ⟨rfl, rfl⟩)
      have k23 : KT [THe, TTh] W4 W4 := KT.refl _ _
      have hQV := HQ4.out
      have hbd : Below W2.heap.size W2 W4 := by rw [HNB.out]; exact HB24.out
      have bV : Below C.w0.heap.size C.w0 W4 := BEL2.out.trans (HB24.out.mono (by rw [← HNB.out]; exact BEL2.out.size))
      obtain ⟨X, c, hH, hcm⟩ := HE1.out.hp
      simp only at hH hcm
      have hHV : ∃ X c, HsI C.K C.Bh W4 C.hb X c (LS C { M with m := k, L := L } τ) ∧ c ≤ k + 1 := ⟨X, c, by unfold LS; rw [if_neg HZ0.out]; exact hH.kt (KX.out.trans (KT.of (by rw [HNB.out]; exact HB24.out))) (by decide) HE1.out.bel bV hC.lb HE1.out.bl, by omega⟩
      clear hH hcm
      have hb6 : Below W4.heap.size W4 (W4.alloc (.cells #[.int .i64 (p : Int), .int .i64 (jb C.js p).k, .slice A (jb C.js p).c.length cc] TRe)) := (Below.refl _ _).alloc (Nat.le_refl _) _
      have hQ6 := hQV.kt (KT.of (S := []) hb6) (by simp)
      have PP := Lib.hid (qpushP W4.heap.size _ hQ6 hN)
      have HQ6 := Lib.hid hQ6
      have HHV := Lib.hid hHV
      have BV := Lib.hid bV
      have K23 := Lib.hid k23
      have HBD := Lib.hid hbd
      clear hQV hQ6 hb6 hHV bV k23 hbd
      go_wp2_with (go_at_call 128; (with_reducible refine PP.out.mono ?_); rintro e W7 ⟨rfl, v', f', hQ7, hK7, hF7, hX7⟩)
      have hkp : kO M.dn p < (jb C.js p).k := by rw [HZ.out p (hmd p (by rw [HD.out]; simp))]; have := hC.lg.k1 p hpl; omega
      have hNr : roomUp N ((quS C.js M.dn (C.o.take k) τ).map rb).length ≤ 2004 := by
       have h1 := quS_len (js := C.js) (dn := M.dn) (l := C.o.take k) (τ := τ)
       have h2 : (C.o.take k).length ≤ C.o.length := by rw [List.length_take]; exact Nat.min_le_right _ _
       have h3 := hC.ord.len
       rw [List.length_map] at h3
       rw [List.length_map]
       unfold roomUp
       split
       ·omega
       ·exact hN
      have fin := HE1.out.rel (v' := v') (A := A) (cc := cc) hC HD.out HT.out hτl hkp (lfN_zero hC (HZ.out p (hmd p (by rw [HD.out]; simp)))) HF.out.s (fun _ => ⟨_, HW2.out.symm, HCM.out⟩) HBD.out K23.out BV.out HHV.out rfl HQ6.out hQ7 hNr hK7 hF7 hX7
      obtain ⟨vc2, rb2, rv2, hE2⟩ := fin
      have hd2 := hI.out.hd.rel (M := { M with m := k, L := L }) hC HD.out HT.out hkp hτl
      have hlo2 : ∀ q ∈ C.o.take (k + 1), (jb C.js q).r ≤ M.now := by
       have hpo : C.o[k]? = some p := by rw [← List.head?_drop, HD.out]; rfl
       rw [take_one hpo]
       intro q hq
       rcases List.mem_append.1 hq with hq | hq
       ·exact hI.out.lo q hq
       ·rw [List.mem_singleton.1 hq]; exact hr
      have hk1 : k + 1 ≤ C.o.length := by
       have := congrArg List.length HD.out
       rw [List.length_drop] at this
       simp at this; omega
      have FIN := Lib.hid (show RlI C M (k + 1) (LS C { M with m := k, L := L } τ) W7 from ⟨⟨vc2, vs, ve, rb2, rv2, hE2⟩, hd2, hk1, by have := hI.out.ge; omega, hlo2⟩)
      clear hE2 hd2 hlo2 hQ7 hK7 hF7 hX7
      go_roundg (gk - 1)
      case measure => omega
      case rel => exact ⟨k + 1, _, by omega, hk1, FIN⟩
    ·have hq : (decide ((jb C.js p).r - M.now ≤ 0)) = false := decide_eq_false (by omega)
     have hrl := rel_done hC hkl hI.out.lo (fun p' r' e => by rw [hd] at e; injection e with e1 e2; subst e1; omega)
     have HR := Lib.hid hrl
     have Q := Lib.hid Q
     rw [hd, ln] at c1
     clear hE hc hl hg hd hrl hr hrel
     go_wp2_with (go_at_call 108; (with_reducible refine Q.out.mono ?_); rintro e w1 ⟨rfl, nq, rfl⟩)
     go_end0
     refine ⟨rfl, k, L, ⟨⟨_, vs, ve, rb, rv, HE.out.later hC (below_drewN2 wr nq)⟩, hI.out.hd, hI.out.le, hI.out.ge, hI.out.lo⟩, HR.out⟩
end
section
open Go.RowKit
attribute [local go_sem ↓] Go.wp_at_zero Go.wp_at_succ
theorem step_appS {ops : Array Oper} {o : Oper} {a : Act} {w : World} {K : Act → World → Prop} {Q : Exit → Act → World → Prop} {E : Prop}
  (hg : o.guard = none) (s x : Operand) (hop : o.op = Op.call { callee := Callee.builtin Builtin.append, args := #[s, x], argTypes := #[59, 59] })
  (base : Nat) (v : Value) (n : Nat) (xs : List Value) (hs : a.eval s = v) (hown : w.ownsRow base TSp 3 v n xs)
  (ad : Addr) (news : List Value) (hx : a.eval x = .slice (some ad) 1 1) (hn : news.length = 3) (hc : ∀ j u, news[j]? = some u → w.cell? (ad.add j) = some u) (h1c : ∀ u ∈ news, u.oneCell' = true)
  (b1 : n ≤ 1000000000001) (hbase : base ≤ w.heap.size)
  (hK : ∀ v' w', w'.ownsRow base TSp 3 v' (n + 1) (xs ++ news) → w.grownBy w' v.ownBlock → K (a.put o.dst v') w') :
  if Region.wanted o (yielded ops a.tmps) = true then Oper.wp Tryz.prog o a w K Q else E := by
 have hw : Region.wanted o (yielded ops a.tmps) = true := by simp [Region.wanted, hg]
 rw [if_pos hw]
 obtain ⟨i0, hi, hz0, hz1, hz2⟩ := info_parts infoSp
 obtain ⟨v', w', hrun, r1, r2, _⟩ := run_append_own (P := Tryz.prog) w base 59 o.type TSp i0 _ 3 24 Tryz.underlying59 hi hz0 hz1 hz2 rfl (by omega) v n xs hown ad 1 1 news (by omega) hc h1c (by unfold maxLen; omega) (by omega) hbase
 unfold Oper.wp
 simp [execOp, hop, resolve, invoke, builtin, hs, hx, hrun, Result.andThen]
 exact hK v' w' r1 r2
section
variable {C : Cfg} {w w' : World} {M : Mv} {vc vs ve : Value} {rb : Nat → Nat} {rv : Nat → Value} {lf : Nat → Int × List Int}
def ExT (C : Cfg) (M : Mv) (vc ve : Value) (rb : Nat → Nat) (rv : Nat → Value) (lf : Nat → Int × List Int) (e : Ending) (w' : World) : Prop := e = .returned (.tuple #[]) ∧ ∃ vs, Ex C w' M vc vs ve rb rv lf
theorem Ex.span (h : Ex C w M vc vs ve rb rv lf) (hC : Cok C) (k : KT [TX, TSp] w w') (b' : Below C.w0.heap.size C.w0 w') {vs' : Value} {sp' : List Spn}
  (hbox : w'.heap[C.bx]? = some (.cells #[.slice C.R C.js.length C.rc, vc, .pointer (some ⟨C.hb, 0, none⟩), .slice (some ⟨C.gq, 0, none⟩) C.ts.length C.ts.length, .int .i64 M.now, vs', ve] TX (0, 0)))
  (hs : w'.ownsRow C.w0.heap.size TSp 3 vs' sp'.length (spC sp')) : Ex C w' { M with sp := sp' } vc vs' ve rb rv lf := by
 refine ⟨b', hbox, h.com.kt k (by decide), hs, k.row h.ens (by decide), ?_, ?_, fun τ hτ => ?_, h.qd, fun p hp hk => (h.rs p hp hk).kt k (by decide), h.rd⟩
 ·obtain ⟨X, c, h1, h2⟩ := h.hp
  exact ⟨X, c, h1.kt k (by decide) h.bel b' hC.lb h.bl, h2⟩
 ·obtain ⟨cs, hc⟩ := h.bl
  exact ⟨cs, k.blk _ _ _ hc (by decide)⟩
 ·obtain ⟨N, f, h1, h2⟩ := h.qs τ hτ
  exact ⟨N, f, h1.kt k (by decide), h2⟩
theorem Ex.grow {l : List Spn} {x : Spn} {g cap : Nat} (h : Ex C w M vc (.slice (some ⟨g, 0, none⟩) (l.length + 1) cap) ve rb rv lf) (hC : Cok C) (hsp : M.sp = l ++ [x]) (t : Int) :
  Ex C (w.setCell ⟨g, l.length * 3 + 2, none⟩ (.int .i64 t)) { M with sp := l ++ [⟨x.j, x.f, t⟩] } vc (.slice (some ⟨g, 0, none⟩) (l.length + 1) cap) ve rb rv lf := by
 have hs := h.spn
 rw [hsp] at hs
 obtain ⟨cs, hcs⟩ := own_ty hs (g := g) rfl
 have hne : C.bx ≠ g := fun e => by
  have := h.box
  rw [e, hcs] at this
  simp only [Option.some.injEq, Obj.cells.injEq] at this
  exact absurd this.2.1 (by decide)
 have hg := (hs.lt g rfl).1
 refine h.span hC (KT.set hcs (by simp)) (below_set h.bel hg h.bel.size) ?_ ?_
 ·rw [Below.heap_setCell _ _ _ _ (by simpa using hne)]; exact h.box
 ·have h2 : (l ++ [x]).length = l.length + 1 := by simp
  have h3 := own_set hs (g := g) rfl (i := l.length * 3 + 2) (by rw [h2]; omega) (.int .i64 t)
  rw [sp_set] at h3
  simpa using h3
theorem Ex.more {vs2 : Value} {w1 w2 : World} {x : Spn} (h : Ex C w M vc vs ve rb rv lf) (hC : Cok C) (hB : Below w.heap.size w w1) (hown : w2.ownsRow C.w0.heap.size TSp 3 vs2 (M.sp.length + 1) (spC M.sp ++ snL x)) (hg : w1.grownBy w2 vs.ownBlock) :
  (w2.cell? ⟨C.bx, 4, none⟩ = some (.int .i64 M.now) ∧ w2.cell? ⟨C.bx, 5, none⟩ = some vs ∧ ∀ i, w2.frozen? ⟨C.bx, i, none⟩ = false) ∧
  Ex C (w2.setCell ⟨C.bx, 5, none⟩ vs2) { M with sp := M.sp ++ [x] } vc vs2 ve rb rv lf := by
 have h1 := h.later hC hB
 have hsp := h1.spn
 have hk : Kept vs.ownBlock.toList w1 w2 := kept_grown hg (fun k hk => by simp [hk])
 have kt : KT [TX, TSp] w1 w2 := KT.kept hk (fun k hm => by
  obtain ⟨cs, hc⟩ := own_ty hsp (g := k) (by simpa using hm)
  exact ⟨cs, _, hc, by simp⟩)
 have hbox2 : w2.heap[C.bx]? = some (.cells #[.slice C.R C.js.length C.rc, vc, .pointer (some ⟨C.hb, 0, none⟩), .slice (some ⟨C.gq, 0, none⟩) C.ts.length C.ts.length, .int .i64 M.now, vs, ve] TX (0, 0)) := by
  refine (hk.block C.bx (Array.getElem?_eq_some_iff.1 h1.box).1 (fun hm => ?_)).trans h1.box
  exact own_ne hsp h1.box (by decide) (by simpa using hm)
 have kt2 : KT [TX, TSp] w1 (w2.setCell ⟨C.bx, 5, none⟩ vs2) := kt.trans (KT.set hbox2 (by simp))
 have b2 : Below C.w0.heap.size C.w0 w2 := h1.bel.trans (hk.below h1.bel.size (fun k hm => (hsp.lt k (by simpa using hm)).1))
 refine ⟨⟨cell_of_row w2 C.bx 4 _ _ _ hbox2, cell_of_row w2 C.bx 5 _ _ _ hbox2, fun i => by simp [World.frozen?, hbox2]⟩, h1.span hC kt2 (below_set b2 hC.bx b2.size) (heap_setCell_same _ _ 5 _ _ _ hbox2) ?_⟩
 have hne : ∀ g, vs2.ownBlock = some g → g ∉ [C.bx] := fun g hg2 => by
  rw [List.mem_singleton]
  intro e
  subst e
  exact own_ne hown hbox2 (by decide) hg2
 have := ((Kept.refl [C.bx] w2).set C.bx 5 vs2 (by simp)).row hown hne
 rw [List.length_append, spC_app]
 exact this
theorem tell_grow {i : Nat} {l : List Spn} {x : Spn} {n : Int} (hC : Cok C) (h : Ex C w M vc vs ve rb rv lf) (hsp : M.sp = l ++ [x]) (hx : x.j = i) (hb : l.length ≤ 1000000000000) (hi : i ≤ 1000000) (ht : 0 ≤ x.t) (hn : 0 ≤ n) (hs : x.t + n ≤ 9223372036854775807) :
  Calls Tryz.prog 131 #[.pointer (some ⟨C.bx, 0, none⟩), .int .i64 (i : Int), .int .i64 n] w (ExT C { M with sp := l ++ [⟨i, x.f, x.t + n⟩] } vc ve rb rv lf) := by
 subst hx
 have hown := h.spn
 have hlen : M.sp.length = l.length + 1 := by rw [hsp]; simp
 obtain ⟨g, cap, rfl, hBg, hgl, hle, hmx, hfz⟩ := own_form hown (by omega)
 rw [hlen] at h hown hle
 have hu : ∀ j u, (snL x)[j]? = some u → w.cell? ⟨g, l.length * 3 + j, none⟩ = some u := fun j u hj => own_cell hown rfl (by
  rw [hsp, spC_app, List.getElem?_append_right (by rw [spC_len]; omega), spC_len]
  rw [show l.length * 3 + j - l.length * 3 = j by omega]; exact hj)
 have u0 := hu 0 _ rfl
 have u2 := hu 2 _ rfl
 have c5 := h.c5
 have f2 := hfz (l.length * 3 + 2)
 have G := Lib.hid (h.grow hC hsp (x.t + n))
 have hw2 : wrap64 (x.t + n) = x.t + n := wrap64_in (by omega)
 have i0 : (0 : Int) ≤ (l.length : Int) := by omega
 have i1 : (l.length : Int) < ((l.length + 1 : Nat) : Int) := by omega
 have i2 : ((l.length + 1 : Nat) : Int) - 1 = (l.length : Int) := by omega
 unfold maxLen at hmx
 rw [Nat.add_zero] at u0
 generalize l.length = m at *
 clear h hown hu hfz hlen hsp
 go_enter Tryz.func131, Tryz.ntmps131
 go_wp2
 refine bodyPost_ret (results_none rfl _ _ _) rfl ?_
 exact ⟨rfl, _, G.out⟩
theorem tell_first {i : Nat} {n : Int} (hC : Cok C) (h : Ex C w M vc vs ve rb rv lf) (hsp : M.sp = []) (hi : i ≤ 1000000) (ht : 0 ≤ M.now) (hn : 0 ≤ n) (hs : M.now + n ≤ 9223372036854775807) :
  Calls Tryz.prog 131 #[.pointer (some ⟨C.bx, 0, none⟩), .int .i64 (i : Int), .int .i64 n] w (ExT C { M with sp := [⟨i, M.now, M.now + n⟩] } vc ve rb rv lf) := by
 have hown := h.spn
 have hlen : M.sp.length = 0 := by rw [hsp]; rfl
 obtain ⟨A, cap, rfl, hle, hmx⟩ := own_len hown
 rw [hlen] at h hown
 have c4 := h.c4
 have c5 := h.c5
 have hbel := h.bel.size
 have hw2 : wrap64 (M.now + n) = M.now + n := wrap64_in (by omega)
 unfold maxLen at hmx
 have hbl : C.bx < w.heap.size := World.block_lt_of_cell? w _ c4
 have H := Lib.hid h
 have HS := Lib.hid hsp
 clear h hsp hlen
 go_enter Tryz.func131, Tryz.ntmps131
 go_upto_region 2 with (fail)
 have O1 := Lib.hid (H.out.later hC ((below_drew w).trans ((Below.refl _ w.drew).alloc (Nat.le_refl _) (.cells #[.int .i64 (i : Int), .int .i64 M.now, .int .i64 M.now] TSp))))
 have BW := Lib.hid ((below_drew w).trans ((Below.refl _ w.drew).alloc (Nat.le_refl _) (.cells #[.int .i64 (i : Int), .int .i64 M.now, .int .i64 M.now] TSp)))
 go_region_law (first
  | (refine step_appS rfl _ _ rfl C.w0.heap.size (.slice A 0 cap) 0 (spC M.sp) rfl (by have := O1.out.spn; rw [HS.out] at this ⊢; exact this) ⟨w.heap.size, 0, none⟩ (snL ⟨i, M.now, M.now⟩) rfl rfl (sp_new w.drew ⟨i, M.now, M.now⟩) (sp_one ⟨i, M.now, M.now⟩) (by omega) (Nat.le_trans hbel (by simp)) ?_
     intro v2 w2 hown2 hg2
     have MO := H.out.more (x := ⟨i, M.now, M.now⟩) hC BW.out (by rw [HS.out] at hown2 ⊢; exact hown2) hg2
     obtain ⟨g2, cap2, rfl, -, hgl2, hle2, hmx2, -⟩ := own_form hown2 (by omega)
     obtain ⟨⟨d4, d5, fz⟩, MO⟩ := MO
     have f5 := fz 5))
 all_goals
  obtain ⟨W, hW⟩ : ∃ W, w2.setCell ⟨C.bx, 5, none⟩ (.slice (some ⟨g2, 0, none⟩) (0 + 1) cap2) = W := ⟨_, rfl⟩
  rw [hW] at MO
  rw [hW]
  clear hW f5 fz d4 d5 hown2 hg2
  have m5 := MO.c5
  have hsn := MO.spn
  have u2 : W.cell? ⟨g2, 2, none⟩ = some (.int .i64 M.now) := own_cell hsn rfl (by rw [HS.out] <;> rfl)
  have f2 : W.frozen? ⟨g2, 2, none⟩ = false := by
   obtain ⟨cs, hcs⟩ := own_ty hsn (g := g2) rfl
   simp [World.frozen?, hcs]
  have G := Lib.hid (show Ex C (W.setCell ⟨g2, 2, none⟩ (.int .i64 (M.now + n))) { M with sp := [⟨i, M.now, M.now + n⟩] } vc (.slice (some ⟨g2, 0, none⟩) 1 cap2) ve rb rv lf from
   MO.grow (l := []) (x := ⟨i, M.now, M.now⟩) hC (by rw [HS.out] <;> rfl) (M.now + n))
  clear MO hsn
  go_wp2
  refine bodyPost_ret (results_none rfl _ _ _) rfl ?_
  exact ⟨rfl, _, G.out⟩
theorem tell_other {i : Nat} {n : Int} {l : List Spn} {x : Spn} (hC : Cok C) (h : Ex C w M vc vs ve rb rv lf) (hsp : M.sp = l ++ [x]) (hx : x.j ≠ i) (hb : l.length ≤ 1000000000000) (hi : i ≤ 1000000) (ht : 0 ≤ M.now) (hn : 0 ≤ n) (hs : M.now + n ≤ 9223372036854775807) :
  Calls Tryz.prog 131 #[.pointer (some ⟨C.bx, 0, none⟩), .int .i64 (i : Int), .int .i64 n] w (ExT C { M with sp := M.sp ++ [⟨i, M.now, M.now + n⟩] } vc ve rb rv lf) := by
 have hown := h.spn
 obtain ⟨m, hm⟩ : ∃ m, l.length = m := ⟨_, rfl⟩
 obtain ⟨q, hq⟩ : ∃ q, m + 1 = q := ⟨_, rfl⟩
 have hlen : M.sp.length = q := by rw [hsp, ← hq, ← hm]; simp
 obtain ⟨g, cap, rfl, hBg, hgl, hle, hmx, hfz⟩ := own_form hown (by omega)
 rw [hlen] at h hown hle
 have u0 : w.cell? ⟨g, m * 3, none⟩ = some (.int .i64 (x.j : Int)) := by
  have := own_cell hown (g := g) rfl (i := m * 3) (u := .int .i64 (x.j : Int)) (by
   rw [hsp, spC_app, List.getElem?_append_right (by rw [spC_len, hm]; exact Nat.le_refl _), spC_len, hm, Nat.sub_self]; rfl)
  exact this
 have hne1 : ¬ ((x.j : Int) = (i : Int)) := by omega
 have hne2 : ((x.j : Int) != (i : Int)) = true := by rw [bne_iff_ne]; exact hne1
 have hnt : (decide ((m : Int) < 0) || ((x.j : Int) != (i : Int))) = true := by rw [hne2, Bool.or_true]
 have i0 : (0 : Int) ≤ (m : Int) := by omega
 have i1 : (m : Int) < (q : Int) := by omega
 have i2 : (q : Int) - 1 = (m : Int) := by omega
 have i3 : (m : Int) + 1 = (q : Int) := by omega
 have i4 : (q : Int) < ((q + 1 : Nat) : Int) := by omega
 have i5 : (0 : Int) ≤ (q : Int) := by omega
 have hm6 : m ≤ 1000000000000 := by omega
 have hq6 : q ≤ 1000000000001 := by omega
 have c4 := h.c4
 have c5 := h.c5
 have hbel := h.bel.size
 have hw2 : wrap64 (M.now + n) = M.now + n := wrap64_in (by omega)
 unfold maxLen at hmx
 have hbl : C.bx < w.heap.size := World.block_lt_of_cell? w _ c4
 have H := Lib.hid h
 have HS := Lib.hid hlen
 have HF := Lib.hid hfz
 clear h hsp hlen hb hm hx hfz hq
 go_enter Tryz.func131, Tryz.ntmps131
 go_upto_region 2 with (fail)
 have O1 := Lib.hid (H.out.later hC ((below_drew w).trans ((Below.refl _ w.drew).alloc (Nat.le_refl _) (.cells #[.int .i64 (i : Int), .int .i64 M.now, .int .i64 M.now] TSp))))
 have BW := Lib.hid ((below_drew w).trans ((Below.refl _ w.drew).alloc (Nat.le_refl _) (.cells #[.int .i64 (i : Int), .int .i64 M.now, .int .i64 M.now] TSp)))
 go_region_law (first
  | (refine step_appS rfl _ _ rfl C.w0.heap.size (.slice (some ⟨g, 0, none⟩) q cap) q (spC M.sp) rfl (by have := O1.out.spn; rw [HS.out] at this; exact this) ⟨w.heap.size, 0, none⟩ (snL ⟨i, M.now, M.now⟩) rfl rfl (sp_new w.drew ⟨i, M.now, M.now⟩) (sp_one ⟨i, M.now, M.now⟩) (by omega) (Nat.le_trans hbel (by simp)) ?_
     intro v2 w2 hown2 hg2
     have MO := H.out.more (x := ⟨i, M.now, M.now⟩) hC BW.out (by rw [HS.out]; exact hown2) hg2
     obtain ⟨g2, cap2, rfl, -, hgl2, hle2, hmx2, -⟩ := own_form hown2 (by omega)
     obtain ⟨⟨d4, d5, fz⟩, MO⟩ := MO
     have f5 := fz 5))
 all_goals
  obtain ⟨W, hW⟩ : ∃ W, w2.setCell ⟨C.bx, 5, none⟩ (.slice (some ⟨g2, 0, none⟩) (q + 1) cap2) = W := ⟨_, rfl⟩
  rw [hW] at MO
  rw [hW]
  clear hW f5 fz d4 d5 hown2 hg2
  have m5 := MO.c5
  have hsn := MO.spn
  have u2 : W.cell? ⟨g2, q * 3 + 2, none⟩ = some (.int .i64 M.now) := own_cell hsn rfl (by rw [spC_app, List.getElem?_append_right (by rw [spC_len, HS.out]; omega), spC_len, HS.out, show q * 3 + 2 - q * 3 = 2 by omega]; rfl)
  have f2 : W.frozen? ⟨g2, q * 3 + 2, none⟩ = false := by
   obtain ⟨cs, hcs⟩ := own_ty hsn (g := g2) rfl
   simp [World.frozen?, hcs]
  have G := Lib.hid (show Ex C (W.setCell ⟨g2, q * 3 + 2, none⟩ (.int .i64 (M.now + n))) { M with sp := M.sp ++ [⟨i, M.now, M.now + n⟩] } vc (.slice (some ⟨g2, 0, none⟩) (q + 1) cap2) ve rb rv lf from
by
        have := Ex.grow (l := M.sp) (x := ⟨i, M.now, M.now⟩) (cap := cap2) (g := g2) (by rw [HS.out]; exact MO) hC rfl (M.now + n)
        rw [HS.out] at this
        exact this)
  clear MO hsn
  go_wp2
  refine bodyPost_ret (results_none rfl _ _ _) rfl ?_
  exact ⟨rfl, _, G.out⟩
theorem tell_any {i : Nat} {n : Int} (hC : Cok C) (h : Ex C w M vc vs ve rb rv lf) (hl : ∀ x, M.sp.getLast? = some x → x.j = i → x.t = M.now) (hb : M.sp.length ≤ 1000000000000) (hi : i ≤ 1000000) (ht : 0 ≤ M.now) (hn : 0 ≤ n) (hs : M.now + n ≤ 9223372036854775807) :
  Calls Tryz.prog 131 #[.pointer (some ⟨C.bx, 0, none⟩), .int .i64 (i : Int), .int .i64 n] w (ExT C { M with sp := addN M.sp i M.now n } vc ve rb rv lf) := by
 rcases List.eq_nil_or_concat M.sp with h0 | ⟨l, x, h0⟩
 ·have := tell_first hC h h0 hi ht hn hs
  unfold addN
  rw [h0]
  exact this
 ·rw [List.concat_eq_append] at h0
  have hlen : l.length + 1 = M.sp.length := by rw [h0]; simp
  by_cases hx : x.j = i
  ·have ht2 := hl x (by rw [h0]; simp) hx
   have := tell_grow hC h h0 hx (by omega) hi (by omega) hn (by omega)
   unfold addN
   rw [h0, List.getLast?_concat]
   simp only [hx, ht2, and_self, if_true, List.dropLast_concat]
   rw [ht2] at this
   exact this
  ·have := tell_other hC h h0 hx (by omega) hi ht hn hs
   unfold addN
   rw [h0, List.getLast?_concat]
   simp only [hx, false_and, if_false]
   rw [h0] at this
   exact this
end
end
section
open Go.RowKit
attribute [local go_sem ↓] Go.wp_at_zero Go.wp_at_succ
section
variable {C : Cfg} {w w' w1 w2 : World} {M : Mv} {vc vs ve : Value} {rb : Nat → Nat} {rv : Nat → Value} {lf : Nat → Int × List Int}
theorem quS_same {js : List Fv} {dn dn' : List Int} {l : List Nat} {τ : Nat} (h : ∀ p ∈ l, (kO dn' p < (jb js p).k ↔ kO dn p < (jb js p).k)) : quS js dn' l τ = quS js dn l τ := by
 unfold quS
 refine List.filter_congr fun p hp => ?_
 congr 1
 exact decide_eq_decide.2 (h p hp)
theorem Ex.dn {dn' : List Int} (h : Ex C w M vc vs ve rb rv lf) (hq : ∀ p ∈ C.o.take M.m, (kO dn' p < (jb C.js p).k ↔ kO M.dn p < (jb C.js p).k)) : Ex C w { M with dn := dn' } vc vs ve rb rv lf :=
 ⟨h.bel, h.box, h.com, h.spn, h.ens, h.hp, h.bl, fun τ hτ => by
  obtain ⟨N, f, h1, h2⟩ := h.qs τ hτ
  exact ⟨N, f, by rw [quS_same hq]; exact h1, h2⟩, h.qd, fun p hp hk => h.rs p hp ((hq p hp).1 hk), fun p q hp hk hq' hk' hne => h.rd p q hp ((hq p hp).1 hk) hq' ((hq q hq').1 hk') hne⟩
theorem Hd.dn {dn' : List Int} {L : List Int} (h : Hd C.ts C.js M.dn (C.o.take M.m) L) (hq : ∀ p ∈ C.o.take M.m, (kO dn' p < (jb C.js p).k ↔ kO M.dn p < (jb C.js p).k)) : Hd C.ts C.js dn' (C.o.take M.m) L :=
 ⟨h.srt, fun τ => by rw [quS_same hq]; exact h.mem τ, h.nat⟩
theorem Ex.lfs {lf' : Nat → Int × List Int} (h : Ex C w M vc vs ve rb rv lf) (hq : ∀ p ∈ C.o.take M.m, kO M.dn p < (jb C.js p).k → lf' p = lf p) : Ex C w M vc vs ve rb rv lf' :=
 ⟨h.bel, h.box, h.com, h.spn, h.ens, h.hp, h.bl, h.qs, h.qd, fun p hp hk => by rw [hq p hp hk]; exact h.rs p hp hk, h.rd⟩
theorem Ex.rest {i : Nat} {k : Int} {c : List Int} (h : Ex C w M vc vs ve rb rv lf) (hC : Cok C) (hi : i ∈ C.o.take M.m) (hk : kO M.dn i < (jb C.js i).k) (hK : Kept [rb i] w w') (hr : Rst C.w0 w' (rb i) i k c) : Ex C w' M vc vs ve rb rv (fun q => if q = i then (k, c) else lf q) := by
 have hR := h.rs i hi hk
 obtain ⟨A, cc, hA, hcr⟩ := hR.is
 have kt : KT [TRe] w w' := KT.kept hK (fun j hj => by rw [List.mem_singleton.1 hj]; exact ⟨_, _, hA, by simp⟩)
 have b' : Below C.w0.heap.size C.w0 w' := h.bel.trans (hK.below h.bel.size (fun j hj => by rw [List.mem_singleton.1 hj]; exact hR.ge))
 refine ⟨b', kt.blk _ _ _ h.box (by decide), h.com.kt kt (by decide), kt.row h.spn (by decide), kt.row h.ens (by decide), ?_, ?_, fun τ hτ => ?_, h.qd, fun p hp hpk => ?_, h.rd⟩
 ·obtain ⟨X, c, h1, h2⟩ := h.hp
  exact ⟨X, c, h1.kt kt (by decide) h.bel b' hC.lb h.bl, h2⟩
 ·obtain ⟨cs, hc⟩ := h.bl
  exact ⟨cs, kt.blk _ _ _ hc (by decide)⟩
 ·obtain ⟨N, f, h1, h2⟩ := h.qs τ hτ
  exact ⟨N, f, h1.kt kt (by decide), h2⟩
 ·by_cases hpi : p = i
  ·subst hpi
   simp only [if_true]
   exact hr
  ·simp only [if_neg hpi]
   have hP := h.rs p hp hpk
   obtain ⟨A2, cc2, hA2, hcr2⟩ := hP.is
   exact ⟨hP.ge, A2, cc2, (hK.block _ (Array.getElem?_eq_some_iff.1 hA2).1 (by rw [List.mem_singleton]; exact h.rd p i hp hpk hi hk hpi)).trans hA2, hcr2⟩
theorem Ex.ends {i : Nat} {g : Nat} (h : Ex C w M vc vs ve rb rv lf) (hC : Cok C) (hg : ve.ownBlock = some g) (hi : i < C.js.length) (t : Int) : Ex C (w.setCell ⟨g, i, none⟩ (.int .i64 t)) { M with en := M.en.set i t } vc vs ve rb rv lf := by
 obtain ⟨cs, hcs⟩ := own_ty h.ens hg
 have hge := (h.ens.lt g hg).1
 have kt : KT [T64] w (w.setCell ⟨g, i, none⟩ (.int .i64 t)) := KT.set hcs (by simp)
 have b' : Below C.w0.heap.size C.w0 (w.setCell ⟨g, i, none⟩ (.int .i64 t)) := below_set h.bel hge h.bel.size
 refine ⟨b', kt.blk _ _ _ h.box (by decide), h.com.kt kt (by decide), kt.row h.spn (by decide), ?_, ?_, ?_, fun τ hτ => ?_, h.qd, fun p hp hpk => (h.rs p hp hpk).kt kt (by decide), h.rd⟩
 ·have := own_set h.ens hg (i := i) (by omega) (.int .i64 t)
  have e : numL (M.en.set i t) = (numL M.en).set i (.int .i64 t) := by simp [numL, List.map_set]
  rw [e]; exact this
 ·obtain ⟨X, c, h1, h2⟩ := h.hp
  exact ⟨X, c, h1.kt kt (by decide) h.bel b' hC.lb h.bl, h2⟩
 ·obtain ⟨cs, hc⟩ := h.bl
  exact ⟨cs, kt.blk _ _ _ hc (by decide)⟩
 ·obtain ⟨N, f, h1, h2⟩ := h.qs τ hτ
  exact ⟨N, f, h1.kt kt (by decide), h2⟩
def LV (M : Mv) (rest : List Nat) : List Int := if rest = [] then M.L.tail else M.L
theorem quS_leave {i : Nat} {τ : Nat} {rest : List Nat} (hC : Cok C) (hl : C.js.length = M.dn.length) (hq : quS C.js M.dn (C.o.take M.m) τ = i :: rest) :
  quS C.js (M.dn.set i (jb C.js i).k) (C.o.take M.m) τ = rest ∧ ∀ σ, σ ≠ τ → quS C.js (M.dn.set i (jb C.js i).k) (C.o.take M.m) σ = quS C.js M.dn (C.o.take M.m) σ := by
 have hi : i ∈ quS C.js M.dn (C.o.take M.m) τ := by rw [hq]; simp
 obtain ⟨a1, a2, a3⟩ := quS_mem.1 hi
 have hil : i < C.js.length := hC.rel (List.mem_of_mem_take a1)
 have hnd : (C.o.take M.m).Nodup := hC.ord.nodup.sublist (List.take_sublist _ _)
 have hk : ∀ p, kO (M.dn.set i (jb C.js i).k) p = if p = i then (jb C.js i).k else kO M.dn p := fun p => kO_set p _ (by omega)
 have hf : ∀ σ, quS C.js (M.dn.set i (jb C.js i).k) (C.o.take M.m) σ = (quS C.js M.dn (C.o.take M.m) σ).filter (fun p => decide (p ≠ i)) := by
  intro σ
  unfold quS
  rw [List.filter_filter]
  refine List.filter_congr fun p hp => ?_
  rw [hk]
  by_cases h : p = i
  ·subst h; simp
  ·simp [h]
 refine ⟨?_, fun σ hσ => ?_⟩
 ·rw [hf, hq, List.filter_cons_of_neg (by simp)]
  refine List.filter_eq_self.2 fun p hp => ?_
  have hn2 : (quS C.js M.dn (C.o.take M.m) τ).Nodup := hnd.sublist List.filter_sublist
  rw [hq] at hn2
  have := (List.nodup_cons.1 hn2).1
  simp
  rintro rfl
  exact this hp
 ·rw [hf]
  refine List.filter_eq_self.2 fun p hp => ?_
  simp
  rintro rfl
  have := (quS_mem.1 hp).2.1
  omega
theorem Hd.leave {i τ : Nat} {r : List Int} {rest : List Nat} (hC : Cok C) (hl : C.js.length = M.dn.length) (h : Hd C.ts C.js M.dn (C.o.take M.m) M.L) (hL : M.L = (τ : Int) :: r) (hq : quS C.js M.dn (C.o.take M.m) τ = i :: rest) :
  Hd C.ts C.js (M.dn.set i (jb C.js i).k) (C.o.take M.m) (LV M rest) := by
 obtain ⟨h1, h2⟩ := quS_leave hC hl hq
 unfold LV
 by_cases h0 : rest = []
 ·rw [if_pos h0, hL]
  have hs := h.srt
  rw [hL] at hs
  have hc := List.pairwise_cons.1 hs
  refine ⟨hc.2, fun σ => ?_, fun x hx => h.nat x (by rw [hL]; simp [show x ∈ r from hx])⟩
  by_cases hσ : σ = τ
  ·subst hσ
   rw [h1, h0]
   simp only [List.tail_cons, ne_eq, not_true_eq_false, iff_false]
   intro hm
   have := hc.1 _ hm
   omega
  ·rw [h2 σ hσ, ← h.mem σ, hL]
   simp only [List.tail_cons, List.mem_cons]
   constructor
   ·exact .inr
   ·rintro (hh | hh)
    ·omega
    ·exact hh
 ·rw [if_neg h0]
  refine ⟨h.srt, fun σ => ?_, h.nat⟩
  by_cases hσ : σ = τ
  ·subst hσ
   rw [h1, h.mem σ, hq]
   simp [h0]
  ·rw [h2 σ hσ]; exact h.mem σ
theorem Ex.leave {i τ N f : Nat} {rest : List Nat} (hC : Cok C) (hl : C.js.length = M.dn.length) (h : Ex C w M vc vs ve rb rv lf) (hτ : τ < C.ts.length) (hq : quS C.js M.dn (C.o.take M.m) τ = i :: rest) (hlen : C.js.length = M.dn.length)
  (hQ0 : FQP C.w0.heap.size w C.gq (τ * 3) (rv τ) N f ((quS C.js M.dn (C.o.take M.m) τ).map rb)) (hN : N ≤ 2004) {f' : Nat} (hQ : FQP C.w0.heap.size w1 C.gq (τ * 3) (rv τ) N f' (rest.map rb)) (hK : Kept (blk C.gq (rv τ)) w w1) (hF : FrQ C.gq (τ * 3) w w1)
  (k12 : KT [THe, TTh] w1 w2) (b2 : Below C.w0.heap.size C.w0 w2) (hH : ∃ X c, HsI C.K C.Bh w2 C.hb X c (LV M rest) ∧ c ≤ M.m) :
  Ex C w2 { M with dn := M.dn.set i (jb C.js i).k, L := LV M rest } vc vs ve rb rv lf := by
 obtain ⟨h1, h2⟩ := quS_leave hC hl hq
 have hi : i ∈ quS C.js M.dn (C.o.take M.m) τ := by rw [hq]; simp
 obtain ⟨a1, a2, a3⟩ := quS_mem.1 hi
 have hil : i < C.js.length := hC.rel (List.mem_of_mem_take a1)
 have k01 : KT [TQu, TRi] w w1 := KT.kept hK hQ0.tys
 have k02 : KT [TQu, TRi, THe, TTh] w w2 := (k01.mono (by simp)).trans (k12.mono (by simp))
 have hsub : ∀ p, kO (M.dn.set i (jb C.js i).k) p < (jb C.js p).k → kO M.dn p < (jb C.js p).k := by
  intro p hp
  rw [kO_set _ _ (by omega)] at hp
  split at hp
  ·rename_i e; subst e; omega
  ·exact hp
 refine ⟨b2, k02.blk _ _ _ h.box (by decide), h.com.kt k02 (by decide), k02.row h.spn (by decide), k02.row h.ens (by decide), hH, ?_, fun σ hσ => ?_, h.qd, fun p hp hpk => (h.rs p hp (hsub p hpk)).kt k02 (by decide), fun p q hp hpk hq' hqk hne => h.rd p q hp (hsub p hpk) hq' (hsub q hqk) hne⟩
 ·obtain ⟨cs, hc⟩ := h.bl
  exact ⟨cs, k02.blk _ _ _ hc (by decide)⟩
 ·by_cases hσt : σ = τ
  ·subst hσt
   exact ⟨N, f', by rw [h1]; exact hQ.kt k12 (by decide), hN⟩
  ·obtain ⟨N', f2, hq1, hq2⟩ := h.qs σ hσ
   exact ⟨N', f2, by rw [h2 σ hσt]; exact (hq1.other hK hF (by omega) hQ.row (fun g hg => h.qd σ τ g hσ hτ hσt hg)).kt k12 (by decide), hq2⟩
theorem leave_any {i τ : Nat} {r : List Int} {rest : List Nat} (hC : Cok C) (hl : C.js.length = M.dn.length) (h : Ex C w M vc vs ve rb rv lf) (hL : M.L = (τ : Int) :: r) (hτ : τ < C.ts.length) (hq : quS C.js M.dn (C.o.take M.m) τ = i :: rest) :
  Calls Tryz.prog 132 #[.pointer (some ⟨C.bx, 0, none⟩)] w (ExP C { M with dn := M.dn.set i (jb C.js i).k, L := LV M rest } lf) := by
 obtain ⟨X, c, hH, hc⟩ := h.hp
 obtain ⟨N, f, hQ, hN⟩ := h.qs τ hτ
 have hQ1 := hQ
 rw [hq, List.map_cons] at hQ1
 have hH1 := hH
 rw [hL] at hH1
 have PK := Lib.hid (hpeekI hH1)
 have c2 := h.c2
 have c3 := h.c3
 have l2 := World.block_lt_of_cell? w _ c2
 have i0 : (0 : Int) ≤ (τ : Int) := by omega
 have i1 : (τ : Int) < (C.ts.length : Int) := by omega
 have H := Lib.hid h
 have HQ := Lib.hid hQ
 have HQ1 := Lib.hid hQ1
 have HH := Lib.hid hH
 have HH1 := Lib.hid hH1
 have HL := Lib.hid hL
 have Hq := Lib.hid hq
 have HC := Lib.hid hc
 clear h hQ hQ1 hH hH1 hL hq hc
 go_enter Tryz.func132, Tryz.ntmps132
 go_upto_region 1 with (go_at_call 129; (with_reducible refine PK.out.mono ?_); rintro e w1 ⟨rfl, hB1⟩)
 have E1 := Lib.hid (H.out.later hC hB1)
 have Q1 := Lib.hid (HQ.out.kt (KT.of (S := []) hB1) (by simp))
 have Q2 := Lib.hid (HQ1.out.kt (KT.of (S := []) hB1) (by simp))
 have H1 := Lib.hid (HH.out.later hB1)
 have H2 := Lib.hid (HH1.out.later hB1)
 have d2 := (hB1.cell (p := ⟨C.bx, 2, none⟩) l2).trans c2
 have d3 := (hB1.cell (p := ⟨C.bx, 3, none⟩) l2).trans c3
 have PO := Lib.hid (pop_someP w1 Q2.out)
 clear c2 c3 hB1 PK
 go_upto_region 3 with (go_at_call 150; (with_reducible refine PO.out.mono ?_); rintro e w2 ⟨rfl, f', hQ2, hK2, hF2⟩)
 have K2 := Lib.hid hK2
 have F2 := Lib.hid hF2
 have QQ := Lib.hid hQ2
 have kt2 : KT [TQu, TRi] w1 w2 := KT.kept hK2 Q2.out.tys
 have y2 : w2.cell? ⟨C.bx, 2, none⟩ = some (.pointer (some ⟨C.hb, 0, none⟩)) := (kt2.cell (v := .int .i64 0) E1.out.box (by decide)).trans d2
 have b2 : Below C.w0.heap.size C.w0 w2 := E1.out.bel.trans (hK2.below E1.out.bel.size (fun k hk => (Q2.out.blk_ge k hk).1))
 have LN := len_anyP w2 hQ2
 rw [List.length_map] at LN
 have HH2 := Lib.hid (H1.out.kt kt2 (by decide) E1.out.bel b2 hC.lb E1.out.bl)
 have B2 := Lib.hid b2
 clear d2 d3 hK2 hF2 hQ2 kt2 b2 PO
 by_cases h0 : rest = []
 ·subst h0
  have LN := Lib.hid LN
  have HH3 := HH2.out
  rw [HL.out] at HH3
  have PP := Lib.hid (hpopI HH3)
  have HH3 := Lib.hid HH3
  go_upto_region 4 with (go_at_call 127; (with_reducible refine LN.out.mono ?_); rintro e w3 ⟨rfl, rfl⟩)
  go_wp2_with (go_at_call 151; (with_reducible refine PP.out.mono ?_); rintro e w3 ⟨rfl, hH3, hK3⟩)
  go_end0
  refine ⟨rfl, vc, vs, ve, rb, rv, E1.out.leave hC hl hτ Hq.out hl Q1.out hN QQ.out K2.out F2.out (KT.kept hK3 HH3.out.tys) (B2.out.trans (hK3.below B2.out.size (fun j hj => Nat.le_trans hC.Bh (HH3.out.ge j hj).1))) ⟨X, c, ?_, HC.out⟩⟩
  unfold LV
  rw [if_pos rfl, HL.out]
  exact hH3
 ·have hne : (((rest.length : Nat) : Int) == 0) = false := by
   rw [beq_eq_false_iff_ne]
   intro hh
   exact h0 (List.eq_nil_of_length_eq_zero (by omega))
  have LN := Lib.hid LN
  have Z := Lib.hid h0
  clear h0
  go_wp2_with (go_at_call 127; (with_reducible refine LN.out.mono ?_); rintro e w3 ⟨rfl, rfl⟩)
  go_end0
  refine ⟨rfl, vc, vs, ve, rb, rv, E1.out.leave hC hl hτ Hq.out hl Q1.out hN QQ.out K2.out F2.out (KT.refl _ _) B2.out ⟨X, c, ?_, HC.out⟩⟩
  unfold LV
  rw [if_neg Z.out]
  exact HH2.out
end
end
end Go.Proofs.YthfkbbiaemmndaaGreatDoor
