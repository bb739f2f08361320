/- Texts about the program, one after the other: DNee, DSm, RSnd, RSn2, YPure, EPrR, EUnt, RRef, ERnf, YScp, JOp2. -/
import Derived.WalkKit
import Derived.ProofKit
import Derived.Handy
import Derived.Lib.Hide
import Derived.Deep.MidRow
import Derived.Deep.QuietTactic
import Derived.BigQuiet
import Derived.Deep.RegionHeld3
import Derived.Laws.Externs
import Derived.RangeFuncBox
import Derived.Deep.CutBlock
import Derived.Deep.LoopGhost
import Derived.WalkMore
import Derived.Deep.RegionLaw
import Derived.Deep.CutRange
import Derived.Below
import Derived.LaidMore
import Derived.Laws.AppendOwn
import Derived.Laws.CopyOwn
import Derived.IntWalk
import Derived.OwnWalk
import Derived.BigRegion
import Derived.Deep.DrawnRows
import Derived.Deep.Quiet
import Derived.Deep.RegionHeldLaw
import Derived.LoopIn
import Derived.LoopNIn
import Derived.TacticsInMore
import Derived.OwnWalkIn
import Derived.RangeFuncNested
import Derived.RangeFuncBound
import Derived.RangeFuncCalls
import Derived.RangeFuncLeaves
import Derived.RangeFuncWrites
import Derived.Shelf.Abstract
import Derived.StillTailTactics
import Derived.Lib.SliceRun
import Derived.Deep.AppendSrc
import Derived.Deep.Upon
import Derived.Deep.DeepAppendWide
import Derived.OrdersIn
import Derived.Sort.LoopGhostIn
import Derived.Laws.OwnMore
import Derived.Laws.BytesString
import Derived.RangeFuncRecord
import Derived.MapKept
import Derived.Maps.AppendAt
import Derived.Laws.AppendOwnNone
import Derived.Shelf.Small.Bits
import Derived.Shelf.Small.Strs
import Derived.Shelf.Small.Wraps
import Derived.Shelf.Strconv.Itoa0
import Derived.Shelf.LaysM
import Derived.Shelf.Strconv.Clone
import Derived.Shelf.Strings.Search1
import Derived.Shelf.Bits.Mul64
import Derived.Ground.Names2Prog
import Derived.Shelf.Slices.SearchI
import Derived.ChangeOld
import Derived.OpenShut
import Derived.Test.YthfkbbiaemmndaaGreatDoorRows
import Derived.Test.YthfkbbiaemmndaaGreatDoorProg
import Derived.Stop.RegionWithIn
import Derived.Deep.RegionHeld
import Derived.Laws.ShiftsVarLaws
import Derived.Outline
import Derived.Laws.Bits128
import Derived.Deep.RegionWith
import Derived.Shelf.RegionOpen
import Derived.Laws.MakeOwn
import Derived.Shelf.SlGeneric
import Derived.Shelf.Spec.SlicesGrow
import Derived.Ground.Names8Prog
import Derived.Shelf.SlSortCmp.Whole1
import Derived.Ground.SlsfProg
import Derived.Ground.SlgnProg
import Derived.Shelf.SlSortCmp.NoneTotal
import Derived.Test.YthfkbbiaemmndaaGreatDoorG3
import Derived.Test.YthfkbbiaemmndaaGreatDoorG4
import Derived.Test.YthfkbbiaemmndaaGreatDoorG5
import Derived.Test.YthfkbbiaemmndaaGreatDoorG6
import Derived.Test.YthfkbbiaemmndaaGreatDoorG7
import Derived.Test.YthfkbbiaemmndaaGreatDoorG8
import Derived.Test.YthfkbbiaemmndaaGreatDoorG9
import Derived.Test.YthfkbbiaemmndaaGreatDoorG12
import Derived.Test.YthfkbbiaemmndaaGreatDoorG13
import Derived.Test.YthfkbbiaemmndaaGreatDoorG14
import Derived.Test.YthfkbbiaemmndaaGreatDoorG23
import Derived.Test.YthfkbbiaemmndaaGreatDoorG25
import Derived.Test.YthfkbbiaemmndaaGreatDoorG28
import Derived.Test.YthfkbbiaemmndaaGreatDoorG29
import Derived.Test.YthfkbbiaemmndaaGreatDoorG36
import Derived.Test.YthfkbbiaemmndaaGreatDoorG37
set_option linter.unusedVariables false
set_option linter.unusedSimpArgs false
set_option maxRecDepth 100000
set_option maxHeartbeats 16000000
namespace Go.Proofs.YthfkbbiaemmndaaGreatDoor
section
open Go.RowKit
theorem three_nums (W V : World) (a b c : Int) (hc : ∀ i u, V.cell? ⟨W.heap.size, i, none⟩ = some u ↔ (#[Value.int .u64 a, .int .u64 b, .int .u64 c] : Array Value)[i]? = some u) : Nums V (.slice (some ⟨W.heap.size, 0, none⟩) 3 3) [a, b, c] := by
 refine .inr ⟨⟨W.heap.size, 0, none⟩, 3, rfl, by simp, by unfold maxLen; omega, fun i hi => ?_⟩
 rw [add_none, Nat.zero_add]
 match i, hi with
 | 0, _ => exact (hc 0 _).2 rfl
 | 1, _ => exact (hc 1 _).2 rfl
 | 2, _ => exact (hc 2 _).2 rfl
theorem three_new (W : World) (a b c : Int) : Nums (W.alloc (.cells #[.int .u64 a, .int .u64 b, .int .u64 c] 80)) (.slice (some ⟨W.heap.size, 0, none⟩) 3 3) [a, b, c] :=
 three_nums W _ a b c fun i u => by rw [cell_of_row _ _ i _ _ _ (heap_alloc_new W _)]
theorem rneed_any (A : Option Addr) (cap : Nat) (l : List Ts) (i v : Int) (w : World) (hR : Row w A cap l) (hi : in64 i) (hv0 : U v) :
  Calls Tryz.prog 47 #[.slice A l.length cap, .int .i64 i, .int .u64 v] w fun e w' => e = .returned (.int .u64 (needI l i v)) ∧ Below w.heap.size w w' := by
 have K := Lib.hid (ris_any A cap l i w hR hi)
 have hle := hR.le
 have hmx := hR.mx
 cases hb : isB l i
 ·rw [hb] at K
  have e : needI l i v = 0 := by unfold needI; rw [hb]; rfl
  rw [e]
  clear hb e hR
  generalize l.length = N at *
  go_enter Tryz.func47, Tryz.ntmps47
  go_wp2_with (go_at_call 46; (with_reducible refine K.out.mono ?_); rintro e w1 ⟨rfl, h⟩)
  go_ret
  exact ⟨rfl, h⟩
 ·rw [hb] at K
  have hv := isB_vs hb
  obtain ⟨ki, y, rfl, hki, hy⟩ := isB_get hb
  have hE : needI l (ki : Int) v = satSum 0 [y.c, blockI l ki, higherI l ki v] := by unfold needI; rw [hb, if_pos rfl, (pOf_get hy).2]
  rw [hE]
  have hbb := blockI_bd l ki
  have hhu := higherI_u l ki v hv0
  have KB := Lib.hid (fun W (h : Lt w W) => rblock_any A cap l ki W (hR.later h) hi)
  have KH := Lib.hid (fun W (h : Lt w W) => rhigher_any A cap l ki v W (hR.later h) hi hv0)
  have hok := hv.all y (List.mem_of_getElem? hy)
  have ROW := Lib.hid hR
  have HY := Lib.hid hy
  have y0 : 0 ≤ y.c := by have := hok.c0; omega
  have y1 := hok.c1
  have hw1 : IntKind.u64.wrap y.c = y.c := by rw [IntKind.wrap_u64]; omega
  have hw2 : IntKind.u64.wrap (blockI l ki) = blockI l ki := by rw [IntKind.wrap_u64]; omega
  have KS := Lib.hid (fun V u (hu : Nums V u [y.c, blockI l ki, higherI l ki v]) => refSum_nums u [y.c, blockI l ki, higherI l ki v] V hu (by
   intro n hn
   simp only [List.mem_cons, List.not_mem_nil, or_false] at hn
   rcases hn with rfl | rfl | rfl
   ·omega
   ·omega
   ·exact hhu))
  have HN3 := Lib.hid (fun W => three_new W y.c (blockI l ki) (higherI l ki v))
  generalize satSum 0 [y.c, blockI l ki, higherI l ki v] = r at *
  generalize hbq : blockI l ki = bk at *
  generalize hhq : higherI l ki v = hh at *
  clear hb hE hR hv hy hok hhu
  generalize hN : l.length = N at *
  clear hN
  have hI0 : (0 : Int) ≤ (ki : Int) := by omega
  have hI1 : (ki : Int) < ((N : Nat) : Int) := by omega
  go_enter Tryz.func47, Tryz.ntmps47
  obtain ⟨b', o, x, rfl, hx, hxw, hbl, hT⟩ := ROW.out.get (k := ki) (by have := (List.getElem?_eq_some_iff.1 HY.out).1; exact this)
  obtain rfl : y = x := by have := HY.out.symm.trans hx; simpa using this
  go_upto_region 4 with (go_at_call 46; (with_reducible refine K.out.mono ?_); rintro e w1 ⟨rfl, h⟩; have HL := Lib.hid (show Lt w w1 from h); have HT := Lib.hid (hT.later h); have c1 := HT.out.c1; clear h)
  go_region_law (first
   | (go_simp; go_at_call 78; (with_reducible refine (KB.out _ (by first | exact HL.out | exact lt_step _ _ HL.out (below_drew _))).mono ?_); rintro e w2 ⟨rfl, h⟩; have HL2 := Lib.hid (lt_step _ _ (show Lt w _ by first | exact HL.out | exact lt_step _ _ HL.out (below_drew _)) h); have HT2 := Lib.hid ((HT.out.later (show Below w1.heap.size w1 _ by first | exact Below.refl _ _ | exact below_drew w1)).later h); have c1 := HT2.out.c1; clear h)
   | (go_simp; go_at_call 79; (with_reducible refine (KH.out _ (by first | exact HL2.out | exact lt_step _ _ HL2.out (below_drew _))).mono ?_); rintro e w3 ⟨rfl, h⟩; have HL3 := Lib.hid (lt_step _ _ (show Lt w _ by first | exact HL2.out | exact lt_step _ _ HL2.out (below_drew _)) h); have HT3 := Lib.hid ((HT2.out.later (show Below w2.heap.size w2 _ by first | exact Below.refl _ _ | exact below_drew w2)).later h); have c1 := HT3.out.c1; clear h)
   | (go_simp; go_at_call 77; (with_reducible refine (KS.out _ _ (HN3.out _)).mono ?_); rintro e w4 ⟨rfl, h⟩; have HL4 := Lib.hid (lt_step _ _ (lt_step _ _ HL3.out ((Below.refl _ _).alloc (Nat.le_refl _) _)) h); clear h)
   | fail)
  all_goals
   go_wp2
   go_ret
   exact ⟨rfl, HL4.out⟩
end
section
open Go.RowKit
theorem St.vs {ts : List Ts} (h : St ts) : Vs ts := vs_of h.chk
theorem St.sf {ts : List Ts} (h : St ts) {x : Ts} (hx : x ∈ ts) : ∃ i, SF i x := by
 obtain ⟨i, hi, rfl⟩ := List.getElem_of_mem hx
 exact ⟨i, h.s i _ (List.getElem?_eq_getElem hi)⟩
theorem St.fits {ts : List Ts} (h : St ts) {w : Int} (h0 : 0 ≤ w) (h1 : w ≤ 1099511627776) : Fits 5000000000000 w ts := by
 have h6 := h.n6
 refine ⟨fun x hx => ?_, fun x hx => ?_, by omega, by omega⟩
 ·obtain ⟨i, s⟩ := h.sf hx
  have := s.d0; have := s.d1; have := s.c0
  omega
 ·obtain ⟨i, s⟩ := h.sf hx
  have d0 := s.d0; have d1 := s.d1; have c0 := s.c0; have c1 := s.c1; have j0 := s.j0; have t0 := s.t0
  have e := ceilI_le (a := w + x.j) (t := x.t) (by omega) (by omega)
  have e0 := ceilI_nonneg (a := w + x.j) (t := x.t) (by omega) (by omega)
  have m : ceilI (w + x.j) x.t * x.c ≤ (w + x.j) * 4 := Int.mul_le_mul e c1 (by omega) (by omega)
  omega
theorem St.hi {ts : List Ts} (h : St ts) {w : Int} (h0 : 0 ≤ w) (h1 : w ≤ 1099511627776) (p : Int) : hiU p w ts = if w = 0 then 0 else (ts.map (addH p w)).sum := by
 split
 ·rename_i e; subst e; rfl
 ·exact hiU_fits h.vs (by omega) (h.fits h0 h1)
theorem St.hi_bd {ts : List Ts} (h : St ts) {w : Int} (h0 : 0 ≤ w) (h1 : w ≤ 1099511627776) (p : Int) : 0 ≤ (ts.map (addH p w)).sum ∧ (ts.map (addH p w)).sum ≤ 30000000000000 := by
 have hb := sum_bdD (l := ts) (f := addH p w) (B := 5000000000000) fun x hx => ⟨addH_nonneg (h.vs.all x hx) h0, by
  have := (h.fits h0 h1).b x hx
  unfold addH
  split <;> omega⟩
 have h6 := h.n6
 omega
theorem St.blk_bd {ts : List Ts} (h : St ts) (p : Int) : 0 ≤ blkU p ts ∧ blkU p ts ≤ 2147483646 := by
 have := blk_take_bd (p := p) h.vs ts.length
 rwa [List.take_of_length_le (Nat.le_refl _)] at this
theorem St.need {ts : List Ts} (h : St ts) {k : Nat} {y : Ts} (hy : ts[k]? = some y) {w : Int} (h0 : 0 ≤ w) (h1 : w ≤ 1099511627776) :
  needI ts (k : Int) w = y.c + blkU y.p ts + if w = 0 then 0 else (ts.map (addH y.p w)).sum := by
 obtain ⟨i, s⟩ := h.sf (List.mem_of_getElem? hy)
 have c0 := s.c0; have c1 := s.c1
 have b := h.blk_bd y.p
 have hb := h.hi_bd h0 h1 y.p
 rw [need_at h.chk hy, h.hi h0 h1]
 generalize (ts.map (addH y.p w)).sum = S at *
 obtain ⟨z, hz, z0, z1⟩ : ∃ z : Int, (if w = 0 then 0 else S) = z ∧ 0 ≤ z ∧ z ≤ 30000000000000 := by split <;> exact ⟨_, rfl, by omega, by omega⟩
 rw [hz]
 simp only [satSum, List.foldl_cons, List.foldl_nil]
 rw [satAdd_fit (a := 0) (b := y.c) (by omega), satAdd_fit (a := 0 + y.c) (b := blkU y.p ts) (by omega), satAdd_fit (a := 0 + y.c + blkU y.p ts) (b := z) (by omega)]
 omega
end
section
theorem need_same {ts : List Ts} (h : St ts) {k : Nat} {y : Ts} (hy : ts[k]? = some y) {w : Int} (h1 : 1 ≤ w) (hw : w ≤ 1099511627776) : needS ts (k : Int) w = needI ts (k : Int) w := by
 rw [h.need hy (by omega) hw, if_neg (by omega)]
 unfold needS hiS blkS
 rw [tk_get hy, blk_same ts 0 (Int.le_refl _)]
 rfl
theorem sound_pre {ts : List Ts} (h : St ts) {k : Nat} {y : Ts} (hy : ts[k]? = some y) {r : Int} (hb : boundI ts (k : Int) = (r, 0)) :
  ∃ w : Nat, 1 ≤ w ∧ r = (w : Int) + (tk ts (k : Int)).j ∧ (w : Int) + (tk ts (k : Int)).j ≤ (tk ts (k : Int)).t ∧ needS ts (k : Int) w ≤ (w : Int) ∧ r ≤ (tk ts (k : Int)).d := by
 rw [tk_get hy]
 obtain ⟨i, s⟩ := h.sf (List.mem_of_getElem? hy)
 have d1 := s.d1; have t0 := s.t0; have j0 := s.j0
 rcases least_pure h.chk hy with ⟨_, g1, g2, g3, _⟩ | ⟨g, _⟩
 ·rw [hb] at g1 g2 g3
  simp only at g1 g2 g3
  refine ⟨(r - y.j).toNat, by omega, by omega, by omega, ?_, by omega⟩
  rw [show (((r - y.j).toNat : Nat) : Int) = r - y.j by omega, need_same h hy g1 (by omega)]
  omega
 ·rw [hb] at g
  simp at g
end
section
theorem bound_sound {ts : List Ts} {js : List Fv} (h : St ts) (L : LJs ts js) {j : Nat} (hj : j < js.length) {r : Int} (hb : boundI ts (jb js j).t = (r, 0)) {T : Nat} (hd : kO (tst ts js T).dn j = (jb js j).k) :
  kO (tst ts js T).en j - (jb js j).a ≤ r ∧ r ≤ (tk ts (jb js j).t).d := by
 have l := jb_lj L hj
 have t0 := l.t0
 have t1 := l.t1
 obtain ⟨k, hk⟩ : ∃ k : Nat, (jb js j).t = (k : Int) := ⟨(jb js j).t.toNat, by omega⟩
 have hk1 : k < ts.length := by omega
 rw [hk] at hb
 obtain ⟨w, w1, w2, w3, w4, w5⟩ := sound_pre h (List.getElem?_eq_getElem hk1) hb
 rw [← hk] at w2 w3 w4 w5
 refine ⟨?_, w5⟩
 rw [w2]
 exact sound_end h.vs L h.d hj w1 w3 w4 hd
end
section
theorem en_after {ts : List Ts} {js : List Fv} (hl : Lg js) {n k : Nat} (hk : k < js.length) (h0 : kO (tst ts js n).dn k < (jb js k).k) : ∀ m, kO (tst ts js (n + m)).dn k = (jb js k).k → (n : Int) < kO (tst ts js (n + m)).en k
 | 0, h => by rw [Nat.add_zero] at h; omega
 | m + 1, h => by
   rcases Int.lt_or_le (kO (tst ts js (n + m)).dn k) (jb js k).k with g | g
   ·have := en_first hl hk g h
    rw [show n + (m + 1) = (n + m) + 1 from rfl, this]
    omega
   ·have g' : kO (tst ts js (n + m)).dn k = (jb js k).k := by
     have := ((ti_all (ts := ts) hl (n + m)).d0 k hk).2
     omega
    have e := en_after hl hk h0 m g'
    have s := en_stay (ts := ts) hl hk g' 1
    rw [show n + (m + 1) = (n + m) + 1 from rfl, s.2]
    exact e
theorem scene_resp {ts : List Ts} (hc : (chkAll ts).2 = 0) {k : Nat} {y : Ts} (hy : ts[k]? = some y) {T : Nat} (hT : plT ts (k : Int) ≤ T)
  (hd : kO (tst ts (sceneS ts (k : Int)) T).dn (headS ts (k : Int)).length = (jb (sceneS ts (k : Int)) (headS ts (k : Int)).length).k) :
  ((boundI ts (k : Int)).2 = 0 ∧ kO (tst ts (sceneS ts (k : Int)) T).en (headS ts (k : Int)).length - (startS ts (k : Int) - y.j) = (boundI ts (k : Int)).1) ∨
  ((boundI ts (k : Int)).2 = 16 ∧ y.d < kO (tst ts (sceneS ts (k : Int)) T).en (headS ts (k : Int)).length - (startS ts (k : Int) - y.j)) := by
 have hlg := scene_lgs hc hy
 obtain ⟨hm, hml⟩ := scene_m (ts := ts) (i := (k : Int))
 have etk : tk ts (k : Int) = y := tk_get hy
 have ek : (jb (sceneS ts (k : Int)) (headS ts (k : Int)).length).k = y.c := by rw [hm, etk]
 have dd := chk_d hc y (List.mem_of_getElem? hy)
 have v := (vs_of hc).all y (List.mem_of_getElem? hy)
 have d1 := dd.d1; have cj := dd.cj; have c0 := v.c0; have j0 := v.j0
 have s0 := (start_bd (i := (k : Int)) (vs_of hc)).1
 rw [etk] at s0
 obtain ⟨x, rfl⟩ := Nat.exists_eq_add_of_le hT
 have hI := (ti_all (ts := ts) hlg (plT ts (k : Int))).en _ hml
 rcases play_pure hc hy with ⟨b0, b1, b2, b3⟩ | ⟨b0, b1, b2⟩
 ·left
  unfold plE at b1
  rcases hI with hI | hI
  ·omega
  ·have s := en_stay (ts := ts) hlg hml hI.1 x
   exact ⟨b0, by rw [s.2, b1]; omega⟩
 ·right
  unfold plE at b2
  have e : (plT ts (k : Int) : Int) = startS ts (k : Int) + (y.d - y.j) := by unfold plT; rw [etk]; omega
  rcases hI with hI | hI
  ·have := en_after hlg hml hI.1 x hd
   exact ⟨b0, by omega⟩
  ·omega
end
section
open Go.RowKit
def FewJ (fs : List Fv) (w : World) (e : Ending) (w' : World) : Prop := ∃ A cap, e = .returned (.slice A fs.length cap) ∧ FRow w' A cap fs ∧ Below w.heap.size w w'
theorem fewT_row (R : Option Addr) (rc : Nat) (rs : List Fv) (w : World) (hR : FRow w R rc rs) : Calls Tryz.prog 13 #[.slice R rs.length rc, .int .i64 10] w (FewJ (fewTS rs) w) :=
 (fewT_any R rc rs w hR).mono fun e w' h => by
  obtain ⟨v, gs, rfl, hG, hg, hb⟩ := h
  obtain ⟨A, c, rfl, F⟩ := hG.frow
  rw [hg] at F
  exact ⟨A, c, by rw [← hg, List.length_map], F, hb⟩
theorem fewT_bd (rs : List Fv) : (fewTS rs).length ≤ 10 ∧ ∀ r ∈ fewTS rs, 0 ≤ r.a ∧ r.a < 12 := by
 refine ⟨by rw [fewTS, List.length_map, List.length_take]; omega, fun r hr => ?_⟩
 obtain ⟨y, _, rfl⟩ := List.mem_map.1 hr
 exact emod_bd y.a 12 (by omega)
end
section
open Go.RowKit
attribute [local go_sem ↓] Go.wp_at_zero Go.wp_at_succ
theorem run_any {A R : Option Addr} {cap rc : Nat} {ts : List Ts} {js : List Fv} (w : World) (hT : Row w A cap ts) (hR : FRow w R rc js) (hD : Dist ts) (ft : ts.length ≤ 1000) (fj : js.length ≤ 1000) (htot : (js.map (·.k)).sum ≤ 1000000000000) :
  Calls Tryz.prog 76 #[.slice A ts.length cap, .slice R js.length rc] w (UntP (untS ts js 9223372036854775807) w) := by
 have UN := Lib.hid (until_any (en := 9223372036854775807) (T := 9223372036854775807) w hT hR hD ft fj htot (by decide) (Int.le_refl _))
 clear hT hR hD htot
 go_enter Tryz.func76, Tryz.ntmps76
 go_wp2_with (go_at_call 52; (with_reducible refine UN.out.mono ?_); rintro e w1 ⟨vs, ve, rfl, h1, h2, h3⟩)
 refine bodyPost_ret (results_tmp2 rfl _ _ _) rfl ?_
 exact ⟨vs, ve, rfl, h1, h2, h3⟩
end
section
open Go.RowKit
theorem need_u (l : List Ts) (i v : Int) (hb : isB l i = true) (h : U v) : U (needI l i v) := by
 have hv := isB_vs hb
 have hck := (isB_iff hb).1
 obtain ⟨ki, y, rfl, hki, hy⟩ := isB_get hb
 rw [need_form hck hy]
 have hc := (hv.all y (List.mem_of_getElem? hy)).c0
 have hbk := blk_take_bd (p := y.p) hv l.length
 rw [List.take_length] at hbk
 exact satAdd_u (satAdd_u (satAdd_u (Int.le_refl _) (show 0 ≤ y.c by omega)).1 hbk.1).1 (hiU_nonneg hv h.1)
theorem wu64 {z : Int} (h0 : 0 ≤ z) (h1 : z ≤ 18446744073709551615) : IntKind.u64.wrap z = z := by rw [IntKind.wrap_u64]; omega
structure G4 (w : World) (b : Nat) (a e : Int) : Prop where
 is : w.heap[b]? = some (.cells #[.int .i64 a, .int .i64 e] 45 (0, 0))
theorem G4.lt {W : World} {b : Nat} {a e : Int} (h : G4 W b a e) : b < W.heap.size := (Array.getElem?_eq_some_iff.1 h.is).1
theorem G4.c0 {W : World} {b : Nat} {a e : Int} (h : G4 W b a e) : W.cell? ⟨b, 0, none⟩ = some (.int .i64 a) := by rw [cell_of_row W b 0 _ _ _ h.is]; rfl
theorem G4.c1 {W : World} {b : Nat} {a e : Int} (h : G4 W b a e) : W.cell? ⟨b, 1, none⟩ = some (.int .i64 e) := by rw [cell_of_row W b 1 _ _ _ h.is]; rfl
theorem G4.frozen {W : World} {b : Nat} {a e : Int} (h : G4 W b a e) (i : Nat) : W.frozen? ⟨b, i, none⟩ = false := frozen_of_row W b i _ _ h.is
theorem G4.later {W W' : World} {b : Nat} {a e : Int} (h : G4 W b a e) (hb : Below W.heap.size W W') : G4 W' b a e := ⟨(hb.block b h.lt).trans h.is⟩
theorem G4.set0 {W : World} {b : Nat} {a e : Int} (h : G4 W b a e) (a' : Int) : G4 (W.setCell ⟨b, 0, none⟩ (.int .i64 a')) b a' e := ⟨heap_setCell_same _ b 0 _ _ (.int .i64 a') h.is⟩
theorem G4.set1 {W : World} {b : Nat} {a e : Int} (h : G4 W b a e) (e' : Int) : G4 (W.setCell ⟨b, 1, none⟩ (.int .i64 e')) b a e' := ⟨heap_setCell_same _ b 1 _ _ (.int .i64 e') h.is⟩
theorem G4.new (w : World) (a e : Int) : G4 (w.alloc (.cells #[.int .i64 a, .int .i64 e] 45)) w.heap.size a e := ⟨heap_alloc_new w _⟩
theorem infoG4 : (Tryz.prog.info? 45).map (·.size) = some 2 := by kernel_rfl
theorem results_got4 {fn : Func} {p : Tmp} (h : fn.results = #[.cell p 45]) (tmps : Array Value) (w : World) (b : Nat) (a e : Int) (hp : tmps.getD p undef = .pointer (some ⟨b, 0, none⟩)) (hb : G4 w b a e) :
  (results fn tmps).run Tryz.prog w = .ok (.agg #[.int .i64 a, .int .i64 e]) w :=
 results_cell_row h tmps w b _ _ _ _ hp hb.is Tryz.underlying45 rfl infoG4
theorem rbound_any (A : Option Addr) (cap : Nat) (l : List Ts) (i : Int) (w : World) (hR : Row w A cap l) (hi : in64 i) :
  Calls Tryz.prog 17 #[.slice A l.length cap, .int .i64 i] w fun e w' => e = .returned (.agg #[.int .i64 (boundI l i).1, .int .i64 (boundI l i).2]) ∧ Below w.heap.size w w' := by
 obtain ⟨W1, hW1, G1, B1⟩ : ∃ W1, w.alloc (.cells #[.int .i64 0, .int .i64 0] 45) = W1 ∧ G4 W1 w.heap.size 0 0 ∧ Below w.heap.size w W1 := ⟨_, rfl, G4.new w 0 0, (Below.refl _ _).alloc (Nat.le_refl _) _⟩
 have R1 := hR.later B1
 have K := Lib.hid (ris_any A cap l i W1 R1 hi)
 have hfin : ∀ (a' e' : Int) (wr : World), Below W1.heap.size W1 wr → G4 ((wr.setCell ⟨w.heap.size, 0, none⟩ (.int .i64 a')).setCell ⟨w.heap.size, 1, none⟩ (.int .i64 e')) w.heap.size a' e' ∧ Below w.heap.size w ((wr.setCell ⟨w.heap.size, 0, none⟩ (.int .i64 a')).setCell ⟨w.heap.size, 1, none⟩ (.int .i64 e')) := fun a' e' wr hL =>
  ⟨((G1.later hL).set0 a').set1 e', ((B1.trans (Below.mono hL B1.size)).setCell (p := ⟨w.heap.size, 0, none⟩) (Nat.le_refl _) _).setCell (p := ⟨w.heap.size, 1, none⟩) (Nat.le_refl _) _⟩
 have HF := Lib.hid hfin
 have HG := Lib.hid (fun wr (h : Below W1.heap.size W1 wr) => G1.later h)
 have HW1 := Lib.hid hW1
 have hle := hR.le
 have hmx := hR.mx
 clear hfin hW1
 cases hb : isB l i
 ·rw [hb] at K
  have e : boundI l i = (0, 1) := by unfold boundI; rw [hb]; rfl
  rw [e]
  clear hb e hR R1 G1 B1
  generalize l.length = N at *
  go_enter Tryz.func17, Tryz.ntmps17
  go_upto_region 1 with (fail)
  rw [HW1.out]
  go_wp2_with (go_at_call 46; (with_reducible refine K.out.mono ?_); rintro e w1 ⟨rfl, h⟩; have g := HG.out _ h; have d0 := g.c0; have d1 := g.c1; have e0 := g.frozen 0; have e1 := g.frozen 1)
  obtain ⟨R, hB⟩ := HF.out 0 1 _ h
  exact bodyPost_ret (v := .agg #[.int .i64 0, .int .i64 1]) (results_got4 rfl _ _ _ _ _ rfl R) rfl ⟨rfl, hB⟩
 ·rw [hb] at K
  have hck := (isB_iff hb).1
  have hv := isB_vs hb
  obtain ⟨ki, y, rfl, hki, hy⟩ := isB_get hb
  have hm := mOf_get hck hy
  have hd := chk_d hck y (List.mem_of_getElem? hy)
  have hE := bound_at hck hy
  have hj := (hv.all y (List.mem_of_getElem? hy)).j0
  have hj1 := (hv.all y (List.mem_of_getElem? hy)).j1
  have hd0 := hd.d0
  have hd1 := hd.d1
  rw [hE]
  obtain ⟨b, o, x, rfl, hx, -, hbl, hT⟩ := R1.get hki
  obtain rfl : y = x := by have := hy.symm.trans hx; simpa using this
  have KN := Lib.hid (fun W (h : Below W1.heap.size W1 W) (v : Int) (hv : U v) => rneed_any (some ⟨b, o, none⟩) cap l (ki : Int) v W (R1.later h) hi hv)
  have HT := Lib.hid hT
  generalize mOf l (ki : Int) = M at *
  obtain ⟨hm0, hm1, hm2⟩ := hm
  have HNU := Lib.hid (fun (v : Int) (h : U v) => need_u l (ki : Int) v hb h)
  generalize needI l (ki : Int) = nf at *
  clear hb hE hR R1 hv hy hx hd hck G1 B1 hT
  generalize l.length = N at *
  have hI0 : (0 : Int) ≤ (ki : Int) := by omega
  have hI1 : (ki : Int) < ((N : Nat) : Int) := by omega
  have HW := Lib.hid (w64 (z := y.d - y.j) (by omega) (by omega))
  go_enter Tryz.func17, Tryz.ntmps17
  go_upto_region 1 with (fail)
  rw [HW1.out]
  go_wp2_with (go_at_call 46; (with_reducible refine K.out.mono ?_); rintro e w1 ⟨rfl, h⟩)
  have HL := Lib.hid h
  clear h
  go_loopw [6] (fun s wr => ∃ v : Nat, 1 ≤ v ∧ v ≤ M + 1 ∧ s = .int .i64 v ∧ Hid (∀ u : Nat, 1 ≤ u → u < v → (u : Int) < nf u) ∧ Hid (Below W1.heap.size W1 wr)) (fun s _ => M + 1 - (intOf s).toNat)
  case atStart => exact ⟨1, Nat.le_refl _, by omega, rfl, Lib.hid (fun u h1 h2 => by omega), HL⟩
  case round =>
   obtain ⟨v, hv1, hvM, rfl, HU, HL⟩ := hrel
   have hTr := HT.out.later HL.out
   have c3 := hTr.c3
   have c4 := hTr.c4
   clear hTr
   by_cases hle : v ≤ M
   ·have g1 : decide ((v : Int) ≤ y.d - y.j) = true := decide_eq_true (by omega)
    have g1' : decide ((v : Int) > y.d - y.j) = false := decide_eq_false (by omega)
    have HWV := Lib.hid (wu64 (z := (v : Int)) (by omega) (by omega))
    have HWA := Lib.hid (w64 (z := (v : Int) + y.j) (by omega) (by omega))
    have HWS := Lib.hid (w64 (z := (v : Int) + 1) (by omega) (by omega))
    have KV := Lib.hid (fun W h => KN.out W h (v : Int) ⟨by omega, by omega⟩)
    have HLE := Lib.hid hle
    obtain ⟨z, hz⟩ : ∃ z, nf (v : Int) = z := ⟨_, rfl⟩
    have HZ := Lib.hid hz
    rw [hz] at KV
    clear hz hle
    by_cases hn : z ≤ (v : Int)
    ·have u1 : decide (z ≤ (v : Int)) = true := decide_eq_true hn
     have HB : Hid (bndOf y.j (leastF nf M) = ((v : Int) + y.j, 0)) := Lib.hid (by
      rw [leastF_is hv1 HLE.out (by rw [HZ.out]; exact hn) HU.out]
      rfl)
     clear hn
     obtain ⟨hw1, hw1'⟩ := HW.out
     have hwv := HWV.out
     obtain ⟨ha1, ha1'⟩ := HWA.out
     obtain ⟨hs1, hs1'⟩ := HWS.out
     go_upto_region 5 with (fail)
     go_quiet (fail)
     have HL2 := Lib.hid (below_drewN HL.out nq)
     go_wp2_with (go_at_call 47; (with_reducible refine (KV.out _ HL2.out).mono ?_); rintro e w5 ⟨rfl, h⟩; have HL5 := Lib.hid (HL2.out.trans (h.mono (Below.size HL2.out))); have hT5 := HT.out.later HL5.out; have c3 := hT5.c3; have c4 := hT5.c4; have g := HG.out _ HL5.out; have d0 := g.c0; have d1 := g.c1; have e0 := g.frozen 0; have e1 := g.frozen 1; clear h hT5)
     obtain ⟨R, hB⟩ := HF.out ((v : Int) + y.j) 0 _ HL5.out
     exact bodyPost_ret (v := .agg #[.int .i64 _, .int .i64 0]) (results_got4 rfl _ _ _ _ _ rfl R) rfl ⟨by rw [HB.out], hB⟩
    ·have u1 : decide (z ≤ (v : Int)) = false := decide_eq_false hn
     have HN := Lib.hid hn
     clear hn
     obtain ⟨hw1, hw1'⟩ := HW.out
     have hwv := HWV.out
     obtain ⟨ha1, ha1'⟩ := HWA.out
     obtain ⟨hs1, hs1'⟩ := HWS.out
     go_upto_region 5 with (fail)
     go_quiet (fail)
     have HL2 := Lib.hid (below_drewN HL.out nq)
     go_wp2_with (go_at_call 47; (with_reducible refine (KV.out _ HL2.out).mono ?_); rintro e w5 ⟨rfl, h⟩; have HL5 := Lib.hid (HL2.out.trans (h.mono (Below.size HL2.out))); clear h)
     clear hw1 hw1' hwv ha1 ha1' hs1 hs1'
     go_roundw
     case rel =>
      refine ⟨v + 1, by omega, by have := HLE.out; omega, by go_num, Lib.hid (fun u h1 h2 => ?_), HL5⟩
      rcases Nat.lt_or_ge u v with h3 | h3
      ·exact HU.out u h1 h3
      ·obtain rfl : u = v := by omega
       rw [HZ.out]
       have := HN.out
       omega
     case measure => have := HLE.out; simp [intOf]; omega
   ·have g1 : decide ((v : Int) ≤ y.d - y.j) = false := decide_eq_false (by omega)
    have g1' : decide ((v : Int) > y.d - y.j) = true := decide_eq_true (by omega)
    have HB : Hid (bndOf y.j (leastF nf M) = (0, 16)) := Lib.hid (by
     rw [leastF_not fun u h1 h2 => HU.out u h1 (by omega)]
     rfl)
    clear hle
    obtain ⟨hw1, hw1'⟩ := HW.out
    go_upto_region 5 with (fail)
    go_quiet (fail)
    have HL2 := Lib.hid (below_drewN HL.out nq)
    have g := HG.out _ HL2.out
    have d0 := g.c0
    have d1 := g.c1
    have e0 := g.frozen 0
    have e1 := g.frozen 1
    clear g
    go_wp2
    obtain ⟨R, hB⟩ := HF.out 0 16 _ HL2.out
    exact bodyPost_ret (v := .agg #[.int .i64 0, .int .i64 16]) (results_got4 rfl _ _ _ _ _ rfl R) rfl ⟨by rw [HB.out], hB⟩
end
section
open Go.RowKit
structure RnF (b : Int) (ss : List Ts) (js : List Fv) (sp : List Spn) (es : List Int) : Prop where
 le : es.length = js.length
 sj : ∀ x ∈ sp, x.j < js.length ∧ 0 ≤ x.f ∧ x.f < x.t ∧ x.t ≤ b
 en : ∀ i, i < js.length → 0 < kO es i ∧ kO es i ≤ b
 no : js.length = 0 → sp = []
theorem rnf_gen {ss : List Ts} {js : List Fv} (hl : Lg js) {T : Nat} {b : Int} (hT : (T : Int) ≤ b) (hd : ∀ i, i < js.length → kO (tst ss js T).dn i = (jb js i).k) : RnF b ss js (tst ss js T).sp (tst ss js T).en := by
 have hI := ti_all (ts := ss) hl T
 have hW := wk_all (ts := ss) hl T
 have sj : ∀ x ∈ (tst ss js T).sp, x.j < js.length ∧ 0 ≤ x.f ∧ x.f < x.t ∧ x.t ≤ b := fun x hx => by
  have h1 := chn_mem hW.ch x hx
  have h2 := hW.la
  unfold lastA at h2
  exact ⟨h1.1, h1.2.1.1, h1.2.1.2, by omega⟩
 refine ⟨hI.le, sj, fun i hi => ?_, fun h0 => ?_⟩
 ·have := hd i hi
  rcases hI.en i hi with h1 | h1
  ·omega
  ·exact ⟨h1.2.1, by omega⟩
 ·cases hs : (tst ss js T).sp with
  | nil => rfl
  | cons x l => have := (sj x (by rw [hs]; simp)).1; omega
end
section
structure Rn (ts : List Ts) (js : List Fv) (en : List Int) : Prop where
 ljs : LJs ts js
 le : en.length = js.length
 eb : ∀ i, i < js.length → 0 < kO en i ∧ kO en i ≤ 100000000000000000
 bnd : St ts → ∀ i, i < js.length → ∀ r, boundI ts (jb js i).t = (r, 0) → kO en i - (jb js i).a ≤ r ∧ r ≤ (tk ts (jb js i).t).d
def ScR (ts : List Ts) (k : Nat) (y : Ts) (en : List Int) : Prop :=
 ((boundI ts (k : Int)).2 = 0 ∧ kO en (headS ts (k : Int)).length - (startS ts (k : Int) - y.j) = (boundI ts (k : Int)).1) ∨ ((boundI ts (k : Int)).2 = 16 ∧ y.d < kO en (headS ts (k : Int)).length - (startS ts (k : Int) - y.j))
theorem dn_gen {ts : List Ts} {js : List Fv} (hl : legS ts js = true) (htot : (js.map (·.k)).sum ≤ 1000000000000) {R S T : Nat} (hR : R = 20000000000000) (hS : S = 1000000000000) (hT : R + (S + 1) ≤ T) :
  (∀ i, i < js.length → kO (tst ts js T).dn i = (jb js i).k) ∧ (tst ts js T).en = (tst ts js (R + (S + 1))).en ∧ ∀ i, i < js.length → kO (tst ts js (R + (S + 1))).dn i = (jb js i).k := by
 obtain ⟨h1, h2, h3⟩ := legS_parts hl
 have hv := vs_of h1
 have L := ljs_of hv js h3
 have g := lg_of L
 have D := done_at (ts := ts) g R S (fun i hi => by
  have l := jb_lj L hi
  have := l.a1; have := l.r1; have := (hv.tk (jb js i).t).j1
  omega) (by omega)
 have E := done_later (ts := ts) g (b := T) hT D
 exact ⟨fun i hi => by rw [E.1]; exact D i hi, E.2.2, D⟩
theorem rn_gen {ts : List Ts} {js : List Fv} (hl : legS ts js = true) (htot : (js.map (·.k)).sum ≤ 1000000000000) {R S T : Nat} (hR : R = 20000000000000) (hS : S = 1000000000000) (hT : R + (S + 1) ≤ T) :
  Rn ts js (tst ts js T).en := by
 obtain ⟨d1, d2, d3⟩ := dn_gen hl htot hR hS hT
 obtain ⟨h1, h2, h3⟩ := legS_parts hl
 have L := ljs_of (vs_of h1) js h3
 have g := lg_of L
 have F := rnf_gen (ss := ts) g (b := 100000000000000000) (T := R + (S + 1)) (by omega) d3
 refine ⟨L, by rw [d2]; exact F.le, fun i hi => by rw [d2]; exact F.en i hi, fun hs i hi r hb => bound_sound hs L hi hb (d1 i hi)⟩
theorem Rn.rsh {ts : List Ts} {js : List Fv} {en : List Int} (h : Rn ts js en) : RsH js en := by
 refine ⟨fun i hi => ?_, fun x hx => ?_⟩
 ·have l := jb_lj h.ljs hi
  have := l.a0; have := l.a1
  omega
 ·obtain ⟨i, hi, rfl⟩ := List.getElem_of_mem hx
  have h1 := h.eb i (by rw [← h.le]; exact hi)
  have e : kO en i = en[i] := by simp [kO, hi]
  rw [e] at h1
  omega
theorem Rn.resp {ts : List Ts} {js : List Fv} {en : List Int} (h : Rn ts js en) {i : Nat} (hi : i < js.length) : respS js en (i : Int) = some (kO en i - (jb js i).a) := by
 have h1 := h.eb i hi
 have h2 := h.le
 unfold respS
 rw [Int.toNat_natCast, if_pos ⟨by omega, by omega, by omega, by omega⟩]
theorem plt_big {ts : List Ts} (hs : St ts) (i : Int) : plT ts i ≤ 3000000000 := by
 have h1 := (start_bd (i := i) hs.vs).2.1
 have h2 : (tk ts i).d ≤ 20 := by
  unfold tk
  rw [List.getD_eq_getElem?_getD]
  cases hp : ts[i.toNat]? with
  | none => show (1 : Int) ≤ 20; omega
  | some x => exact (sm20_of hs.s x (List.mem_of_getElem? hp)).d.2
 have h3 := (hs.vs.tk i).j0
 unfold plT
 omega
theorem scr_gen {ts : List Ts} (hs : St ts) {k : Nat} {y : Ts} (hy : ts[k]? = some y) (hl : legS ts (sceneS ts (k : Int)) = true) (htot : ((sceneS ts (k : Int)).map (·.k)).sum ≤ 1000000000000) {R S T : Nat} (hR : R = 20000000000000) (hS : S = 1000000000000) (hT : R + (S + 1) ≤ T) :
  ScR ts k y (tst ts (sceneS ts (k : Int)) T).en := by
 obtain ⟨hm, hml⟩ := scene_m (ts := ts) (i := (k : Int))
 have := plt_big hs (k : Int)
 exact scene_resp hs.chk hy (by omega) ((dn_gen hl htot hR hS hT).1 _ hml)
theorem encF_near {ts : List Ts} (hv : Vs ts) : ∀ (l js : List Fv), (∀ j ∈ js, 0 ≤ j.a) → (∀ j ∈ l, 0 ≤ j.a ∧ j.a < 1048576) → ∃ rs, encF ts js l = some rs
 | [], js, _, _ => ⟨[], rfl⟩
 | j :: r, js, h0, h1 => by
   have hj := h1 j (by simp)
   have hs : 0 ≤ soonI ts js j.t := by
    unfold soonI
    cases hl : lastT js j.t with
    | none => exact Int.le_refl _
    | some x =>
      have := h0 x (lastT_mem hl).1
      have := (hv.tk j.t).t0
      show 0 ≤ x.a + (tk ts j.t).t
      omega
   obtain ⟨rs, hr⟩ := encF_near hv r (js ++ [j]) (fun x hx => by
    rcases List.mem_append.1 hx with hx | hx
    ·exact h0 x hx
    ·rw [List.mem_singleton.1 hx]; exact hj.1) (fun x hx => h1 x (List.mem_cons_of_mem _ hx))
   rw [encF, if_neg (by omega), hr]
   exact ⟨_, rfl⟩
theorem scene_a {ts : List Ts} (hs : St ts) {k : Nat} {y : Ts} (hy : ts[k]? = some y) : ∀ j ∈ sceneS ts (k : Int), 0 ≤ j.a ∧ j.a < 1048576 := by
 have hk := (List.getElem?_eq_some_iff.1 hy).1
 have hsm := sm20_of hs.s
 have tkb : ∀ i : Int, (tk ts i).d ≤ 20 ∧ (tk ts i).j ≤ 20 := fun i => by
  unfold tk
  rw [List.getD_eq_getElem?_getD]
  cases hp : ts[i.toNat]? with
  | none => show (1 : Int) ≤ 20 ∧ (0 : Int) ≤ 20; omega
  | some x => exact ⟨(hsm x (List.mem_of_getElem? hp)).d.2, (hsm x (List.mem_of_getElem? hp)).j.2⟩
 have hS : startS ts (k : Int) ≤ 21 := by
  unfold startS
  have := (fmax_le (fun x : Nat => (tk ts (x : Int)).j) ((List.range ts.length).filter (hpB ts (k : Int))) (tk ts (k : Int)).j 20).2 ⟨(tkb _).2, fun x _ => (tkb _).2⟩
  omega
 intro j hj
 have lj := scene_lj hs.chk (i := (k : Int)) (by omega) (by omega) j hj
 refine ⟨lj.a0, ?_⟩
 rcases scene_mem hj with ⟨b, _, rfl⟩ | rfl | ⟨z, n, hz, _, hn, rfl⟩
 ·show startS ts (k : Int) - 1 < _; omega
 ·have := (hs.vs.tk (k : Int)).j0
  show startS ts (k : Int) - (tk ts (k : Int)).j < _; omega
 ·have hzg := List.getElem?_eq_getElem hz
  have hlt := (per_lt hs.chk hy hzg (startS ts (k : Int)) n).2 hn
  have etk : tk ts (k : Int) = y := tk_get hy
  have etz : tk ts (z : Int) = ts[z] := tk_get hzg
  have t1 := (tkb (k : Int)).1
  rw [etk] at t1
  have j0 := (hs.vs.tk (k : Int)).j0
  rw [etk] at j0
  have j0z := (hs.vs.tk (z : Int)).j0
  rw [etz] at j0z
  have hn0 : (0 : Int) ≤ (n : Int) * ts[z].t := Int.mul_nonneg (by omega) (by have := (hs.vs.tk (z : Int)).t0; rw [etz] at this; omega)
  unfold perJ
  split
  ·show startS ts (k : Int) - (tk ts (z : Int)).j < _; rw [etz]; omega
  ·show startS ts (k : Int) - (tk ts (z : Int)).j + (n : Int) * (tk ts (z : Int)).t < _; rw [etz]; omega
theorem scene_leg2 {ts : List Ts} (hs : St ts) {k : Nat} {y : Ts} (hy : ts[k]? = some y) : legS ts (sceneS ts (k : Int)) = true := by
 have hk := (List.getElem?_eq_some_iff.1 hy).1
 have := (st_sms hs (k : Int)).js (isB_at hs.chk hy)
 exact scene_leg hs.chk (by omega) (by omega) (by omega)
theorem scene_enc {ts : List Ts} (hs : St ts) {k : Nat} {y : Ts} (hy : ts[k]? = some y) : ∃ rs, encS ts (sceneS ts (k : Int)) = some rs ∧ decS ts rs = sceneS ts (k : Int) := by
 obtain ⟨rs, h⟩ := encF_near hs.vs (sceneS ts (k : Int)) [] (by simp) (scene_a hs hy)
 have e : encS ts (sceneS ts (k : Int)) = some rs := by
  unfold encS
  rw [scene_leg2 hs hy, if_pos rfl]
  exact h
 exact ⟨rs, e, decS_enc e⟩
theorem scene_tot {ts : List Ts} (hs : St ts) {k : Nat} {y : Ts} (hy : ts[k]? = some y) : ((sceneS ts (k : Int)).map (·.k)).sum ≤ 1000000000000 := by
 have := (st_sms hs (k : Int)).tot (isB_at hs.chk hy)
 omega
end
section
open Go.RowKit
theorem srest_any (x n : Int) (w : World) (hx : in64 x) (hn : 0 < n) (hn2 : n ≤ 4294967296) : Calls Tryz.prog 95 #[.int .i64 x, .int .i64 n] w fun e w' => e = .returned (.int .i64 (x % n)) ∧ w = w' := by
 have hb := tmod_bd x n hn
 obtain ⟨h1, h2⟩ := hx
 rw [emod_tmod x n hn]
 by_cases h : x.tmod n < 0
 ·rw [if_pos h]
  go_enter Tryz.func95, Tryz.ntmps95
  go_wp2
  go_ret
  exact ⟨rfl, rfl⟩
 ·rw [if_neg h]
  have h' : decide (x.tmod n < 0) = false := decide_eq_false h
  go_enter Tryz.func95, Tryz.ntmps95
  go_wp2
  go_ret
  exact ⟨rfl, rfl⟩
theorem sections_any (A : Option Addr) (cap : Nat) (l : List Int) (q k : Int) (w : World) (hR : CRow w A cap l) (q0 : 1 ≤ q) (q1 : q ≤ 2147483647) (k0 : 0 ≤ k) (k1 : k ≤ 2147483647) :
  Calls Tryz.prog 119 #[.slice A l.length cap, .int .i64 q, .int .i64 k] w (SecPost (secs q k l) w) := by
 obtain ⟨i0, hi, hz0, hz1, hz2⟩ := info_parts info64
 have hle := hR.le
 have hmx := hR.mx
 have ROW := Lib.hid hR
 have HS0 : Hid (SecIn w.heap.size w (.slice none 0 0) []) := Lib.hid ⟨World.ownsRow_nil _ _ _ _, by simp⟩
 clear hR
 go_enter Tryz.func119, Tryz.ntmps119
 go_wp2
 go_step3
 go_wp2
 go_step3
 go_wp2
 go_loopg [7, 8, 15] l.length (fun g v lf i wr => ∃ (m : Nat) (pre : List Int) (left : Int), m ≤ l.length ∧ l.length - m ≤ g ∧ i = .int .i64 m ∧ lf = .int .i64 left ∧ 0 ≤ left ∧ left ≤ k ∧ (pre.length : Int) ≤ k - left ∧ Hid (SecIn w.heap.size wr v pre) ∧ Hid (secs q k l = pre ++ secs q left (l.drop m)) ∧ Lt w wr)
 case atStart => exact ⟨0, [], k, Nat.zero_le _, by omega, rfl, rfl, k0, by omega, by simp, HS0, Lib.hid rfl, Below.refl _ _⟩
 case round =>
  obtain ⟨m, pre, left, hm, hg, rfl, rfl, l0, l1, hpl, hI, hq, hL⟩ := hrel
  by_cases hlt : m < l.length
  ·obtain ⟨b, o, c, rfl, hc, hcw, hbl, hcell⟩ := ROW.out.get hlt
   have hcell := (hL.cell (p := ⟨b, o + m, none⟩) hbl).trans hcell
   have hd : l.drop m = c :: l.drop (m + 1) := by
    obtain ⟨hlt', he⟩ := List.getElem?_eq_some_iff.1 hc
    rw [← he]
    exact (List.drop_eq_getElem_cons hlt')
   have HD := Lib.hid hd
   have HL := Lib.hid hL
   have m0 : (0 : Int) ≤ (m : Int) := by omega
   have m1 : (m : Int) < (l.length : Int) := by omega
   clear hc hd hL
   by_cases hz : left = 0
   ·subst hz
    go_wp2
    first | rw [Exit.noGoto_ret] | simp only [Exit.noGoto]
    go_wp2
    go_ret
    exact secs_post hI.out (by rw [hq.out, HD.out, secs, if_pos rfl, List.append_nil]) HL.out
   ·have hzb : (left == 0) = false := by rw [beq_eq_false_iff_ne]; exact hz
    have hmb := min_bd q left q0 (by omega)
    have hrb := emod_bd c (min q left) (by omega)
    have K : Hid (∀ (W : World) (n : Int), n = min q left → Calls Tryz.prog 95 #[.int .i64 c, .int .i64 n] W fun e w' => e = .returned (.int .i64 (c % min q left)) ∧ W = w') := Lib.hid (fun W n hn => by subst hn; exact srest_any c (min q left) W hcw (by omega) (by omega))
    have hQ : secs q k l = (pre ++ [1 + c % min q left]) ++ secs q (left - (1 + c % min q left)) (l.drop (m + 1)) := by rw [hq.out, HD.out, secs, if_neg hz]; simp
    have HQ := Lib.hid hQ
    have hmn : min q left = if left < q then left else q := by omega
    generalize c % min q left = s at *
    generalize hmin : min q left = mn at *
    clear hq hQ HD
    obtain ⟨t, ht⟩ : ∃ t, 1 + s = t := ⟨_, rfl⟩
    rw [ht] at HQ
    have ht0 : 1 ≤ t ∧ t ≤ left := by omega
    have hc1 := fun (V : World) => cell_one_new V (.int .i64 t) 2
    have HC1 := Lib.hid hc1
    have HI := hI
    clear hI hc1
    go_wp2_with (first
     | (go_at_call 95; (with_reducible refine (K.out _ _ (by omega)).mono ?_); rintro e w1 ⟨rfl, rfl⟩)
     | (at_builtin; refine wpList_append_own _ rfl _ _ 42 rfl w.heap.size 2 i0 _ 1 8 Tryz.underlying42 hi hz0 hz1 hz2 rfl (by decide) _ _ _ rfl (HI.out.row.alloc _) ⟨wr.heap.size, 0, none⟩ 1 1 [.int .i64 t] rfl rfl (by simpa using HC1.out wr) (by simp [Value.oneCell']) (by unfold maxLen; omega) (by omega) (by have := Below.size HL.out; simp; omega) ?_; intro v' w4 hown' hgrow hnil'))
    all_goals
     go_roundg (l.length - (m + 1))
     case measure => omega
     case rel =>
      refine ⟨m + 1, pre ++ [t], left - t, by omega, by omega, by go_num, rfl, by omega, by omega, by rw [List.length_append]; simp; omega, Lib.hid ⟨by rw [List.length_append, numL_snoc]; exact hown', fun y hy => ?_⟩, HQ, ?_⟩
      ·rcases List.mem_append.1 hy with hy | hy
       ·exact HI.out.wf y hy
       ·obtain rfl := List.mem_singleton.1 hy
        exact ⟨by omega, by omega⟩
      ·exact (((Below.refl w.heap.size w).trans HL.out).alloc (Below.size HL.out) _).grown hgrow (by have := Below.size HL.out; simp; omega) (fun q hq => (HI.out.row.lt q hq).1)
  ·obtain rfl : m = l.length := by omega
   have HL := Lib.hid hL
   clear hL
   have hmm : decide ((l.length : Int) < (l.length : Int)) = false := decide_eq_false (by omega)
   go_wp2
   first | rw [Exit.noGoto_ret] | simp only [Exit.noGoto]
   go_wp2
   go_ret
   exact secs_post hI.out (by rw [hq.out, List.drop_length, secs, List.append_nil]) HL.out
theorem decoded_any (x : Ts) (r : Fv) (A : Option Addr) (cap : Nat) (s : Int) (w : World) (hx : TsOk x) (hr : FvW r) (hR : CRow w A cap r.c) (s0 : 0 ≤ s) (s1 : s ≤ 35184372088832) :
  Calls Tryz.prog 96 #[tsV x, fvV r A cap, .int .i64 s] w (DecPost ⟨0, s + r.a % 1048576, s + r.a % 1048576 + r.r % (x.j + 1), 1 + r.k % x.c, secs x.q (1 + r.k % x.c) r.c⟩ w) := by
 obtain ⟨xc0, xc1, -, -, xj0, xj1, xq0, xq1⟩ := hx
 have e1 := emod_bd r.a 1048576 (by omega)
 have e2 := emod_bd r.k x.c (by omega)
 have e3 := emod_bd r.r (x.j + 1) (by omega)
 have K1 := Lib.hid (fun W => srest_any r.a 1048576 W hr.a (by omega) (by omega))
 have K2 := Lib.hid (fun W => srest_any r.k x.c W hr.k (by omega) (by omega))
 have K3 := Lib.hid (fun W => srest_any r.r (x.j + 1) W hr.r (by omega) (by omega))
 obtain ⟨W1, hW1⟩ : ∃ W1, ((w.alloc (.cells #[.string x.n, .int .i64 x.c, .int .i64 x.t, .int .i64 x.d, .int .i64 x.j, .int .i64 x.q, .int .i64 x.p] 26)).alloc (.cells #[.int .i64 r.t, .int .i64 r.a, .int .i64 r.r, .int .i64 r.k, .slice A r.c.length cap] 71)).alloc (.cells #[.int .i64 0, .int .i64 0, .int .i64 0, .int .i64 0, .slice none 0 0] 74) = W1 := ⟨_, rfl⟩
 have B1 : Below w.heap.size w W1 := by rw [← hW1]; exact (((Below.refl _ _).alloc (Nat.le_refl _) _).alloc (by simp) _).alloc (by simp; omega) _
 have F1 : FB W1 (w.heap.size + 1 + 1) 74 (.int .i64 0) (.int .i64 0) (.int .i64 0) (.int .i64 0) (.slice none 0 0) := by
  rw [← hW1]
  have := FB.new ((w.alloc (.cells #[.string x.n, .int .i64 x.c, .int .i64 x.t, .int .i64 x.d, .int .i64 x.j, .int .i64 x.q, .int .i64 x.p] 26)).alloc (.cells #[.int .i64 r.t, .int .i64 r.a, .int .i64 r.r, .int .i64 r.k, .slice A r.c.length cap] 71)) 74 (.int .i64 0) (.int .i64 0) (.int .i64 0) (.int .i64 0) (.slice none 0 0)
  simpa only [World.size_alloc] using this
 generalize hm : r.k % x.c = rk at *
 have K5 := sections_any A cap r.c x.q (1 + rk) W1.drew (hR.later (B1.trans ((below_drew W1).mono B1.size))) xq0 xq1 (by omega) (by omega)
 generalize secs x.q (1 + rk) r.c = sl at *
 have K5 := Lib.hid K5
 generalize r.a % 1048576 = ra at *
 generalize r.r % (x.j + 1) = rr at *
 clear hm hR hr
 have HW1 := Lib.hid hW1
 have B1 := Lib.hid B1
 have F1 := Lib.hid F1
 clear hW1
 obtain ⟨Q, hQ⟩ : ∃ Q, Q = DecPost ⟨0, s + ra, s + ra + rr, 1 + rk, sl⟩ w := ⟨_, rfl⟩
 rw [← hQ]
 have HQ := Lib.hid hQ
 clear hQ
 go_enter Tryz.func96, Tryz.ntmps96
 go_upto_region 3 with (first
  | (go_at_call 95; (with_reducible refine (K1.out _).mono ?_); rintro e w1 ⟨rfl, rfl⟩)
  | (go_at_call 95; (with_reducible refine (K2.out _).mono ?_); rintro e w1 ⟨rfl, rfl⟩))
 rw [HW1.out]
 obtain ⟨q1, q2, q3, q4, q5⟩ : W1.cell? ⟨w.heap.size, 4, none⟩ = some (.int .i64 x.j) ∧ W1.cell? ⟨w.heap.size, 5, none⟩ = some (.int .i64 x.q) ∧ W1.cell? ⟨w.heap.size + 1, 2, none⟩ = some (.int .i64 r.r) ∧ W1.cell? ⟨w.heap.size + 1, 4, none⟩ = some (.slice A r.c.length cap) ∧ w.heap.size + 1 + 1 < W1.heap.size := by
  rw [← HW1.out]
  refine ⟨?_, ?_, ?_, ?_, by simp⟩ <;> go_simp
 clear HW1
 have hwr : IntKind.i64.wrap (x.j + 1) = x.j + 1 := IntWalk.i64_in _ (by omega)
 have hwr2 : IntKind.i64.wrap (s + ra + rr) = s + ra + rr := IntWalk.i64_in _ (by omega)
 generalize hN : w.heap.size = N at *
 have n1 : N ≠ N + 1 + 1 := by omega
 have n2 : N + 1 ≠ N + 1 + 1 := by omega
 have HNB : Hid (N ≤ N + 1 + 1) := Lib.hid (by omega)
 generalize N + 1 + 1 = b2 at *
 generalize N + 1 = b1 at *
 clear e1 e2 e3
 have F2 := Lib.hid (F1.out.later (below_drew W1))
 have B2 : Hid (Below N w W1.drew) := Lib.hid (B1.out.trans ((below_drew W1).mono (by have := B1.out.size; omega)))
 have hD : D4 N b1 b2 x.j x.q r.r (.slice A r.c.length cap) W1.drew := D4.step ⟨q1, q2, q3, q4, n1, n2⟩ (below_drew W1)
 have HD := Lib.hid hD
 clear K1 K2 F1 B1 q1 q2 q3 q4 q5 hD
 go_region_held_law (fun W => W.cell? ⟨N, 4, none⟩ = some (.int .i64 x.j) ∧ W.cell? ⟨N, 5, none⟩ = some (.int .i64 x.q) ∧ W.cell? ⟨b1, 2, none⟩ = some (.int .i64 r.r) ∧ W.cell? ⟨b1, 4, none⟩ = some (.slice A r.c.length cap) ∧ (N ≠ b2 ∧ b1 ≠ b2))
  (first | (with_reducible assumption) | (with_reducible exact HD.out) | (with_reducible exact HD3.out) | (with_reducible exact (D4.set5 HD3.out _ _ _ _ _)))
  (first
  | (go_at_call 95; (with_reducible refine (K3.out _).mono ?_); rintro e w1 ⟨rfl, rfl⟩)
  | (go_at_call 119; (with_reducible refine K5.out.mono ?_); rintro e w2 ⟨C, cc, rfl, hC, hs, hb⟩; have HD3 := Lib.hid (HD.out.step hb); have hFB := F2.out.later hb; obtain ⟨z0, z1, z2, z3, z4⟩ := hFB.z; have y0 := hFB.fz 0; have y1 := hFB.fz 1; have y2 := hFB.fz 2; have y3 := hFB.fz 3; have y4 := hFB.fz 4; have HFB := Lib.hid hFB; have HS := Lib.hid hs; have HC := Lib.hid hC; have HB := Lib.hid hb; clear hFB hs hC hb))
 have HF5 := Lib.hid ((((((F2.out.later HB.out).set (i := 0) (.int .i64 0) rfl).set (i := 1) (.int .i64 (s + ra)) rfl).set (i := 2) (.int .i64 (s + ra + rr)) rfl).set (i := 3) (.int .i64 (1 + rk)) rfl).set (i := 4) (.slice C sl.length cc) rfl)
 have HK5 := Lib.hid ((((((Kept.refl [b2] w2).set b2 0 (.int .i64 0) (by simp)).set b2 1 (.int .i64 (s + ra)) (by simp)).set b2 2 (.int .i64 (s + ra + rr)) (by simp)).set b2 3 (.int .i64 (1 + rk)) (by simp)).set b2 4 (.slice C sl.length cc) (by simp))
 generalize (((((w2.setCell ⟨b2, 0, none⟩ (.int .i64 0)).setCell ⟨b2, 1, none⟩ (.int .i64 (s + ra))).setCell ⟨b2, 2, none⟩ (.int .i64 (s + ra + rr))).setCell ⟨b2, 3, none⟩ (.int .i64 (1 + rk))).setCell ⟨b2, 4, none⟩ (.slice C sl.length cc)) = W9 at *
 have hlt : b2 < W1.drew.heap.size := F2.out.lt
 have hNb : N ≤ b2 := HNB.out
 have HSC := HS
 clear HS z0 z1 z2 z3 z4 y0 y1 y2 y3 y4
 go_wp2
 refine bodyPost_ret (results_job rfl _ _ b2 _ _ _ _ _ rfl HF5.out) rfl ?_
 rw [HQ.out]
 have hne : sl ≠ [] → ∀ a, C = some a → a.block ∉ [b2] := fun h a ha => by
  have := (HSC.out h a ha).1
  rw [List.mem_singleton]
  omega
 refine ⟨C, cc, rfl, HC.out.kept HK5.out hne, fun h a ha => ?_, ?_⟩
 ·obtain ⟨h1, cs, fr, h2⟩ := HSC.out h a ha
  have hsz : N ≤ W1.drew.heap.size := by omega
  refine ⟨by rw [hN]; omega, cs, fr, (HK5.out.block a.block (Array.getElem?_eq_some_iff.1 h2).1 (hne h a ha)).trans h2⟩
 ·rw [hN]
  exact ((B2.out.trans (HB.out.mono (by omega))).trans (HK5.out.below (by have := HB.out.size; omega) (by simp; exact hNb)))
end
end Go.Proofs.YthfkbbiaemmndaaGreatDoor
