/- Texts about the program, one after the other: YWTe. -/
import Derived.WalkKit
import Derived.ProofKit
import Derived.Handy
import Derived.Lib.Hide
import Derived.Deep.MidRow
import Derived.Deep.QuietTactic
import Derived.BigQuiet
import Derived.Deep.RegionHeld3
import Derived.Laws.Externs
import Derived.RangeFuncBox
import Derived.Deep.CutBlock
import Derived.Deep.LoopGhost
import Derived.WalkMore
import Derived.OrdersIn
import Derived.Stop.RegionWithIn
import Derived.Deep.RegionLaw
import Derived.Laws.OwnMore
import Derived.Deep.CutRange
import Derived.Deep.Quiet
import Derived.Deep.RegionHeld
import Derived.Laws.AppendOwn
import Derived.Below
import Derived.LaidMore
import Derived.Laws.CopyOwn
import Derived.IntWalk
import Derived.OwnWalk
import Derived.BigRegion
import Derived.Deep.DrawnRows
import Derived.Deep.RegionHeldLaw
import Derived.LoopIn
import Derived.LoopNIn
import Derived.TacticsInMore
import Derived.OwnWalkIn
import Derived.RangeFuncNested
import Derived.RangeFuncBound
import Derived.RangeFuncCalls
import Derived.RangeFuncLeaves
import Derived.RangeFuncWrites
import Derived.Shelf.Abstract
import Derived.StillTailTactics
import Derived.Lib.SliceRun
import Derived.Deep.AppendSrc
import Derived.Deep.Upon
import Derived.Deep.DeepAppendWide
import Derived.Sort.LoopGhostIn
import Derived.Laws.MakeOwn
import Derived.Shelf.SlGeneric
import Derived.Shelf.Spec.SlicesGrow
import Derived.Ground.Names8Prog
import Derived.Shelf.SlSortCmp.Whole1
import Derived.Ground.SlsfProg
import Derived.Ground.SlgnProg
import Derived.Laws.ShiftsVarLaws
import Derived.Outline
import Derived.Laws.Bits128
import Derived.Deep.RegionWith
import Derived.Shelf.RegionOpen
import Derived.Laws.BytesString
import Derived.RangeFuncRecord
import Derived.MapKept
import Derived.Maps.AppendAt
import Derived.Laws.AppendOwnNone
import Derived.Shelf.SlSortCmp.NoneTotal
import Derived.Shelf.Small.Bits
import Derived.Shelf.Small.Strs
import Derived.Shelf.Small.Wraps
import Derived.Shelf.Strconv.Itoa0
import Derived.Shelf.LaysM
import Derived.Shelf.Strconv.Clone
import Derived.Shelf.Strings.Search1
import Derived.Shelf.Bits.Mul64
import Derived.Ground.Names2Prog
import Derived.Shelf.Slices.SearchI
import Derived.ChangeOld
import Derived.OpenShut
import Derived.Test.YthfkbbiaemmndaaGreatDoorRows
import Derived.Test.YthfkbbiaemmndaaGreatDoorProg
import Derived.Test.YthfkbbiaemmndaaGreatDoorG4
import Derived.Test.YthfkbbiaemmndaaGreatDoorG6
import Derived.Test.YthfkbbiaemmndaaGreatDoorG10
import Derived.Test.YthfkbbiaemmndaaGreatDoorG13
import Derived.Test.YthfkbbiaemmndaaGreatDoorG23
import Derived.Test.YthfkbbiaemmndaaGreatDoorG25
import Derived.Test.YthfkbbiaemmndaaGreatDoorG26
import Derived.Test.YthfkbbiaemmndaaGreatDoorG30
import Derived.Test.YthfkbbiaemmndaaGreatDoorG45
set_option linter.unusedVariables false
set_option linter.unusedSimpArgs false
set_option maxRecDepth 100000
set_option maxHeartbeats 16000000
namespace Go.Proofs.YthfkbbiaemmndaaGreatDoor
section
open Go.RowKit
def smT (x : Ts) : Ts := ⟨x.n, x.c.tmod 40, x.t.tmod 40, x.d.tmod 40, x.j.tmod 40, x.q.tmod 40, x.p⟩
theorem tmod40 (a : Int) : -39 ≤ a.tmod 40 ∧ a.tmod 40 ≤ 39 := by
 have h1 := Int.tmod_lt_of_pos a (show (0 : Int) < 40 by decide)
 have h2 := Int.tmod_lt_of_pos (-a) (show (0 : Int) < 40 by decide)
 rw [Int.neg_tmod] at h2
 omega
theorem smT_w {x : Ts} (h : TsW x) : TsW (smT x) := by
 have a1 := tmod40 x.c; have a2 := tmod40 x.t; have a3 := tmod40 x.d; have a4 := tmod40 x.j; have a5 := tmod40 x.q
 exact ⟨h.n, (show in64 (x.c.tmod 40) from ⟨by omega, by omega⟩), (show in64 (x.t.tmod 40) from ⟨by omega, by omega⟩), (show in64 (x.d.tmod 40) from ⟨by omega, by omega⟩), (show in64 (x.j.tmod 40) from ⟨by omega, by omega⟩), (show in64 (x.q.tmod 40) from ⟨by omega, by omega⟩), h.p⟩
theorem sm_sms (l : List Ts) (i : Int) (h : l.length ≤ 8) : SmS (l.map smT) i 1000000000 :=
 sms_small i (by rw [List.length_map]; exact h) (fun x hx => by
  obtain ⟨z, _, rfl⟩ := List.mem_map.1 hx
  have a1 := tmod40 z.c; have a2 := tmod40 z.d; have a3 := tmod40 z.j; have a4 := tmod40 z.q
  show z.c.tmod 40 ≤ 40 ∧ z.d.tmod 40 ≤ 40 ∧ z.j.tmod 40 ≤ 40 ∧ z.q.tmod 40 ≤ 40
  omega)
theorem sm_step {l : List Ts} {i : Nat} {x : Ts} (hx : l[i]? = some x) : (l.take (i + 1)).map smT = (l.take i).map smT ++ [smT x] := by
 obtain ⟨hk, e⟩ := List.getElem?_eq_some_iff.1 hx
 rw [List.take_succ_eq_append_getElem hk, List.map_append, e]
 rfl
theorem ste_walk (A0 : Option Addr) (cap0 : Nat) (l0 : List Sp) (A1 : Option Addr) (cap1 : Nat) (l1 : List Ts) (x0 : Int) (w : World) (hT : Tab w) (h0 : SRow w A0 cap0 l0) (h1 : Row w A1 cap1 l1) (i0 : in64 x0) :
  Calls Tryz.prog 3 #[.slice A0 l0.length cap0, .slice A1 l1.length cap1, .int .i64 x0] w fun e w' => e = .returned (.bool true) ∧ Below w.heap.size w w' := by
 obtain ⟨ii, hi, hz0, hz1, hz2⟩ := info_parts infoTs
 have KA := Lib.hid awake_any
 have KS := Lib.hid (fun W (h : Lt w W) => set_any 6 (by omega) (by omega) A0 cap0 l0 x0 W (h0.later h) i0)
 have HTB := Lib.hid (fun W (h : Lt w W) => hT.below h)
 have ROW := Lib.hid h1
 have HL : Hid (Lt w w) := Lib.hid (Below.refl _ _)
 have hle := h1.le
 have hmx := h1.mx
 generalize l0.length = m0 at *
 generalize hN : l1.length = N at *
 have HN := Lib.hid hN
 clear h0 hT h1 hN
 go_enter Tryz.func3, Tryz.ntmps3
 go_upto_region 2 with (go_at_call 7; (with_reducible refine (KA.out _ (HTB.out _ HL.out)).mono ?_); rintro e v0 ⟨rfl, h⟩; have HL := Lib.hid (lt_step _ _ HL.out h); clear h)
 go_wp2
 go_loopw [8, 9] (fun vv i wr => ∃ j : Nat, j ≤ N ∧ j ≤ 4 ∧ i = .int .i64 j ∧ Hid (SetIn w.heap.size wr vv j ((l1.take j).map smT)) ∧ Hid (Lt w wr)) (fun _ i _ => 4 - (intOf i).toNat)
 case atStart => exact ⟨0, Nat.zero_le _, Nat.zero_le _, rfl, Lib.hid (SetIn.nil _ _), HL⟩
 case round =>
  obtain ⟨j, hj, hj4, rfl, HI, HL⟩ := hrel
  obtain ⟨A2, cap2, hv2, hl2, hm2⟩ := own_len HI.out.row
  subst hv2
  by_cases hlt : j < N ∧ j < 4
  ·obtain ⟨hlt, hlt4⟩ := hlt
   obtain ⟨b', o, x, rfl, hx, hxw, hbl, hT⟩ := ROW.out.get (k := j) (by rw [HN.out]; exact hlt)
   have hTr := hT.later HL.out
   have c0 := hTr.c0
   have c1 := hTr.c1
   have c2 := hTr.c2
   have c3 := hTr.c3
   have c4 := hTr.c4
   have c5 := hTr.c5
   have c6 := hTr.c6
   have hi0 : (0 : Int) ≤ (j : Int) := by omega
   have hi1 : (j : Int) < ((N : Nat) : Int) := by omega
   have hi4 : (j : Int) < 4 := by omega
   have HST := Lib.hid (sm_step hx)
   have HXW := Lib.hid (smT_w hxw)
   obtain ⟨nm, xc, xt, xd, xj, xq, xp⟩ := x
   simp only at *
   have H7 := seven_new (wr.alloc (.cells #[.string nm, .int .i64 xc, .int .i64 xt, .int .i64 xd, .int .i64 xj, .int .i64 xq, .int .i64 xp] 26)) (smT ⟨nm, xc, xt, xd, xj, xq, xp⟩)
   rw [World.size_alloc] at H7
   have H7 := Lib.hid H7
   clear hT hTr hx hxw hbl
   go_upto_region 7 with (fail)
   go_wp2_with (at_builtin; refine wpList_append_own _ rfl _ _ 23 rfl w.heap.size 26 ii _ 7 64 Tryz.underlying23 hi hz0 hz1 hz2 rfl (by decide) _ _ _ rfl ((HI.out.row.alloc _).alloc _) ⟨wr.heap.size + 1, 0, none⟩ 1 1 (tsL (smT ⟨nm, xc, xt, xd, xj, xq, xp⟩)) rfl rfl H7.out (tsL_one _) (by unfold maxLen; omega) (by omega) (by have := Below.size HL.out; simp; omega) ?_; intro v' w4 hown' hgrow hnil')
   go_roundw
   case rel =>
    have hb0 := Below.size HL.out
    exact ⟨j + 1, by omega, by omega, by go_num, Lib.hid (by rw [HST.out]; exact HI.out.snoc HXW.out hown'), Lib.hid (((((Below.refl w.heap.size w).trans HL.out).alloc hb0 _).alloc (by simp; omega) _).grown hgrow (by simp; omega) (fun q hq => (HI.out.row.lt q hq).1))⟩
   case measure => simp [intOf]; omega
  ·obtain ⟨A3, cap3, hv3, hF⟩ := HI.out.rowR
   have HF := Lib.hid hF
   have hml := HI.out.len
   rw [hml] at hv3
   obtain ⟨rfl, rfl⟩ : A3 = A2 ∧ cap3 = cap2 := by simpa [eq_comm] using hv3
   have h8 : (l1.take j).length ≤ 8 := by rw [List.length_take]; omega
   have HSS := Lib.hid (fun i => sm_sms (l1.take j) i h8)
   generalize (l1.take j).map smT = sm at *
   have HML := Lib.hid hml
   have HJ4 := Lib.hid hj4
   have hs : ((N : Int) ≤ (j : Int)) ∨ ((j : Int) < (N : Int) ∧ (4 : Int) ≤ (j : Int)) := by omega
   clear hF hv3 h8 hml hlt HI
   rcases hs with u1 | ⟨u1, u2⟩
   all_goals
    go_upto_region 8 with (fail)
    (try clear u2)
    clear u1
    go_upto_region 9 with (go_at_call 8; (with_reducible refine (KS.out _ HL.out).mono ?_); rintro e v ⟨A, cap, ts, rfl, hR, hn1, hn6, hd, hsf, hp, h⟩; have HR := Lib.hid hR; have HST := Lib.hid (St.mk hn1 (by omega) hd hsf hp); have HF := Lib.hid (HF.out.later h); have HL := Lib.hid (lt_step _ _ HL.out h); clear h hR hsf hd hp)
    have hle2 := HR.out.le
    have hmx2 := HR.out.mx
    obtain ⟨r0, r1⟩ := restI_bd x0 ((ts.length : Int) + 2) (by omega) (by omega)
    obtain ⟨t0, t1⟩ := restI_bd x0 6 (by omega) (by omega)
    have KR := Lib.hid (fun W => rest_any x0 ((ts.length : Int) + 2) W i0 (by omega) (by omega))
    have KR3 := Lib.hid (fun W => rest_any x0 6 W i0 (by omega) (by omega))
    generalize restI x0 ((ts.length : Int) + 2) = z at *
    generalize restI x0 6 = z6 at *
    have HWA := Lib.hid (w64 (z := (ts.length : Int) + 2) (by omega) (by omega))
    have wm := fun (q : Int) (h0 : 0 ≤ q) (h1 : q ≤ 100) => (show wrap64 (q - 1) = q - 1 ∧ IntKind.i64.wrap (q - 1) = q - 1 from ⟨IntWalk.wrap64_in _ (by omega), by rw [IntKind.wrap_i64]; omega⟩)
    have HWZ := Lib.hid (wm z r0 (by omega))
    have HWZ6 := Lib.hid (wm z6 t0 (by omega))
    clear wm
    have hv1 : in64 (z - 1) := ⟨by omega, by omega⟩
    have hv3 : in64 (z6 - 1) := ⟨by omega, by omega⟩
    have HV : Hid (Lt v v) := Lib.hid (Below.refl _ _)
    have KT := fun (i : Int) (hi : in64 i) => Lib.hid (fun W (h : Lt v W) => tells_any A cap ts i W (HR.out.later h) hi (HTB.out _ (lt_step _ _ HL.out h)) (st_sms HST.out i))
    have KT1 := KT x0 i0
    have KT2 := KT (z - 1) hv1
    have KT4 := fun W (h : Lt v W) => tells_any A3 cap3 sm (z6 - 1) W (HF.out.later h) hv3 (HTB.out _ (lt_step _ _ HL.out h)) (HSS.out _)
    rw [HML.out] at KT4
    have KT4 := Lib.hid KT4
    generalize hNN : ts.length = NN at *
    clear KT hNN hv1 hv3 r0 r1 t0 t1 hle2 hmx2 hn1 hn6
    obtain ⟨e1, e1'⟩ := HWA.out
    obtain ⟨e2, e2'⟩ := HWZ.out
    obtain ⟨e3, e3'⟩ := HWZ6.out
    go_wp2_with (first
     | (go_at_call 9; (with_reducible refine (KT1.out _ HV.out).mono ?_); rintro e v1 ⟨rfl, h⟩; have HV := Lib.hid (lt_step _ _ HV.out h); clear h)
     | (go_at_call 9; (with_reducible refine (KT2.out _ HV.out).mono ?_); rintro e v1 ⟨rfl, h⟩; have HV := Lib.hid (lt_step _ _ HV.out h); clear h)
     | (go_at_call 9; (with_reducible refine (KT4.out _ HV.out).mono ?_); rintro e v1 ⟨rfl, h⟩; have HV := Lib.hid (lt_step _ _ HV.out h); clear h)
     | (go_at_call 10; (with_reducible refine (KR.out _).mono ?_); rintro e v3 ⟨rfl, rfl⟩)
     | (go_at_call 10; (with_reducible refine (KR3.out _).mono ?_); rintro e v3 ⟨rfl, rfl⟩)
     | fail)
    go_ret
    exact ⟨rfl, Below.trans HL.out (Below.mono HV.out (Below.size HL.out))⟩
end
end Go.Proofs.YthfkbbiaemmndaaGreatDoor
