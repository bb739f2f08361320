/- Texts about the program, one after the other: DGrt, DLaw, YSms, REch, YWSa. -/
import Derived.Deep.RegionLaw
import Derived.WalkKit
import Derived.ProofKit
import Derived.Handy
import Derived.Lib.Hide
import Derived.Deep.MidRow
import Derived.Deep.QuietTactic
import Derived.BigQuiet
import Derived.Deep.RegionHeld3
import Derived.Laws.Externs
import Derived.RangeFuncBox
import Derived.Deep.CutBlock
import Derived.Deep.LoopGhost
import Derived.WalkMore
import Derived.Laws.OwnMore
import Derived.Below
import Derived.LaidMore
import Derived.Laws.AppendOwn
import Derived.Laws.CopyOwn
import Derived.IntWalk
import Derived.OwnWalk
import Derived.BigRegion
import Derived.Deep.DrawnRows
import Derived.Deep.Quiet
import Derived.Deep.RegionHeldLaw
import Derived.LoopIn
import Derived.LoopNIn
import Derived.TacticsInMore
import Derived.OwnWalkIn
import Derived.RangeFuncNested
import Derived.RangeFuncBound
import Derived.RangeFuncCalls
import Derived.RangeFuncLeaves
import Derived.RangeFuncWrites
import Derived.Shelf.Abstract
import Derived.StillTailTactics
import Derived.Lib.SliceRun
import Derived.Deep.AppendSrc
import Derived.Deep.Upon
import Derived.Deep.DeepAppendWide
import Derived.OrdersIn
import Derived.Sort.LoopGhostIn
import Derived.Laws.BytesString
import Derived.RangeFuncRecord
import Derived.MapKept
import Derived.Maps.AppendAt
import Derived.Laws.AppendOwnNone
import Derived.Shelf.Small.Bits
import Derived.Shelf.Small.Strs
import Derived.Shelf.Small.Wraps
import Derived.Shelf.Strconv.Itoa0
import Derived.Shelf.LaysM
import Derived.Shelf.Strconv.Clone
import Derived.Shelf.Strings.Search1
import Derived.Shelf.Bits.Mul64
import Derived.Ground.Names2Prog
import Derived.Shelf.Slices.SearchI
import Derived.ChangeOld
import Derived.OpenShut
import Derived.Test.YthfkbbiaemmndaaGreatDoorRows
import Derived.Test.YthfkbbiaemmndaaGreatDoorProg
import Derived.Stop.RegionWithIn
import Derived.Deep.CutRange
import Derived.Deep.RegionHeld
import Derived.Laws.MakeOwn
import Derived.Shelf.SlGeneric
import Derived.Shelf.Spec.SlicesGrow
import Derived.Ground.Names8Prog
import Derived.Shelf.SlSortCmp.Whole1
import Derived.Ground.SlsfProg
import Derived.Ground.SlgnProg
import Derived.Laws.ShiftsVarLaws
import Derived.Outline
import Derived.Laws.Bits128
import Derived.Deep.RegionWith
import Derived.Shelf.RegionOpen
import Derived.Shelf.SlSortCmp.NoneTotal
import Derived.Laws.Bits64b
import Derived.Test.YthfkbbiaemmndaaGreatDoorG4
import Derived.Test.YthfkbbiaemmndaaGreatDoorG5
import Derived.Test.YthfkbbiaemmndaaGreatDoorG6
import Derived.Test.YthfkbbiaemmndaaGreatDoorG7
import Derived.Test.YthfkbbiaemmndaaGreatDoorG9
import Derived.Test.YthfkbbiaemmndaaGreatDoorG10
import Derived.Test.YthfkbbiaemmndaaGreatDoorG12
import Derived.Test.YthfkbbiaemmndaaGreatDoorG13
import Derived.Test.YthfkbbiaemmndaaGreatDoorG23
import Derived.Test.YthfkbbiaemmndaaGreatDoorG25
import Derived.Test.YthfkbbiaemmndaaGreatDoorG26
import Derived.Test.YthfkbbiaemmndaaGreatDoorG29
import Derived.Test.YthfkbbiaemmndaaGreatDoorG30
import Derived.Test.YthfkbbiaemmndaaGreatDoorG32
import Derived.Test.YthfkbbiaemmndaaGreatDoorG33
import Derived.Test.YthfkbbiaemmndaaGreatDoorG34
set_option linter.unusedVariables false
set_option linter.unusedSimpArgs false
set_option maxRecDepth 100000
set_option maxHeartbeats 16000000
namespace Go.Proofs.YthfkbbiaemmndaaGreatDoor
section
open Go.RowKit
theorem low25 (n : Int) : ∃ m : Nat, m < 33554432 ∧ bits .and .i64 n 33554431 = (m : Int) := by
 have h : (BitVec.ofInt 64 n &&& BitVec.ofInt 64 33554431).toNat ≤ 33554431 := by
  rw [BitVec.toNat_and]
  exact Nat.and_le_right
 have e : bits .and .i64 n 33554431 = IntKind.i64.wrap (((BitVec.ofInt 64 n &&& BitVec.ofInt 64 33554431).toNat : Nat) : Int) := rfl
 rw [e]
 generalize (BitVec.ofInt 64 n &&& BitVec.ofInt 64 33554431).toNat = z at *
 exact ⟨z, by omega, IntWalk.i64_in _ (by omega)⟩
def kOf (n : Int) : Int := 1 + bits .and .i64 n 33554431
theorem kOf_bd (n : Int) : 1 ≤ kOf n ∧ kOf n ≤ 33554432 := by
 obtain ⟨m, hm, e⟩ := low25 n
 unfold kOf
 rw [e]
 omega
def sclG (k : Int) (x : Ts) : Ts := ⟨x.n, x.c * k, x.t * k, x.d * k, x.j * k, x.q * k, x.p⟩
theorem mul20 {a k : Int} (ha : 0 ≤ a ∧ a ≤ 20) (hk : 1 ≤ k ∧ k ≤ 33554432) : 0 ≤ a * k ∧ a * k ≤ 671088640 :=
 ⟨Int.mul_nonneg ha.1 (by omega), Int.mul_le_mul ha.2 hk.2 (by omega) (by omega)⟩
theorem sclG_w {x : Ts} {k : Int} (hx : TsW x) (hs : Sm20 x) (hk : 1 ≤ k ∧ k ≤ 33554432) : TsW (sclG k x) := by
 have h1 := mul20 hs.c hk
 have h2 := mul20 hs.t hk
 have h3 := mul20 hs.d hk
 have h4 := mul20 hs.j hk
 have h5 := mul20 hs.q hk
 exact ⟨hx.n, (show in64 (x.c * k) from ⟨by omega, by omega⟩), (show in64 (x.t * k) from ⟨by omega, by omega⟩), (show in64 (x.d * k) from ⟨by omega, by omega⟩), (show in64 (x.j * k) from ⟨by omega, by omega⟩), (show in64 (x.q * k) from ⟨by omega, by omega⟩), hx.p⟩
theorem scl_step {k : Int} {l : List Ts} {i : Nat} {x : Ts} (hx : l[i]? = some x) : (l.take (i + 1)).map (sclG k) = (l.take i).map (sclG k) ++ [sclG k x] := by
 obtain ⟨hk, e⟩ := List.getElem?_eq_some_iff.1 hx
 rw [List.take_succ_eq_append_getElem hk, List.map_append, e]
 rfl
end
section
open Go.RowKit
theorem ceil_scl {a t k : Int} (hk : 0 < k) (ht : 1 ≤ t) : ceilI (a * k) (t * k) = ceilI a t := by
 unfold ceilI
 have e := Int.emod_add_mul_ediv (a + t - 1) t
 have r0 := Int.emod_nonneg (a + t - 1) (show t ≠ 0 by omega)
 have r1 := Int.emod_lt_of_pos (a + t - 1) (show 0 < t by omega)
 generalize (a + t - 1) / t = q at *
 generalize (a + t - 1) % t = r at *
 have h1 : a * k + t * k - 1 = (r * k + k - 1) + t * k * q := by
  have : (a + t - 1) * k = (r + t * q) * k := by rw [e]
  grind
 have h2 : r * k + k ≤ t * k := by
  have := Int.mul_le_mul_of_nonneg_right (show r + 1 ≤ t by omega) (show 0 ≤ k by omega)
  rw [Int.add_mul, Int.one_mul] at this
  exact this
 have h3 : 0 ≤ r * k := Int.mul_nonneg r0 (by omega)
 have h4 : 0 < t * k := Int.mul_pos (by omega) hk
 rw [h1, Int.add_mul_ediv_left _ _ (by omega), Int.ediv_eq_zero_of_lt (by omega) (by omega)]
 omega
end
section
theorem st_smsG {ts : List Ts} (h : St ts) {m : Int} (hm : 1 ≤ m ∧ m ≤ 33554432) (i : Int) : SmS (ts.map (sclG m)) i 1000000000000 := by
 have hs := sm20_of h.s
 refine sms_of (N := 40) (W := 20 * m) (by rw [List.length_map]; have := h.n6; omega) (by omega) (by omega) (by omega) (fun hb k hk => ?_) (fun _ x hx => ?_)
 ·obtain ⟨k', y', rfl, hk', hy'⟩ := isB_get hb
  rw [List.length_map] at hk hk'
  have ek : tk (ts.map (sclG m)) (k : Int) = sclG m (tk ts (k : Int)) := by
   rw [tk_get (List.getElem?_eq_getElem hk), tk_get (x := sclG m ts[k]) (by rw [List.getElem?_map, List.getElem?_eq_getElem hk]; rfl)]
  have ek' : tk (ts.map (sclG m)) (k' : Int) = sclG m (tk ts (k' : Int)) := by
   rw [tk_get (List.getElem?_eq_getElem hk'), tk_get (x := sclG m ts[k']) (by rw [List.getElem?_map, List.getElem?_eq_getElem hk']; rfl)]
  have hbs : isB ts (k' : Int) = true := isB_at h.chk (List.getElem?_eq_getElem hk')
  have hp := perN_le (B := 20) hbs (by omega) (fun x hx => ⟨(hs x hx).d.2, (hs x hx).j.2⟩) k hk
  have v1 := (isB_vs hbs).tk (k : Int)
  have e : perN (ts.map (sclG m)) (k' : Int) k = perN ts (k' : Int) k := by
   unfold perN
   rw [ek, ek']
   show (ceilI ((tk ts (k' : Int)).d * m - (tk ts (k' : Int)).j * m + (tk ts (k : Int)).j * m) ((tk ts (k : Int)).t * m)).toNat = _
   rw [← Int.sub_mul, ← Int.add_mul, ceil_scl (by omega) v1.t0]
  rw [e]
  omega
 ·obtain ⟨z, hz, rfl⟩ := List.mem_map.1 hx
  have s := hs z hz
  have h1 : z.c * m ≤ 20 * m := Int.mul_le_mul_of_nonneg_right s.c.2 (by omega)
  have h2 : z.q * m ≤ 20 * m := Int.mul_le_mul_of_nonneg_right s.q.2 (by omega)
  exact ⟨h1, h2⟩
end
section
open Go.RowKit Go.Shelf
attribute [local go_sem] Oper.semAt_some
theorem rta_bound (A : Option Addr) (cap : Nat) (l : List Ts) (i : Int) (w : World) (hR : Row w A cap l) (hi : in64 i) (hT : Tab w) :
  Calls Tryz.prog 12 #[.slice A l.length cap, .int .i64 i] w fun e w' => e = .returned (.tuple #[.int .i64 (boundI l i).1, .int .i64 (boundI l i).2]) ∧ Below w.heap.size w w' := by
 have K := Lib.hid (rmay_any A cap l i w hR hi)
 cases hb : isB l i
 ·rw [hb] at K
  have e : boundI l i = (0, 1) := by unfold boundI; rw [hb]; rfl
  rw [e]
  clear hb e hR
  generalize l.length = N at *
  go_enter Tryz.func12, Tryz.ntmps12
  go_wp2_with (go_at_call 29; (with_reducible refine K.out.mono ?_); rintro e w1 ⟨rfl, h⟩)
  go_ret2
  exact ⟨rfl, h⟩
 ·rw [hb] at K
  obtain ⟨k, y, rfl, hk, hy⟩ := isB_get hb
  obtain ⟨b, o, x, rfl, _, _, _, _⟩ := hR.get hk
  have KB := Lib.hid (fun V (h : Below w.heap.size w V) => bound_in b o cap l k y V (hR.later h) (isB_iff hb).1 hy (hT.below h))
  obtain ⟨⟨br, be⟩, hbr⟩ : ∃ p, boundI l (k : Int) = p := ⟨_, rfl⟩
  rw [hbr] at KB ⊢
  simp only at KB ⊢
  clear hb hbr hR hT hy hk
  generalize l.length = N at *
  go_enter Tryz.func12, Tryz.ntmps12
  go_wp2_with (first
   | (go_at_call 29; (with_reducible refine K.out.mono ?_); rintro e w1 ⟨rfl, h⟩; have HL := Lib.hid h; clear h)
   | (go_at_call 30; (with_reducible refine (KB.out _ HL.out).mono ?_); rintro e w2 ⟨rfl, h⟩; have HL2 := Lib.hid (HL.out.trans (h.mono HL.out.size)); clear h)
   | fail)
  go_ret2
  exact ⟨rfl, HL2.out⟩
end
section
open Go.RowKit
theorem ssa_walk (A0 : Option Addr) (cap0 : Nat) (l0 : List Sp) (a1 a2 : Int) (w : World) (hT : Tab w) (h0 : SRow w A0 cap0 l0) (i1 : in64 a1) (i2 : in64 a2) :
  Calls Tryz.prog 4 #[.slice A0 l0.length cap0, .int .i64 a1, .int .i64 a2] w fun e w' => e = .returned (.bool true) ∧ Below w.heap.size w w' := by
 obtain ⟨ii, hi, hz0, hz1, hz2⟩ := info_parts infoTs
 have KA := Lib.hid awake_any
 have KS := Lib.hid (fun W (h : Lt w W) => set_any 6 (by omega) (by omega) A0 cap0 l0 a1 W (h0.later h) i1)
 have HTB := Lib.hid (fun W (h : Lt w W) => hT.below h)
 have HL : Hid (Lt w w) := Lib.hid (Below.refl _ _)
 obtain ⟨z, hz, hze⟩ := low25 a2
 obtain ⟨k, hkk⟩ : ∃ k, kOf a2 = k := ⟨_, rfl⟩
 have hkb := kOf_bd a2
 have hk : k = 1 + (z : Int) := by rw [← hkk]; unfold kOf; rw [hze]
 rw [hkk] at hkb
 obtain ⟨k0, k1⟩ := hkb
 generalize l0.length = m0 at *
 clear h0 hT hkk
 go_enter Tryz.func4, Tryz.ntmps4
 go_upto_region 2 with (go_at_call 7; (with_reducible refine (KA.out _ (HTB.out _ HL.out)).mono ?_); rintro e v0 ⟨rfl, h⟩; have HL := Lib.hid (lt_step _ _ HL.out h); clear h)
 go_upto_region 3 with (go_at_call 8; (with_reducible refine (KS.out _ HL.out).mono ?_); rintro e v ⟨A, cap, ts, rfl, hR, hn1, hn6, hd, hsf, hp, h⟩; have HR := Lib.hid hR; have HST := Lib.hid (St.mk hn1 (by omega) hd hsf hp); have HL := Lib.hid (lt_step _ _ HL.out h); clear h hR hsf hd hp)
 have hle := HR.out.le
 have hmx := HR.out.mx
 have HSM := Lib.hid (sm20_of HST.out.s)
 generalize hN : ts.length = N at *
 have HN := Lib.hid hN
 have hN6 : N ≤ 6 := by omega
 obtain ⟨r0, r1⟩ := restI_bd a1 (N : Int) (by omega) (by omega)
 have KR := Lib.hid (fun W => rest_any a1 (N : Int) W i1 (by omega) (by omega))
 generalize restI a1 (N : Int) = q at *
 clear hN i1 i2
 go_upto_region 4 with (go_at_call 10; (with_reducible refine (KR.out _).mono ?_); rintro e v3 ⟨rfl, rfl⟩)
 go_upto_region 5 with (fail)
 rw [← hk]
 clear hk hz hze
 go_wp2
 go_loopw [11, 12] (fun vv i wr => ∃ j : Nat, j ≤ N ∧ i = .int .i64 j ∧ Hid (SetIn v.heap.size wr vv j ((ts.take j).map (sclG k))) ∧ Hid (Lt v wr)) (fun _ i _ => N - (intOf i).toNat)
 case atStart => exact ⟨0, Nat.zero_le _, rfl, Lib.hid (SetIn.nil _ _), Lib.hid (Below.refl _ _)⟩
 case round =>
  obtain ⟨j, hj, rfl, HI, HV⟩ := hrel
  obtain ⟨A2, cap2, hv2, hl2, hm2⟩ := own_len HI.out.row
  subst hv2
  by_cases hlt : j < N
  ·obtain ⟨b', o, x, rfl, hx, hxw, hbl, hT⟩ := HR.out.get (k := j) (by rw [HN.out]; exact hlt)
   have hTr := hT.later HV.out
   have c0 := hTr.c0
   have c1 := hTr.c1
   have c2 := hTr.c2
   have c3 := hTr.c3
   have c4 := hTr.c4
   have c5 := hTr.c5
   have c6 := hTr.c6
   have hi0 : (0 : Int) ≤ (j : Int) := by omega
   have hi1 : (j : Int) < ((N : Nat) : Int) := by omega
   have hsm := HSM.out x (List.mem_of_getElem? hx)
   obtain ⟨a1, b1⟩ := mul20 hsm.c ⟨k0, k1⟩
   obtain ⟨a2, b2⟩ := mul20 hsm.t ⟨k0, k1⟩
   obtain ⟨a3, b3⟩ := mul20 hsm.d ⟨k0, k1⟩
   obtain ⟨a4, b4⟩ := mul20 hsm.j ⟨k0, k1⟩
   obtain ⟨a5, b5⟩ := mul20 hsm.q ⟨k0, k1⟩
   have HSTP := Lib.hid (scl_step (k := k) hx)
   have HXW := Lib.hid (sclG_w hxw hsm ⟨k0, k1⟩)
   obtain ⟨nm, xc, xt, xd, xj, xq, xp⟩ := x
   simp only at *
   have H7 := seven_new (wr.alloc (.cells #[.string nm, .int .i64 xc, .int .i64 xt, .int .i64 xd, .int .i64 xj, .int .i64 xq, .int .i64 xp] 26)) (sclG k ⟨nm, xc, xt, xd, xj, xq, xp⟩)
   rw [World.size_alloc] at H7
   have H7 := Lib.hid H7
   clear hT hTr hx hxw hbl hsm
   go_upto_region 10 with (fail)
   go_wp2_with (at_builtin; refine wpList_append_own _ rfl _ _ 23 rfl v.heap.size 26 ii _ 7 64 Tryz.underlying23 hi hz0 hz1 hz2 rfl (by decide) _ _ _ rfl ((HI.out.row.alloc _).alloc _) ⟨wr.heap.size + 1, 0, none⟩ 1 1 (tsL (sclG k ⟨nm, xc, xt, xd, xj, xq, xp⟩)) rfl rfl H7.out (tsL_one _) (by unfold maxLen; omega) (by omega) (by have := Below.size HV.out; simp; omega) ?_; intro v' w4 hown' hgrow hnil')
   go_roundw
   case rel =>
    have hb0 := Below.size HV.out
    exact ⟨j + 1, by omega, by go_num, Lib.hid (by rw [HSTP.out]; exact HI.out.snoc HXW.out hown'), Lib.hid (((((Below.refl v.heap.size v).trans HV.out).alloc hb0 _).alloc (by simp; omega) _).grown hgrow (by simp; omega) (fun q hq => (HI.out.row.lt q hq).1))⟩
   case measure => simp [intOf]; omega
  ·obtain rfl : j = N := by omega
   have hfull : ts.take j = ts := List.take_of_length_le (by rw [HN.out]; exact Nat.le_refl _)
   rw [hfull] at HI
   obtain ⟨A3, cap3, hv3, hF⟩ := HI.out.rowR
   have hml := HI.out.len
   rw [hml] at hv3
   obtain ⟨rfl, rfl⟩ : A3 = A2 ∧ cap3 = cap2 := by simpa [eq_comm] using hv3
   have hq : in64 q := ⟨by omega, by omega⟩
   have KS1 := fun W (h : Lt wr W) => sbd_all A cap ts q W ((HR.out.later HV.out).later h) hq (HTB.out _ (lt_step _ _ (lt_step _ _ HL.out HV.out) h)) ((st_sms HST.out q).more (by omega))
   have KR1 := fun W (h : Lt wr W) => rta_bound A cap ts q W ((HR.out.later HV.out).later h) hq (HTB.out _ (lt_step _ _ (lt_step _ _ HL.out HV.out) h))
   have KS2 := fun W (h : Lt wr W) => sbd_all A3 cap3 (ts.map (sclG k)) q W (hF.later h) hq (HTB.out _ (lt_step _ _ (lt_step _ _ HL.out HV.out) h)) (st_smsG HST.out ⟨k0, k1⟩ q)
   have KR2 := fun W (h : Lt wr W) => rta_bound A3 cap3 (ts.map (sclG k)) q W (hF.later h) hq (HTB.out _ (lt_step _ _ (lt_step _ _ HL.out HV.out) h))
   rw [HN.out] at KS1 KR1
   rw [hml] at KS2 KR2
   obtain ⟨⟨b1, b2⟩, hb⟩ : ∃ p, boundI ts q = p := ⟨_, rfl⟩
   obtain ⟨⟨d1, d2⟩, hd⟩ : ∃ p, boundI (ts.map (sclG k)) q = p := ⟨_, rfl⟩
   rw [hb] at KS1 KR1
   rw [hd] at KS2 KR2
   have KS1 := Lib.hid KS1
   have KR1 := Lib.hid KR1
   have KS2 := Lib.hid KS2
   have KR2 := Lib.hid KR2
   have HW : Hid (Lt wr wr) := Lib.hid (Below.refl _ _)
   clear hF hv3 hfull hml hlt HI hb hd hq
   go_wp2_with (first
    | (go_at_call 11; (with_reducible refine (KS1.out _ HW.out).mono ?_); rintro e w1 ⟨rfl, h⟩; have HW := Lib.hid (lt_step _ _ HW.out h); clear h)
    | (go_at_call 11; (with_reducible refine (KS2.out _ HW.out).mono ?_); rintro e w1 ⟨rfl, h⟩; have HW := Lib.hid (lt_step _ _ HW.out h); clear h)
    | (go_at_call 12; (with_reducible refine (KR1.out _ HW.out).mono ?_); rintro e w1 ⟨rfl, h⟩; have HW := Lib.hid (lt_step _ _ HW.out h); clear h)
    | (go_at_call 12; (with_reducible refine (KR2.out _ HW.out).mono ?_); rintro e w1 ⟨rfl, h⟩; have HW := Lib.hid (lt_step _ _ HW.out h); clear h)
    | fail)
   go_ret
   exact ⟨rfl, lt_step _ _ (lt_step _ _ HL.out HV.out) HW.out⟩
end
end Go.Proofs.YthfkbbiaemmndaaGreatDoor
