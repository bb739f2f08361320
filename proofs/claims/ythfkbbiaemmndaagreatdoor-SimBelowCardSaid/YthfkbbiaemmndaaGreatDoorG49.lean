/- Texts about the program, one after the other: RNd, KPure, KResp, YScp, KWor, YFrm, YScr, YKep, YWBe. -/
import Derived.WalkKit
import Derived.ProofKit
import Derived.Handy
import Derived.Lib.Hide
import Derived.Deep.MidRow
import Derived.Deep.QuietTactic
import Derived.BigQuiet
import Derived.Deep.RegionHeld3
import Derived.Laws.Externs
import Derived.RangeFuncBox
import Derived.Deep.CutBlock
import Derived.Deep.LoopGhost
import Derived.WalkMore
import Derived.OrdersIn
import Derived.Stop.RegionWithIn
import Derived.Deep.RegionLaw
import Derived.Laws.OwnMore
import Derived.Deep.CutRange
import Derived.Deep.Quiet
import Derived.Deep.RegionHeld
import Derived.Laws.AppendOwn
import Derived.Below
import Derived.LaidMore
import Derived.Laws.CopyOwn
import Derived.IntWalk
import Derived.OwnWalk
import Derived.BigRegion
import Derived.Deep.DrawnRows
import Derived.Deep.RegionHeldLaw
import Derived.LoopIn
import Derived.LoopNIn
import Derived.TacticsInMore
import Derived.OwnWalkIn
import Derived.RangeFuncNested
import Derived.RangeFuncBound
import Derived.RangeFuncCalls
import Derived.RangeFuncLeaves
import Derived.RangeFuncWrites
import Derived.Shelf.Abstract
import Derived.StillTailTactics
import Derived.Lib.SliceRun
import Derived.Deep.AppendSrc
import Derived.Deep.Upon
import Derived.Deep.DeepAppendWide
import Derived.Sort.LoopGhostIn
import Derived.Laws.ShiftsVarLaws
import Derived.Outline
import Derived.Laws.Bits128
import Derived.Deep.RegionWith
import Derived.Shelf.RegionOpen
import Derived.Laws.BytesString
import Derived.RangeFuncRecord
import Derived.MapKept
import Derived.Maps.AppendAt
import Derived.Laws.AppendOwnNone
import Derived.Shelf.Small.Bits
import Derived.Shelf.Small.Strs
import Derived.Shelf.Small.Wraps
import Derived.Shelf.Strconv.Itoa0
import Derived.Shelf.LaysM
import Derived.Shelf.Strconv.Clone
import Derived.Shelf.Strings.Search1
import Derived.Shelf.Bits.Mul64
import Derived.Ground.Names2Prog
import Derived.Shelf.Slices.SearchI
import Derived.ChangeOld
import Derived.OpenShut
import Derived.Test.YthfkbbiaemmndaaGreatDoorRows
import Derived.Test.YthfkbbiaemmndaaGreatDoorProg
import Derived.Laws.MakeOwn
import Derived.Shelf.SlGeneric
import Derived.Shelf.Spec.SlicesGrow
import Derived.Ground.Names8Prog
import Derived.Shelf.SlSortCmp.Whole1
import Derived.Ground.SlsfProg
import Derived.Ground.SlgnProg
import Derived.Shelf.SlSortCmp.NoneTotal
import Derived.Deep.OwnRows
import Derived.Laws.Bits64b
import Derived.Test.YthfkbbiaemmndaaGreatDoorG3
import Derived.Test.YthfkbbiaemmndaaGreatDoorG4
import Derived.Test.YthfkbbiaemmndaaGreatDoorG5
import Derived.Test.YthfkbbiaemmndaaGreatDoorG6
import Derived.Test.YthfkbbiaemmndaaGreatDoorG7
import Derived.Test.YthfkbbiaemmndaaGreatDoorG8
import Derived.Test.YthfkbbiaemmndaaGreatDoorG9
import Derived.Test.YthfkbbiaemmndaaGreatDoorG10
import Derived.Test.YthfkbbiaemmndaaGreatDoorG12
import Derived.Test.YthfkbbiaemmndaaGreatDoorG13
import Derived.Test.YthfkbbiaemmndaaGreatDoorG23
import Derived.Test.YthfkbbiaemmndaaGreatDoorG25
import Derived.Test.YthfkbbiaemmndaaGreatDoorG26
import Derived.Test.YthfkbbiaemmndaaGreatDoorG35
import Derived.Test.YthfkbbiaemmndaaGreatDoorG36
import Derived.Test.YthfkbbiaemmndaaGreatDoorG38
import Derived.Test.YthfkbbiaemmndaaGreatDoorG39
import Derived.Test.YthfkbbiaemmndaaGreatDoorG40
set_option linter.unusedVariables false
set_option linter.unusedSimpArgs false
set_option maxRecDepth 100000
set_option maxHeartbeats 16000000
namespace Go.Proofs.YthfkbbiaemmndaaGreatDoor
section
theorem boundI_bd (l : List Ts) (i : Int) : 0 ≤ (boundI l i).1 ∧ (boundI l i).1 ≤ 4294967294 ∧ ((boundI l i).2 = 0 ∨ (boundI l i).2 = 1 ∨ (boundI l i).2 = 16) := by
 unfold boundI
 split
 ·rename_i hb
  obtain ⟨k, y, rfl, hk, hy⟩ := isB_get hb
  have hm := mOf_get (isB_iff hb).1 hy
  have hj := (isB_vs hb).all y (List.mem_of_getElem? hy)
  have := hj.j0; have := hj.j1
  cases hl : leastF (needI l (k : Int)) (mOf l (k : Int)) with
  | none =>
    show (0 : Int) ≤ 0 ∧ (0 : Int) ≤ 4294967294 ∧ ((16 : Int) = 0 ∨ (16 : Int) = 1 ∨ (16 : Int) = 16)
    omega
  | some w =>
    obtain ⟨a1, a2, _, _⟩ := leastF_some hl
    show 0 ≤ (w : Int) + jOf l k ∧ (w : Int) + jOf l k ≤ 4294967294 ∧ ((0 : Int) = 0 ∨ (0 : Int) = 1 ∨ (0 : Int) = 16)
    rw [(dOf_get hy).2]
    omega
 ·exact ⟨by decide, by decide, .inr (.inl rfl)⟩
end
section
open Go.RowKit
def worst1 (js : List Fv) (en : List Int) (task : Int) (a : Option (Int × Nat)) (i : Nat) : Option (Int × Nat) :=
 if (jb js i).t = task then
  match respS js en (i : Int), a with
  | some r, some (g, p) => if g < r then some (r, i) else some (g, p)
  | some r, none => some (r, i)
  | none, a => a
 else a
def worstS (js : List Fv) (en : List Int) (task : Int) (n : Nat) : Option (Int × Nat) := (List.range n).foldl (worst1 js en task) none
theorem worstS_succ (js : List Fv) (en : List Int) (task : Int) (n : Nat) : worstS js en task (n + 1) = worst1 js en task (worstS js en task n) n := by
 simp [worstS, List.range_succ]
end
section
open Go.RowKit Go.Shelf
attribute [local go_sem ↓] Go.wp_at_zero Go.wp_at_succ
theorem respS_bd {js : List Fv} {en : List Int} (h : RsH js en) {i : Int} {r : Int} (hr : respS js en i = some r) : -2000000000000000000 ≤ r ∧ r ≤ 2000000000000000000 := by
 unfold respS at hr
 split at hr
 ·rename_i hc
  simp only [Option.some.injEq] at hr
  have h1 := h.a i.toNat (by omega)
  have h2 : kO en i.toNat ∈ en := by
   have : i.toNat < en.length := by omega
   simp [kO, this]
  have h3 := h.e _ h2
  omega
 ·cases hr
end
section
theorem worst_le {js : List Fv} {en : List Int} {t B : Int} : ∀ n : Nat, (∀ i, i < n → (jb js i).t = t → ∀ r, respS js en (i : Int) = some r → r ≤ B) → ∀ g p, worstS js en t n = some (g, p) → g ≤ B
 | 0, _, g, p, h => by simp [worstS] at h
 | n + 1, hb, g, p, h => by
   have ih := worst_le n (fun i hi => hb i (by omega))
   rw [worstS_succ] at h
   unfold worst1 at h
   split at h
   ·rename_i ht
    split at h
    ·rename_i r g0 p0 hr hw
     split at h
     ·cases h; exact hb n (by omega) ht _ hr
     ·cases h; exact ih _ _ hw
    ·rename_i r hr hw
     cases h
     exact hb n (by omega) ht _ hr
    ·exact ih _ _ h
   ·exact ih _ _ h
theorem worst_ge {js : List Fv} {en : List Int} {t r : Int} {i : Nat} (ht : (jb js i).t = t) (hr : respS js en (i : Int) = some r) : ∀ n : Nat, i < n → ∃ g p, worstS js en t n = some (g, p) ∧ r ≤ g
 | 0, h => by omega
 | n + 1, h => by
   rw [worstS_succ]
   by_cases hin : i = n
   ·subst hin
    unfold worst1
    rw [if_pos ht, hr]
    cases worstS js en t i with
    | none => exact ⟨_, _, rfl, Int.le_refl _⟩
    | some gp =>
      obtain ⟨g, p⟩ := gp
      simp only
      split
      ·exact ⟨_, _, rfl, Int.le_refl _⟩
      ·exact ⟨_, _, rfl, by omega⟩
   ·obtain ⟨g, p, hw, hg⟩ := worst_ge ht hr n (by omega)
    rw [hw]
    unfold worst1
    split
    ·split
     ·rename_i r' g0 p0 hr' hw'
      cases hw'
      split
      ·exact ⟨_, _, rfl, by omega⟩
      ·exact ⟨_, _, rfl, hg⟩
     ·rename_i hw'; cases hw'
     ·exact ⟨_, _, rfl, hg⟩
    ·exact ⟨_, _, rfl, hg⟩
def wN (js : List Fv) (en : List Int) (t : Int) : Int := ((worstS js en t js.length).map (·.1)).getD 0
theorem wN_le {js : List Fv} {en : List Int} {t B : Int} (hB : 0 ≤ B) (h : ∀ i, i < js.length → (jb js i).t = t → ∀ r, respS js en (i : Int) = some r → r ≤ B) : wN js en t ≤ B := by
 unfold wN
 cases hw : worstS js en t js.length with
 | none => exact hB
 | some gp => obtain ⟨g, p⟩ := gp; exact worst_le _ h g p hw
theorem wN_ge {js : List Fv} {en : List Int} {t r : Int} {i : Nat} (hi : i < js.length) (ht : (jb js i).t = t) (hr : respS js en (i : Int) = some r) : r ≤ wN js en t := by
 obtain ⟨g, p, hw, hg⟩ := worst_ge ht hr js.length hi
 unfold wN
 rw [hw]
 exact hg
theorem wn_bound {ts : List Ts} {js : List Fv} {en : List Int} (hs : St ts) (h : Rn ts js en) {t r : Int} (hb : boundI ts t = (r, 0)) : wN js en t ≤ r := by
 have b0 := (boundI_bd ts t).1
 rw [hb] at b0
 refine wN_le b0 fun i hi ht r' hr => ?_
 rw [h.resp hi] at hr
 cases hr
 exact (h.bnd hs i hi r (by rw [ht]; exact hb)).1
theorem wn_scene {ts : List Ts} {en : List Int} (hs : St ts) {k : Nat} {y : Ts} (hy : ts[k]? = some y) (h : Rn ts (sceneS ts (k : Int)) en) (hc : ScR ts k y en) :
  ((boundI ts (k : Int)).2 = 0 ∧ wN (sceneS ts (k : Int)) en (k : Int) = (boundI ts (k : Int)).1) ∨ ((boundI ts (k : Int)).2 = 16 ∧ y.d < wN (sceneS ts (k : Int)) en (k : Int)) := by
 obtain ⟨hm, hml⟩ := scene_m (ts := ts) (i := (k : Int))
 have etk : tk ts (k : Int) = y := tk_get hy
 rw [etk] at hm
 have ht : (jb (sceneS ts (k : Int)) (headS ts (k : Int)).length).t = (k : Int) := by rw [hm]
 have hg := wN_ge hml ht (h.resp hml)
 rw [hm] at hg
 rcases hc with ⟨b0, b1⟩ | ⟨b0, b1⟩
 ·left
  have := wn_bound hs h (t := (k : Int)) (r := (boundI ts (k : Int)).1) (Prod.ext rfl b0)
  refine ⟨b0, Int.le_antisymm this ?_⟩
  rw [← b1]
  exact hg
 ·right
  refine ⟨b0, Int.lt_of_lt_of_le b1 hg⟩
def scrI (ts : List Ts) (E : List Fv → List Int) (rows : List (List Fv)) (t : Int) : Int := rows.foldl (fun m rs => max m (wN (decS ts rs) (E (decS ts rs)) t)) 0
theorem scr_two (ts : List Ts) (E : List Fv → List Int) (r s : List Fv) (t : Int) : scrI ts E [r] t = max 0 (wN (decS ts r) (E (decS ts r)) t) ∧ scrI ts E [r, s] t = max (max 0 (wN (decS ts r) (E (decS ts r)) t)) (wN (decS ts s) (E (decS ts s)) t) := ⟨rfl, rfl⟩
theorem below_pure {ts : List Ts} {E : List Fv → List Int} (hs : St ts) {k : Nat} {y : Ts} (hy : ts[k]? = some y) {r s : List Fv} (hr : Rn ts (decS ts r) (E (decS ts r))) (hS : Rn ts (sceneS ts (k : Int)) (E (sceneS ts (k : Int)))) (hc : ScR ts k y (E (sceneS ts (k : Int)))) (he : decS ts s = sceneS ts (k : Int)) :
  (∀ t : Int, scrI ts E [r] t ≤ scrI ts E [r, s] t ∧ ((boundI ts t).2 = 0 → scrI ts E [r, s] t ≤ (boundI ts t).1)) ∧
  (((boundI ts (k : Int)).2 = 0 ∧ scrI ts E [r, s] (k : Int) = (boundI ts (k : Int)).1) ∨ ((boundI ts (k : Int)).2 = 16 ∧ y.d < scrI ts E [r, s] (k : Int))) := by
 have h1 : ∀ t : Int, scrI ts E [r] t ≤ scrI ts E [r, s] t ∧ ((boundI ts t).2 = 0 → scrI ts E [r, s] t ≤ (boundI ts t).1) := fun t => by
  obtain ⟨e1, e2⟩ := scr_two ts E r s t
  rw [e1, e2, he]
  refine ⟨by omega, fun hb => ?_⟩
  have w1 := wn_bound hs hr (t := t) (r := (boundI ts t).1) (Prod.ext rfl hb)
  have w2 := wn_bound hs hS (t := t) (r := (boundI ts t).1) (Prod.ext rfl hb)
  have w3 := (boundI_bd ts t).1
  omega
 refine ⟨h1, ?_⟩
 have e2 := (scr_two ts E r s (k : Int)).2
 rw [he] at e2
 rcases wn_scene hs hy hS hc with ⟨b0, b1⟩ | ⟨b0, b1⟩
 ·exact .inl ⟨b0, Int.le_antisymm ((h1 _).2 b0) (by rw [e2, b1]; omega)⟩
 ·exact .inr ⟨b0, by rw [e2]; omega⟩
end
section
open Go.RowKit Go.Shelf
attribute [local go_sem ↓] Go.wp_at_zero Go.wp_at_succ
def worV (o : Option (Int × Nat)) : Value := .tuple #[.int .i64 ((o.map (·.1)).getD 0), .int .i64 (((o.map (·.2)).getD 0 : Nat) : Int), .bool o.isSome]
theorem worst_any {R E : Option Addr} {rc ec : Nat} {js : List Fv} {en : List Int} (task : Int) (w : World) (hJ : FRow w R rc js) (hE : CRow w E ec en) (H : RsH js en) : Calls Tryz.prog 44 #[.slice R js.length rc, .slice E en.length ec, .int .i64 task] w (Told (worV (worstS js en task js.length)) w) := by
 obtain ⟨n, hn⟩ : ∃ n, js.length = n := ⟨_, rfl⟩
 obtain ⟨m, hm⟩ : ∃ m, en.length = m := ⟨_, rfl⟩
 have jle := hJ.le
 have jmx := hJ.mx
 rw [hn] at jle
 have KR := Lib.hid (fun (i : Nat) W (hb : Below w.heap.size w W) => resp_any (i : Int) W (hJ.later hb) (hE.later hb) H)
 have HJ := Lib.hid hJ
 have HN := Lib.hid hn
 rw [hn, hm] at KR
 rw [hn, hm]
 clear hJ hE hn hm H
 go_enter Tryz.func44, Tryz.ntmps44
 go_wp2
 go_loopw [9, 10, 11, 18] (fun s9 s10 s11 i wr => ∃ k : Nat, k ≤ n ∧ i = .int .i64 (k : Int) ∧ s9 = .int .i64 (((worstS js en task k).map (·.1)).getD 0) ∧ s10 = .int .i64 ((((worstS js en task k).map (·.2)).getD 0 : Nat) : Int) ∧ s11 = .bool (worstS js en task k).isSome ∧ Hid (Below w.heap.size w wr)) (fun _ _ _ i _ => n - (intOf i).toNat)
 case atStart => exact ⟨0, Nat.zero_le _, rfl, rfl, rfl, rfl, Lib.hid (Below.refl _ _)⟩
 case round =>
  obtain ⟨k, hk, rfl, rfl, rfl, rfl, hB⟩ := hrel
  by_cases hlt : k < n
  ·obtain ⟨bj, oj, y, C, cc, rfl, hy, hbj, hF⟩ := (HJ.out.later hB.out).get (k := k) (by rw [HN.out]; exact hlt)
   have c0 := hF.c0
   have c1 := hF.c1
   have c2 := hF.c2
   have c3 := hF.c3
   have c4 := hF.c4
   have i0 : (0 : Int) ≤ (k : Int) := by omega
   have i1 : (k : Int) < (n : Int) := by omega
   have hS := worstS_succ js en task k
   have hyt : (jb js k).t = y.t := by rw [jb_get hy]
   unfold worst1 at hS
   rw [hyt] at hS
   have HB1 := Lib.hid (hB.out.trans ((show Below wr.heap.size wr (wr.alloc (.cells #[.int .i64 y.t, .int .i64 y.a, .int .i64 y.r, .int .i64 y.k, .slice C y.c.length cc] 74)) from (Below.refl _ _).alloc (Nat.le_refl _) _).mono hB.out.size))
   have Z0 : (wr.alloc (.cells #[.int .i64 y.t, .int .i64 y.a, .int .i64 y.r, .int .i64 y.k, .slice C y.c.length cc] 74)).cell? ⟨wr.heap.size, 0, none⟩ = some (.int .i64 y.t) := by
    rw [cell_of_row _ _ _ _ _ _ (heap_alloc_new wr _)]; rfl
   have Z := Lib.hid Z0
   obtain ⟨yt, hyt2⟩ : ∃ a, y.t = a := ⟨_, rfl⟩
   rw [hyt2] at hS c0
   have HYT := Lib.hid hyt2
   have HY := Lib.hid hy
   clear Z0 hyt hy hbj hF
   go_upto_region 5 with (fail)
   have z0 := Z.out
   obtain ⟨xb, hxb⟩ : ∃ xb, wr.heap.size = xb := ⟨_, rfl⟩
   rw [hxb] at z0 ⊢
   rw [HYT.out] at HB1 z0
   generalize wr.alloc (.cells #[.int .i64 yt, .int .i64 y.a, .int .i64 y.r, .int .i64 y.k, .slice C y.c.length cc] 74) = W1 at *
   clear hxb c0 c1 c2 c3 c4 Z HYT hB hyt2
   by_cases ht : yt = task
   ·subst ht
    rw [if_pos rfl] at hS
    have t1 : (yt != yt) = false := by simp
    have KRk := Lib.hid (KR.out k)
    cases hr : respS js en (k : Int) with
    | none =>
      rw [hr] at hS KRk
      simp only [respV, Option.getD_none, Option.isSome_none] at KRk
      dsimp only at hS
      have HS := Lib.hid hS
      clear hS hr
      go_upto_region 9 with (go_at_call 28; (with_reducible refine (KRk.out _ HB1.out).mono ?_); rintro e w5 ⟨rfl, mq, rfl⟩)
      go_wp2
      go_roundw
      case rel => exact ⟨k + 1, by omega, by go_num, by rw [HS.out] <;> rfl, by rw [HS.out] <;> rfl, by rw [HS.out] <;> rfl, Lib.hid (HB1.out.trans ((below_drewN2 _ _).mono HB1.out.size))⟩
      case measure => simp [intOf]; omega
    | some r =>
      rw [hr] at hS KRk
      simp only [respV, Option.getD_some, Option.isSome_some] at KRk
      cases ha : worstS js en yt k with
      | none =>
        rw [ha] at hS
        dsimp only at hS
        have HS := Lib.hid hS
        simp only [Option.map_none, Option.getD_none, Option.isSome_none]
        clear hS hr ha
        go_upto_region 9 with (go_at_call 28; (with_reducible refine (KRk.out _ HB1.out).mono ?_); rintro e w5 ⟨rfl, mq, rfl⟩)
        go_wp2
        go_roundw
        case rel => exact ⟨k + 1, by omega, by go_num, by rw [HS.out] <;> rfl, by rw [HS.out] <;> rfl, by rw [HS.out] <;> rfl, Lib.hid (HB1.out.trans ((below_drewN2 _ _).mono HB1.out.size))⟩
        case measure => simp [intOf]; omega
      | some gp =>
        obtain ⟨g, p⟩ := gp
        rw [ha] at hS
        dsimp only at hS
        simp only [Option.map_some, Option.getD_some, Option.isSome_some]
        by_cases hg : g < r
        ·rw [if_pos hg] at hS
         have HS := Lib.hid hS
         have t2 : decide (r > g) = true := decide_eq_true hg
         have t3 : decide (g < r) = true := decide_eq_true hg
         clear hS hr ha hg
         go_upto_region 9 with (go_at_call 28; (with_reducible refine (KRk.out _ HB1.out).mono ?_); rintro e w5 ⟨rfl, mq, rfl⟩)
         go_wp2
         go_roundw
         case rel => exact ⟨k + 1, by omega, by go_num, by rw [HS.out] <;> rfl, by rw [HS.out] <;> rfl, by rw [HS.out] <;> rfl, Lib.hid (HB1.out.trans ((below_drewN2 _ _).mono HB1.out.size))⟩
         case measure => simp [intOf]; omega
        ·rw [if_neg hg] at hS
         have HS := Lib.hid hS
         have t2 : decide (r > g) = false := decide_eq_false hg
         have t3 : decide (g < r) = false := decide_eq_false hg
         clear hS hr ha hg
         go_upto_region 9 with (go_at_call 28; (with_reducible refine (KRk.out _ HB1.out).mono ?_); rintro e w5 ⟨rfl, mq, rfl⟩)
         go_wp2
         go_roundw
         case rel => exact ⟨k + 1, by omega, by go_num, by rw [HS.out] <;> rfl, by rw [HS.out] <;> rfl, by rw [HS.out] <;> rfl, Lib.hid (HB1.out.trans ((below_drewN2 _ _).mono HB1.out.size))⟩
         case measure => simp [intOf]; omega
   ·have t1 : (yt != task) = true := by simpa using ht
    rw [if_neg ht] at hS
    have HS := Lib.hid hS
    clear hS ht
    go_wp2
    go_roundw
    case rel => exact ⟨k + 1, by omega, by go_num, by rw [HS.out], by rw [HS.out], by rw [HS.out], HB1⟩
    case measure => simp [intOf]; omega
  ·obtain rfl : k = n := by omega
   go_wp2
   go_ret3
   exact ⟨rfl, hB.out⟩
end
section
open Go.RowKit
structure IntW (wb : Nat) (W W' : World) : Prop where
 out : ∀ b o v, b ≠ wb → W.cell? ⟨b, o, none⟩ = some v → W'.cell? ⟨b, o, none⟩ = some v
 inn : ∀ o v, W.cell? ⟨wb, o, none⟩ = some v → ∃ z, in64 z ∧ W'.cell? ⟨wb, o, none⟩ = some (.int .i64 z)
def intAt (W : World) (b o : Nat) : Int := match W.cell? ⟨b, o, none⟩ with | some (.int _ z) => z | _ => 0
theorem CRow.intw {wb : Nat} {W W' : World} {A : Option Addr} {cap : Nat} {l : List Int} (h : CRow W A cap l) (hI : IntW wb W W') : ∃ l', l'.length = l.length ∧ CRow W' A cap l' := by
 cases l with
 | nil => exact ⟨[], rfl, CRow.nil A cap h.mx⟩
 | cons x r =>
   obtain ⟨b, o, rfl, _⟩ := h.at_ 0 x rfl
   have hc : ∀ q, q < (x :: r).length → ∃ z, in64 z ∧ W'.cell? ⟨b, o + q, none⟩ = some (.int .i64 z) := fun q hq => by
    obtain ⟨b', o', e, hv⟩ := h.at_ q _ (List.getElem?_eq_getElem hq)
    cases e
    by_cases hb : b = wb
    ·subst hb
     exact hI.inn _ _ hv
    ·exact ⟨_, h.wf _ (List.getElem_mem hq), hI.out _ _ _ hb hv⟩
   refine ⟨(List.range (x :: r).length).map (fun q => intAt W' b (o + q)), by rw [List.length_map, List.length_range], ?_, h.mx, ?_, ?_⟩
   ·rw [List.length_map, List.length_range]; exact h.le
   ·intro z hz
    obtain ⟨q, hq, rfl⟩ := List.mem_map.1 hz
    obtain ⟨z, h1, h2⟩ := hc q (List.mem_range.1 hq)
    unfold intAt
    rw [h2]
    exact h1
   ·intro q z hz
    rw [List.getElem?_map] at hz
    obtain ⟨q', hq', rfl⟩ := Option.map_eq_some_iff.1 hz
    obtain ⟨hq1, hq2⟩ := List.getElem?_eq_some_iff.1 hq'
    rw [List.getElem_range] at hq2
    rw [List.length_range] at hq1
    subst hq2
    obtain ⟨z, h1, h2⟩ := hc q hq1
    refine ⟨b, o, rfl, ?_⟩
    unfold intAt
    rw [h2]
structure AsJ (js js' : List Fv) : Prop where
 len : js'.length = js.length
 t : ∀ i, i < js.length → (jb js' i).t = (jb js i).t
 a : ∀ i, i < js.length → (jb js' i).a = (jb js i).a
theorem AsJ.refl (js : List Fv) : AsJ js js := ⟨rfl, fun _ _ => rfl, fun _ _ => rfl⟩
theorem FRow.intw {wb : Nat} {W W' : World} {b o cap : Nat} {js : List Fv} (h : FRow W (some ⟨b, o, none⟩) cap js) (hI : IntW wb W W') (hb : b ≠ wb) : ∃ js', AsJ js js' ∧ FRow W' (some ⟨b, o, none⟩) cap js' := by
 have hx : ∀ i : Fin js.length, ∃ x' : Fv, x'.t = (jb js i.1).t ∧ x'.a = (jb js i.1).a ∧ ∃ C cc, FAt W' b (o + i.1 * 5) x' C cc := fun i => by
  obtain ⟨b', o', C, cc, e, hF⟩ := h.at_ i.1 _ (List.getElem?_eq_getElem i.2)
  cases e
  obtain ⟨c', hl, hc⟩ := hF.s.intw hI
  have ej : jb js i.1 = js[i.1] := jb_get (List.getElem?_eq_getElem i.2)
  rw [ej]
  refine ⟨⟨js[i.1].t, js[i.1].a, js[i.1].r, js[i.1].k, c'⟩, rfl, rfl, C, cc, ?_, ⟨hF.wf.t, hF.wf.a, hF.wf.r, hF.wf.k⟩, hc⟩
  intro j v hv
  refine hI.out _ _ _ hb (hF.r j v ?_)
  unfold fvL at hv ⊢
  simp only [hl] at hv
  exact hv
 obtain ⟨f, hf⟩ := Classical.axiomOfChoice hx
 have hj : ∀ i (hi : i < js.length), jb (List.ofFn f) i = f ⟨i, hi⟩ := fun i hi => jb_get (by rw [List.getElem?_ofFn]; simp [hi])
 refine ⟨List.ofFn f, ⟨by simp, fun i hi => by rw [hj i hi]; exact (hf ⟨i, hi⟩).1, fun i hi => by rw [hj i hi]; exact (hf ⟨i, hi⟩).2.1⟩, by simpa using h.le, h.mx, fun i x hx => ?_⟩
 rw [List.getElem?_ofFn] at hx
 split at hx
 ·rename_i hi
  cases hx
  obtain ⟨_, _, C, cc, hF⟩ := hf ⟨i, hi⟩
  exact ⟨b, o, C, cc, rfl, hF⟩
 ·cases hx
theorem worstS_as {js js' : List Fv} (h : AsJ js js') (en : List Int) (t : Int) : ∀ n, n ≤ js.length → worstS js' en t n = worstS js en t n
 | 0, _ => rfl
 | n + 1, hn => by
   rw [worstS_succ, worstS_succ, worstS_as h en t n (by omega)]
   have hr : respS js' en (n : Int) = respS js en (n : Int) := by
    unfold respS
    rw [h.len, Int.toNat_natCast, h.a n (by omega)]
   unfold worst1
   rw [h.t n (by omega), hr]
theorem RsH.as {js js' : List Fv} {en : List Int} (h : RsH js en) (hj : AsJ js js') : RsH js' en :=
 ⟨fun i hi => by rw [hj.a i (by rw [← hj.len]; exact hi)]; exact h.a i (by rw [← hj.len]; exact hi), h.e⟩
end
section
open Go.RowKit
theorem frow_keep {wb : Nat} {W W' : World} {R : Option Addr} {cap : Nat} {js : List Fv} (h : FRow W R cap js) (hI : IntW wb W W') (hb : js ≠ [] → ∃ b o, R = some ⟨b, o, none⟩ ∧ b ≠ wb) : ∃ js', AsJ js js' ∧ FRow W' R cap js' := by
 by_cases h0 : js = []
 ·subst h0
  exact ⟨[], AsJ.refl _, FRow.nil R cap h.mx⟩
 ·obtain ⟨b, o, rfl, hne⟩ := hb h0
  exact h.intw hI hne
theorem crow_keep {wb : Nat} {W W' : World} {A : Option Addr} {cap : Nat} {l : List Int} (h : CRow W A cap l) (hI : IntW wb W W') (hb : l ≠ [] → ∀ a, A = some a → a.block ≠ wb) : CRow W' A cap l :=
 ⟨h.le, h.mx, h.wf, fun i x hx => by
  obtain ⟨b, o, e, hv⟩ := h.at_ i x hx
  exact ⟨b, o, e, hI.out _ _ _ (hb (by intro h0; rw [h0] at hx; simp at hx) _ e) hv⟩⟩
structure WS (lb kb wb : Nat) (A : Option Addr) (cap N : Nat) (F : Nat → Int) (W : World) : Prop where
 ne : kb ≠ wb
 nl : lb ≠ wb
 set : W.rowIs lb 23 1 (fun _ => .slice A N cap)
 box : W.rowIs kb 42 1 (fun _ => .slice (some ⟨wb, 0, none⟩) N N)
 row : W.rowIs wb 2 N (fun t => .int .i64 (F t))
 inn : ∀ t, t < N → in64 (F t)
theorem WS.later {lb kb wb cap N : Nat} {A : Option Addr} {F : Nat → Int} {W W' : World} (h : WS lb kb wb A cap N F W) (hb : Below W.heap.size W W') : WS lb kb wb A cap N F W' :=
 ⟨h.ne, h.nl, h.set.of_block (hb.block lb h.set.lt), h.box.of_block (hb.block kb h.box.lt), h.row.of_block (hb.block wb h.row.lt), h.inn⟩
theorem WS.congr {lb kb wb cap N : Nat} {A : Option Addr} {F G : Nat → Int} {W : World} (h : WS lb kb wb A cap N F W) (e : ∀ t, t < N → F t = G t) : WS lb kb wb A cap N G W :=
 ⟨h.ne, h.nl, h.set, h.box, h.row.congr fun t ht => by rw [e t ht], fun t ht => by rw [← e t ht]; exact h.inn t ht⟩
theorem WS.keep {lb kb wb cap N : Nat} {A : Option Addr} {F : Nat → Int} {W : World} (h : WS lb kb wb A cap N F W) {i : Nat} {m : Int} (hm : in64 m) : WS lb kb wb A cap N (fun t => if t = i then m else F t) (W.drew.setCell ⟨wb, i, none⟩ (.int .i64 m)) :=
 ⟨h.ne, h.nl, (h.set.drew).setOther h.nl _, (h.box.drew).setOther h.ne _, ((h.row.drew).set i (.int .i64 m)).congr fun t ht => by split <;> rfl, fun t ht => by split; exact hm; exact h.inn t ht⟩
theorem WS.int {lb kb wb cap N : Nat} {A : Option Addr} {F : Nat → Int} {W : World} (h : WS lb kb wb A cap N F W) : IntW wb W W :=
 ⟨fun b o v hb hv => hv, fun o v hv => by
  have hr := h.row
  by_cases ho : o < N
  ·exact ⟨F o, h.inn o ho, hr.cell ho⟩
  ·exfalso
   obtain ⟨cs, e1, e2, e3⟩ := hr
   simp only [World.cell?, e1] at hv
   simp at hv
   obtain ⟨hq, _⟩ := Array.getElem?_eq_some_iff.1 hv
   omega⟩
theorem IntW.later {wb : Nat} {W W' W'' : World} (h : IntW wb W W') (hb : Below W'.heap.size W' W'') : IntW wb W W'' :=
 ⟨fun b o v hne hv => cells_below hb _ _ _ (h.out b o v hne hv), fun o v hv => by
  obtain ⟨z, h1, h2⟩ := h.inn o v hv
  exact ⟨z, h1, cells_below hb _ _ _ h2⟩⟩
theorem IntW.keep {wb : Nat} {W W' : World} (h : IntW wb W W') {i : Nat} {m : Int} (hm : in64 m) : IntW wb W (W'.drew.setCell ⟨wb, i, none⟩ (.int .i64 m)) :=
 ⟨fun b o v hne hv => (World.cell?_setCell_other _ _ _ _ (by intro e; have := congrArg Addr.block e; simp only at this; exact hne this.symm)).trans (h.out b o v hne hv), fun o v hv => by
  obtain ⟨z, h1, h2⟩ := h.inn o v hv
  by_cases ho : o = i
  ·subst ho
   exact ⟨m, hm, World.cell?_setCell_same _ _ _ (show W'.drew.cell? ⟨wb, o, none⟩ = some (.int .i64 z) from h2)⟩
  ·exact ⟨z, h1, (World.cell?_setCell_other _ _ _ _ (by intro e; have := congrArg Addr.off e; simp only at this; exact ho this.symm)).trans h2⟩⟩
theorem wn_in {js : List Fv} {en : List Int} (H : RsH js en) (t : Int) : in64 (wN js en t) := by
 have h1 : wN js en t ≤ 2000000000000000000 := wN_le (by omega) fun i hi ht r hr => (respS_bd H hr).2
 refine ⟨?_, by omega⟩
 unfold wN
 cases hw : worstS js en t js.length with
 | none => show _ ≤ (0 : Int); omega
 | some gp =>
   obtain ⟨g, p⟩ := gp
   have : ∀ n g p, worstS js en t n = some (g, p) → -2000000000000000000 ≤ g := by
    intro n
    induction n with
    | zero => intro g p h; simp [worstS] at h
    | succ n ih =>
      intro g p h
      rw [worstS_succ] at h
      unfold worst1 at h
      split at h
      ·split at h
       ·rename_i hr _
        split at h
        ·cases h; exact (respS_bd H hr).1
        ·cases h; exact ih _ _ (by assumption)
       ·rename_i hr _; cases h; exact (respS_bd H hr).1
       ·exact ih _ _ h
      ·exact ih _ _ h
   have := this _ g p hw
   show _ ≤ g
   omega
end
section
open Go.RowKit
def KpC (p : Addr) (v : Value) (W : World) : Prop := W.cell? p = some v
def kpF (F : Nat → Int) (js : List Fv) (en : List Int) (j : Nat) : Nat → Int := fun t => if t < j then max (F t) (wN js en (t : Int)) else F t
theorem kpF_none {F : Nat → Int} {js : List Fv} {en : List Int} {j : Nat} (h0 : 0 ≤ F j) (hw : wN js en (j : Int) = 0) (t : Nat) : kpF F js en j t = kpF F js en (j + 1) t := by
 unfold kpF
 by_cases h1 : t < j
 ·rw [if_pos h1, if_pos (by omega)]
 ·rw [if_neg h1]
  by_cases h2 : t < j + 1
  ·obtain rfl : t = j := by omega
   rw [if_pos h2, hw]
   omega
  ·rw [if_neg h2]
theorem kpF_some {F : Nat → Int} {js : List Fv} {en : List Int} {j : Nat} {g : Int} (hw : wN js en (j : Int) = g) (t : Nat) : (if t = j then max (F j) g else kpF F js en j t) = kpF F js en (j + 1) t := by
 unfold kpF
 by_cases h2 : t = j
 ·subst h2
  rw [if_pos rfl, if_pos (by omega), hw]
 ·rw [if_neg h2]
  by_cases h1 : t < j
  ·rw [if_pos h1, if_pos (by omega)]
  ·rw [if_neg h1, if_neg (by omega)]
theorem wN_has {js : List Fv} {en : List Int} {t : Int} {g : Int} {p : Nat} (h : worstS js en t js.length = some (g, p)) : wN js en t = g := by unfold wN; rw [h]; rfl
theorem wN_not {js : List Fv} {en : List Int} {t : Int} (h : worstS js en t js.length = none) : wN js en t = 0 := by unfold wN; rw [h]; rfl
theorem keep_any (lb kb wb cap N : Nat) (A R D : Option Addr) (rc d : Nat) (F : Nat → Int) (js : List Fv) (en : List Int) (w0 w : World) (hL : Lt w0 w) (hge : w0.heap.size ≤ wb) (hS : WS lb kb wb A cap N F w) (hJ : FRow w R rc js) (hE : CRow w D d en)
  (hn1 : js ≠ [] → ∃ b o, R = some ⟨b, o, none⟩ ∧ b ≠ wb) (hn2 : en ≠ [] → ∀ a, D = some a → a.block ≠ wb) (H : RsH js en) (hF : ∀ t, 0 ≤ F t) (hle : N ≤ cap) (hmx : cap ≤ 9223372036854775807) (hN : N ≤ 1000) :
  Calls Tryz.prog 43 #[.slice R js.length rc, .slice D en.length d, .pointer (some ⟨lb, 0, none⟩), .pointer (some ⟨kb, 0, none⟩)] w fun e w' => e = .returned (.tuple #[]) ∧ WS lb kb wb A cap N (kpF F js en N) w' ∧ Lt w0 w' := by
 have HJ := Lib.hid hJ
 have HE := Lib.hid hE
 have HN1 := Lib.hid hn1
 have HN2 := Lib.hid hn2
 have HRS := Lib.hid H
 have HF := Lib.hid hF
 have HGE := Lib.hid hge
 have HL := Lib.hid hL
 have HS := Lib.hid hS
 have HWN := Lib.hid (fun t : Int => wn_in H t)
 have HFI := Lib.hid hS.inn
 have cb0 := hS.set.cell (i := 0) (by omega)
 obtain ⟨J, hJl⟩ : ∃ J, js.length = J := ⟨_, rfl⟩
 obtain ⟨EN, hEl⟩ : ∃ EN, en.length = EN := ⟨_, rfl⟩
 have HJL := Lib.hid hJl
 have HEL := Lib.hid hEl
 rw [hJl, hEl]
 clear hJ hE hn1 hn2 H hF hge hL hS hJl hEl
 go_enter Tryz.func43, Tryz.ntmps43
 go_upto_region 1 with (fail)
 clear cb0
 go_wp2
 go_loopw [12] (fun i wx => ∃ j : Nat, j ≤ N ∧ i = .int .i64 (j : Int) ∧ Hid (WS lb kb wb A cap N (kpF F js en j) wx) ∧ Hid (IntW wb w wx) ∧ Hid (Lt w0 wx)) (fun i _ => N - (intOf i).toNat)
 case atStart => exact ⟨0, Nat.zero_le _, rfl, Lib.hid (HS.out.congr fun t ht => by unfold kpF; simp), Lib.hid HS.out.int, HL⟩
 case round =>
  obtain ⟨j, hj, rfl, HS4, HI4, HL4⟩ := hrel
  by_cases hlt : j < N
  ·obtain ⟨js', has, hF4⟩ := frow_keep HJ.out HI4.out HN1.out
   have hE4 := crow_keep HE.out HI4.out HN2.out
   have KW := worst_any (j : Int) _ hF4 hE4 (HRS.out.as has)
   rw [has.len, worstS_as has en (j : Int) js.length (Nat.le_refl _), HJL.out, HEL.out] at KW
   have KW := Lib.hid KW
   have hi0 : (0 : Int) ≤ (j : Int) := by omega
   have hi1 : (j : Int) < (N : Int) := by omega
   clear hF4 hE4 has
   unfold Told worV at KW
   cases ho : worstS js en (j : Int) J with
   | none =>
     have HW0 := Lib.hid (wN_not (by rw [HJL.out]; exact ho))
     rw [ho] at KW
     clear ho
     simp only [Option.map_none, Option.getD_none, Option.isSome_none] at KW
     go_wp2_with (go_at_call 44; (with_reducible refine KW.out.mono ?_); rintro e w5 ⟨rfl, h⟩; have HS5 := Lib.hid (HS4.out.later h); have HI5 := Lib.hid (HI4.out.later h); have HL5 := Lib.hid (lt_step _ _ HL4.out h); clear h)
     go_roundw
     case rel => exact ⟨j + 1, by omega, by go_num, Lib.hid (HS5.out.congr fun t ht => kpF_none (HF.out j) HW0.out t), HI5, HL5⟩
     case measure => simp [intOf]; omega
   | some gp =>
     obtain ⟨g, p⟩ := gp
     have HW0 := Lib.hid (wN_has (by rw [HJL.out]; exact ho))
     rw [ho] at KW
     clear ho
     simp only [Option.map_some, Option.getD_some, Option.isSome_some] at KW
     go_upto_region 5 with (go_at_call 44; (with_reducible refine KW.out.mono ?_); rintro e w5 ⟨rfl, h⟩; have HS5 := Lib.hid (HS4.out.later h); have HI5 := Lib.hid (HI4.out.later h); have HL5 := Lib.hid (lt_step _ _ HL4.out h); clear h)
     have hm : in64 (max (F j) g) := by
      have h1 := HWN.out (j : Int)
      rw [HW0.out] at h1
      obtain ⟨a1, a2⟩ := h1
      obtain ⟨b1, b2⟩ := HFI.out j hlt
      exact ⟨by omega, by omega⟩
     have hx2 : w5.drew.cell? ⟨wb, j, none⟩ = some (.int .i64 (F j)) := by
      refine (World.cell?_drew ..).trans ?_
      rw [HS5.out.row.cell hlt]
      unfold kpF
      rw [if_neg (Nat.lt_irrefl j)]
     have hf2 : w5.drew.frozen? ⟨wb, j, none⟩ = false := HS5.out.row.frozen j
     have HC0 : KpC ⟨kb, 0, none⟩ (.slice (some ⟨wb, 0, none⟩) N N) w5.drew := (World.cell?_drew ..).trans (HS5.out.box.cell (i := 0) (by omega))
     have HC1 := Lib.hid (show KpC ⟨kb, 0, none⟩ (.slice (some ⟨wb, 0, none⟩) N N) (w5.drew.setCell ⟨wb, j, none⟩ (.int .i64 (max (F j) g))) from (World.cell?_of_block (w := w5.drew) (a := ⟨kb, 0, none⟩) (heap_setCell_other w5.drew ⟨wb, j, none⟩ kb _ HS5.out.ne)).trans HC0)
     have HSE := Lib.hid (WS.congr (show WS lb kb wb A cap N _ (w5.drew.setCell ⟨wb, j, none⟩ (.int .i64 (max (F j) g))) from HS5.out.keep (i := j) hm) fun t ht => kpF_some HW0.out t)
     have HIE := Lib.hid (show IntW wb w (w5.drew.setCell ⟨wb, j, none⟩ (.int .i64 (max (F j) g))) from HI5.out.keep (i := j) hm)
     have HLE := Lib.hid (show Lt w0 (w5.drew.setCell ⟨wb, j, none⟩ (.int .i64 (max (F j) g))) from Below.setCell (p := ⟨wb, j, none⟩) (below_drewN HL5.out 1) HGE.out _)
     obtain ⟨x, hx⟩ : ∃ x, F j = x := ⟨_, rfl⟩
     rw [hx] at hx2 HC1 HSE HIE HLE
     obtain ⟨W7, hW7⟩ : ∃ W7, w5.drew = W7 := ⟨_, rfl⟩
     rw [hW7] at HC0 HC1 hf2 hx2 HSE HIE HLE
     clear hm hx
     refine wp_region_noPanic ?_
     refine wp_region_held_drew (S := KpC ⟨kb, 0, none⟩ (.slice (some ⟨wb, 0, none⟩) N N)) (by kernel_rfl) (by rw [hW7]; exact HC0) (fun hHeld => ?_)
     rw [hW7] at hHeld ⊢
     clear HC0 hW7
     refine wpAnyH_take (i := 0) (oi := ⟨some 24, _, _, _, _, _⟩) (v := .slice (some ⟨wb, 0, none⟩) N N) rfl (by kernel_rfl) (by kernel_rfl) (by kernel_rfl) (fun _ _ _ h => h) (Or.inl ⟨by rfl, ?_⟩) (by assumption) ?_
     ·intro w0 hSw
      have e0 : w0.cell? ⟨kb, 0, none⟩ = some (.slice (some ⟨wb, 0, none⟩) N N) := hSw
      go_simp
      (try with_reducible rfl)
     (try simp only [Act.put, List.setIfInBounds_toArray, List.set_cons_zero, List.set_cons_succ])
     refine wpAnyH_take (i := 1) (oi := ⟨some 25, _, _, _, _, _⟩) (v := .int .i64 (j : Int)) rfl (by kernel_rfl) (by kernel_rfl) (by kernel_rfl) (fun _ _ _ h => h) (Or.inl ⟨by rfl, ?_⟩) (by assumption) ?_
     ·intro w0 hSw
      have e0 : w0.cell? ⟨kb, 0, none⟩ = some (.slice (some ⟨wb, 0, none⟩) N N) := hSw
      go_simp
      (try with_reducible rfl)
     (try simp only [Act.put, List.setIfInBounds_toArray, List.set_cons_zero, List.set_cons_succ])
     refine wpAnyH_take (i := 2) (oi := ⟨some 26, _, _, _, _, _⟩) (v := .slice (some ⟨wb, 0, none⟩) N N) rfl (by kernel_rfl) (by kernel_rfl) (by kernel_rfl) (fun _ _ _ h => h) (Or.inl ⟨by rfl, ?_⟩) (by assumption) ?_
     ·intro w0 hSw
      have e0 : w0.cell? ⟨kb, 0, none⟩ = some (.slice (some ⟨wb, 0, none⟩) N N) := hSw
      go_simp
      (try with_reducible rfl)
     (try simp only [Act.put, List.setIfInBounds_toArray, List.set_cons_zero, List.set_cons_succ])
     refine wpAnyH_take (i := 3) (oi := ⟨some 27, _, _, _, _, _⟩) (v := .int .i64 (j : Int)) rfl (by kernel_rfl) (by kernel_rfl) (by kernel_rfl) (fun _ _ _ h => h) (Or.inl ⟨by rfl, ?_⟩) (by assumption) ?_
     ·intro w0 hSw
      have e0 : w0.cell? ⟨kb, 0, none⟩ = some (.slice (some ⟨wb, 0, none⟩) N N) := hSw
      go_simp
      (try with_reducible rfl)
     (try simp only [Act.put, List.setIfInBounds_toArray, List.set_cons_zero, List.set_cons_succ])
     refine wpAnyH_take (i := 4) (oi := ⟨some 28, _, _, _, _, _⟩) (v := .pointer (some ⟨wb, j, none⟩)) rfl (by kernel_rfl) (by kernel_rfl) (by kernel_rfl) (fun _ _ _ h => h) (Or.inl ⟨by rfl, ?_⟩) (by assumption) ?_
     ·intro w0 hSw
      have e0 : w0.cell? ⟨kb, 0, none⟩ = some (.slice (some ⟨wb, 0, none⟩) N N) := hSw
      go_simp
      (try with_reducible rfl)
     (try simp only [Act.put, List.setIfInBounds_toArray, List.set_cons_zero, List.set_cons_succ])
     refine wpAnyH_take (i := 6) (oi := ⟨some 30, _, _, _, _, _⟩) (v := .int .i64 g) rfl (by kernel_rfl) (by kernel_rfl) (by kernel_rfl) (fun _ _ _ h => h) (Or.inl ⟨by rfl, ?_⟩) (by assumption) ?_
     ·intro w0 hSw
      have e0 : w0.cell? ⟨kb, 0, none⟩ = some (.slice (some ⟨wb, 0, none⟩) N N) := hSw
      go_simp
      (try with_reducible rfl)
     (try simp only [Act.put, List.setIfInBounds_toArray, List.set_cons_zero, List.set_cons_succ])
     refine wpAnyH_ready (rs := [5]) (by kernel_rfl) (by simp) ?_
     refine (AllReadyH.cons (o := ⟨some 29, _, _, _, _, _⟩) rfl (fun K hK => ?_) AllReadyH.nil)
     go_simp
     refine hK.out _ _ hHeld (fun hHeld2 => ?_)
     clear hK K
     (try simp only [Act.put, List.setIfInBounds_toArray, List.set_cons_zero, List.set_cons_succ])
     refine wpAnyH_take (i := 7) (oi := ⟨some 31, _, _, _, _, _⟩) (v := .int .i64 (max x g)) rfl (by kernel_rfl) (by kernel_rfl) (by kernel_rfl) (fun _ _ _ h => h) (Or.inl ⟨by rfl, ?_⟩) (by assumption) ?_
     ·intro w0 hSw
      have e0 : w0.cell? ⟨kb, 0, none⟩ = some (.slice (some ⟨wb, 0, none⟩) N N) := hSw
      go_simp
      (try with_reducible rfl)
     (try simp only [Act.put, List.setIfInBounds_toArray, List.set_cons_zero, List.set_cons_succ])
     refine wpAnyH_take (i := 8) (oi := ⟨some 32, _, _, _, _, _⟩) (v := .pointer (some ⟨wb, j, none⟩)) rfl (by kernel_rfl) (by kernel_rfl) (by kernel_rfl) (fun _ _ _ h => h) (Or.inl ⟨by rfl, ?_⟩) (by assumption) ?_
     ·intro w0 hSw
      have e0 : w0.cell? ⟨kb, 0, none⟩ = some (.slice (some ⟨wb, 0, none⟩) N N) := hSw
      go_simp
      (try with_reducible rfl)
     (try simp only [Act.put, List.setIfInBounds_toArray, List.set_cons_zero, List.set_cons_succ])
     refine wpAnyH_ready (rs := [9]) (by kernel_rfl) (by simp) ?_
     refine (AllReadyH.cons (o := ⟨none, _, _, _, _, _⟩) rfl (fun K hK => ?_) AllReadyH.nil)
     go_simp
     refine hK.out _ _ HC1.out (fun hHeld3 => ?_)
     clear hK K
     (try simp only [Act.put, List.setIfInBounds_toArray, List.set_cons_zero, List.set_cons_succ])
     refine wpAnyH_done (by kernel_rfl) ?_ _
     refine NoPanic.normal ?_
     go_wp2
     go_roundw
     case rel => exact ⟨j + 1, by omega, by go_num, HSE, HIE, HLE⟩
     case measure => simp [intOf]; omega
  ·obtain rfl : j = N := by omega
   go_wp2
   refine bodyPost_end (results_none rfl _ _ _) rfl ?_
   exact ⟨rfl, HS4.out, HL4.out⟩
end
section
open Go.RowKit
structure RwR (w : World) (A : Option Addr) (cap : Nat) (rows : List (List Fv)) : Prop where
 le : rows.length ≤ cap
 mx : cap ≤ 9223372036854775807
 at_ : ∀ i rs, rows[i]? = some rs → ∃ b o R rc, A = some ⟨b, o, none⟩ ∧ b < w.heap.size ∧ w.cell? ⟨b, o + i, none⟩ = some (.slice R rs.length rc) ∧ FRow w R rc rs
theorem RwR.later {w w' : World} {A : Option Addr} {cap : Nat} {rows : List (List Fv)} (h : RwR w A cap rows) (hb : Below w.heap.size w w') : RwR w' A cap rows :=
 ⟨h.le, h.mx, fun i rs hi => by
  obtain ⟨b, o, R, rc, e, hl, hc, hF⟩ := h.at_ i rs hi
  exact ⟨b, o, R, rc, e, Nat.lt_of_lt_of_le hl (Below.size hb), cells_below hb _ _ _ hc, hF.later hb⟩⟩
theorem RwR.one (w : World) (T : TypeId) {R1 : Option Addr} {c1 n1 : Nat} {r1 : List Fv} (h1 : FRow w R1 c1 r1) (e1 : r1.length = n1) : RwR (w.alloc (.cells #[.slice R1 n1 c1] T)) (some ⟨w.heap.size, 0, none⟩) 1 [r1] := by
 have hb : Below w.heap.size w (w.alloc (.cells #[.slice R1 n1 c1] T)) := (Below.refl _ _).alloc (Nat.le_refl _) _
 have hc := fun i => cell_of_row (w.alloc (.cells #[.slice R1 n1 c1] T)) w.heap.size i _ _ _ (heap_alloc_new w _)
 refine ⟨by simp, by omega, fun i rs hi => ?_⟩
 match i, hi with
 | 0, hi =>
   obtain rfl : r1 = rs := by simpa using hi
   exact ⟨_, 0, R1, c1, rfl, by simp, by rw [e1]; exact hc 0, h1.later hb⟩
 | n + 1, hi => simp at hi
theorem RwR.two (w : World) (T : TypeId) {R1 R2 : Option Addr} {c1 n1 c2 n2 : Nat} {r1 r2 : List Fv} (h1 : FRow w R1 c1 r1) (e1 : r1.length = n1) (h2 : FRow w R2 c2 r2) (e2 : r2.length = n2) : RwR (w.alloc (.cells #[.slice R1 n1 c1, .slice R2 n2 c2] T)) (some ⟨w.heap.size, 0, none⟩) 2 [r1, r2] := by
 have hb : Below w.heap.size w (w.alloc (.cells #[.slice R1 n1 c1, .slice R2 n2 c2] T)) := (Below.refl _ _).alloc (Nat.le_refl _) _
 have hc := fun i => cell_of_row (w.alloc (.cells #[.slice R1 n1 c1, .slice R2 n2 c2] T)) w.heap.size i _ _ _ (heap_alloc_new w _)
 refine ⟨by simp, by omega, fun i rs hi => ?_⟩
 match i, hi with
 | 0, hi =>
   obtain rfl : r1 = rs := by simpa using hi
   exact ⟨_, 0, R1, c1, rfl, by simp, by rw [e1]; exact hc 0, h1.later hb⟩
 | 1, hi =>
   obtain rfl : r2 = rs := by simpa using hi
   exact ⟨_, 0, R2, c2, rfl, by simp, by rw [e2]; exact hc 1, h2.later hb⟩
 | n + 2, hi => simp at hi
def scrL (ts : List Ts) (E : List Fv → List Int) (rows : List (List Fv)) : List Int := (List.range ts.length).map fun t : Nat => scrI ts E rows (t : Int)
def ScrP (L : List Int) (n : Nat) (w : World) (e : Ending) (w' : World) : Prop := ∃ D d, e = .returned (.slice D n d) ∧ CRow w' D d L ∧ Below w.heap.size w w'
def ScrC (ts : List Ts) (E : List Fv → List Int) : Prop :=
 ∀ (W : World) (A B : Option Addr) (cap c : Nat) (rows : List (List Fv)), Row W A cap ts → RwR W B c rows → (∀ rs ∈ rows, Few1 ts (decS ts rs)) → Tab W →
  Calls Tryz.prog 16 #[.slice A ts.length cap, .slice B rows.length c] W (ScrP (scrL ts E rows) ts.length W)
theorem scrL_at {ts : List Ts} {E : List Fv → List Int} {rows : List (List Fv)} {t : Nat} (h : t < ts.length) : (scrL ts E rows)[t]? = some (scrI ts E rows (t : Int)) := by
 unfold scrL
 rw [List.getElem?_map, List.getElem?_range h]
 rfl
theorem sbe_walk (hC : ∀ ts : List Ts, St ts → ∀ E SP, RunA ts E SP → ScrC ts E) (A0 : Option Addr) (cap0 : Nat) (l0 : List Sp) (A1 : Option Addr) (cap1 : Nat) (l1 : List Fv) (x0 : Int) (w : World) (hT : Tab w) (h0 : SRow w A0 cap0 l0) (h1 : FRow w A1 cap1 l1) (i0 : in64 x0) :
  Calls Tryz.prog 5 #[.slice A0 l0.length cap0, .slice A1 l1.length cap1, .int .i64 x0] w fun e w' => e = .returned (.bool true) ∧ Below w.heap.size w w' := by
 have KA := Lib.hid awake_any
 have KS := Lib.hid (fun W (h : Lt w W) => set_any 5 (by omega) (by omega) A0 cap0 l0 x0 W (h0.later h) i0)
 have HTB := Lib.hid (fun W (h : Lt w W) => hT.below h)
 have KF0 := fun (W : World) (h : Lt w W) => fewT_row A1 cap1 l1 W (h1.later h)
 have FB0 := fewT_bd l1
 obtain ⟨fs, hfs⟩ : ∃ fs, fewTS l1 = fs := ⟨_, rfl⟩
 rw [hfs] at KF0 FB0
 have KF := Lib.hid KF0
 have FB := Lib.hid FB0
 have HL : Hid (Lt w w) := Lib.hid (Below.refl _ _)
 have HC := Lib.hid hC
 have hle1 := h1.le
 have hmx1 := h1.mx
 generalize l0.length = m0 at *
 generalize l1.length = m1 at *
 clear h0 hT h1 hfs KF0 FB0 hC
 go_enter Tryz.func5, Tryz.ntmps5
 go_upto_region 2 with (go_at_call 7; (with_reducible refine (KA.out _ (HTB.out _ HL.out)).mono ?_); rintro e v0 ⟨rfl, h⟩; have HL := Lib.hid (lt_step _ _ HL.out h); clear h)
 go_upto_region 3 with (go_at_call 8; (with_reducible refine (KS.out _ HL.out).mono ?_); rintro e v ⟨A, cap, ts, rfl, hR, hn1, hn6, hd, hsf, hp, h⟩; have HR := Lib.hid hR; have HST := Lib.hid (St.mk hn1 (by omega) hd hsf hp); have HL := Lib.hid (lt_step _ _ HL.out h); clear h hR hsf hd hp)
 have hle := HR.out.le
 have hmx := HR.out.mx
 obtain ⟨E, SP, hE⟩ := run_all HST.out
 have HE := Lib.hid hE
 have HV : Hid (Lt v v) := Lib.hid (Below.refl _ _)
 obtain ⟨r0, r1⟩ := restI_bd x0 (ts.length : Int) (by omega) (by omega)
 have KR := Lib.hid (fun W => rest_any x0 (ts.length : Int) W i0 (by omega) (by omega))
 obtain ⟨k, hk⟩ : ∃ k : Nat, restI x0 (ts.length : Int) = (k : Int) := ⟨(restI x0 (ts.length : Int)).toNat, by omega⟩
 rw [hk] at KR r0 r1
 have hkn : k < ts.length := by omega
 obtain ⟨y, hy⟩ : ∃ y, ts[k]? = some y := ⟨_, List.getElem?_eq_getElem hkn⟩
 obtain ⟨b, o, rfl⟩ := row_at HR.out hkn
 obtain ⟨os, he1, he2⟩ := scene_enc HST.out hy
 have f1 := few_dec HST.out FB.out.1 FB.out.2
 have f2 := few_scene HST.out hy
 have PB := below_pure HST.out hy (HE.out.rn _ f1) (HE.out.rn _ f2) (HE.out.sc k y hy) he2
 have KC0 := fun (W : World) (h : Lt v W) => scrit_row _ cap ts k y W (HR.out.later h) HST.out hy (HTB.out _ (lt_step _ _ HL.out h))
 have KEN0 := fun (W : World) (Ar : Option Addr) (cr : Nat) (h : Lt v W) (hF : FRow W Ar cr (sceneS ts (k : Int))) => encode_row _ Ar cap cr ts _ os W (HR.out.later h) hF he1
 have KS1 : ∀ (W : World) (B : Option Addr) (c : Nat), Lt v W → RwR W B c [fs] → Calls Tryz.prog 16 #[.slice (some ⟨b, o, none⟩) ts.length cap, .slice B 1 c] W (ScrP (scrL ts E [fs]) ts.length W) := fun W B c h hF => HC.out ts HST.out E SP HE.out W _ B cap c [fs] (HR.out.later h) hF (fun rs hr => by rw [List.mem_singleton.1 hr]; exact f1) (HTB.out _ (lt_step _ _ HL.out h))
 have KS2 : ∀ (W : World) (B : Option Addr) (c : Nat), Lt v W → RwR W B c [fs, os] → Calls Tryz.prog 16 #[.slice (some ⟨b, o, none⟩) ts.length cap, .slice B 2 c] W (ScrP (scrL ts E [fs, os]) ts.length W) := fun W B c h hF => HC.out ts HST.out E SP HE.out W _ B cap c [fs, os] (HR.out.later h) hF (fun rs hr => by
  rcases List.mem_cons.1 hr with rfl | hr
  ·exact f1
  ·rw [List.mem_singleton.1 hr, he2]; exact f2) (HTB.out _ (lt_step _ _ HL.out h))
 have KB := Lib.hid (fun (W : World) (h : Lt v W) (i : Int) (hi : in64 i) => rbound_any _ cap ts i W (HR.out.later h) hi)
 have HLE : Hid ((scrL ts E [fs]).length = ts.length ∧ (scrL ts E [fs, os]).length = ts.length) := Lib.hid ⟨by simp [scrL], by simp [scrL]⟩
 have PL1 := Lib.hid (fun (t : Nat) (h : t < ts.length) => scrL_at (E := E) (rows := [fs]) h)
 have PL2 := Lib.hid (fun (t : Nat) (h : t < ts.length) => scrL_at (E := E) (rows := [fs, os]) h)
 have HYC := Lib.hid (fun (W : World) (h : Lt v W) => row_cells HR.out hy h)
 obtain ⟨js2, hjs2⟩ : ∃ js2, sceneS ts (k : Int) = js2 := ⟨_, rfl⟩
 rw [hjs2] at KC0 KEN0
 have KC := Lib.hid KC0
 have KEN := Lib.hid KEN0
 unfold ScrP at KS1 KS2
 generalize scrL ts E [fs] = L1 at *
 generalize scrL ts E [fs, os] = L2 at *
 obtain ⟨F1, hF1⟩ : ∃ F : Int → Int, ∀ t, scrI ts E [fs] t = F t := ⟨_, fun _ => rfl⟩
 obtain ⟨F2, hF2⟩ : ∃ F : Int → Int, ∀ t, scrI ts E [fs, os] t = F t := ⟨_, fun _ => rfl⟩
 have PB : (∀ t : Int, F1 t ≤ F2 t ∧ ((boundI ts t).2 = 0 → F2 t ≤ (boundI ts t).1)) ∧ (((boundI ts (k : Int)).2 = 0 ∧ F2 (k : Int) = (boundI ts (k : Int)).1) ∨ ((boundI ts (k : Int)).2 = 16 ∧ y.d < F2 (k : Int))) := by
  simp only [hF1, hF2] at PB
  exact PB
 have PB := Lib.hid PB
 have PL1 : Hid (∀ t : Nat, t < ts.length → L1[t]? = some (F1 (t : Int))) := Lib.hid (fun t h => by rw [PL1.out t h, hF1])
 have PL2 : Hid (∀ t : Nat, t < ts.length → L2[t]? = some (F2 (t : Int))) := Lib.hid (fun t h => by rw [PL2.out t h, hF2])
 have KS1 := Lib.hid KS1
 have KS2 := Lib.hid KS2
 clear hF1 hF2 KC0 KEN0 f1 f2 hE he1 he2 hjs2 hk i0
 generalize hN : ts.length = N at *
 generalize hnf : fs.length = nf at *
 generalize hno : os.length = no at *
 generalize hnj : js2.length = nj at *
 have HNF := Lib.hid hnf
 have HNO := Lib.hid hno
 clear hnf hno hnj hN
 go_upto_region 4 with (go_at_call 10; (with_reducible refine (KR.out _).mono ?_); rintro e v3 ⟨rfl, rfl⟩)
 go_upto_region 5 with (go_at_call 13; (with_reducible refine (KF.out _ HL.out).mono ?_); rintro e w1 ⟨Ar, cr, rfl, hF, h⟩; have HF := Lib.hid hF; have HV := Lib.hid (lt_step _ _ HV.out h); clear h hF)
 rw [HNF.out]
 go_upto_region 6 with (go_at_call 14; (with_reducible refine (KC.out _ HV.out).mono ?_); rintro e w2 ⟨b1, o1, c2, rfl, hF2, h⟩; have HF2 := Lib.hid hF2; have HF := Lib.hid (HF.out.later h); have HV := Lib.hid (lt_step _ _ HV.out h); have KE1 := Lib.hid (KEN.out _ _ _ HV.out HF2.out); clear h hF2)
 go_upto_region 7 with (go_at_call 15; (with_reducible refine KE1.out.mono ?_); rintro e w3 ⟨B3, c3, rfl, hF3, h⟩; have HF3 := Lib.hid hF3; have HF := Lib.hid (HF.out.later h); have HV := Lib.hid (lt_step _ _ HV.out h); clear h hF3)
 have R1 := Lib.hid (RwR.one w3 35 HF.out HNF.out)
 have B1 := Lib.hid (show Below w3.heap.size w3 (w3.alloc (.cells #[.slice Ar nf cr] 35)) from (Below.refl _ _).alloc (Nat.le_refl _) _)
 have KS3 := Lib.hid (KS1.out _ _ _ (lt_step _ _ HV.out B1.out) R1.out)
 go_upto_region 8 with (go_at_call 16; (with_reducible refine KS3.out.mono ?_); rintro e w4 ⟨D1, d1, rfl, hD1, h⟩; have HD1 := Lib.hid hD1; have HF := Lib.hid ((HF.out.later B1.out).later h); have HF3 := Lib.hid ((HF3.out.later B1.out).later h); have HV := Lib.hid (lt_step _ _ (lt_step _ _ HV.out B1.out) h); clear h hD1)
 clear R1 B1 KS3
 have R1 := Lib.hid (RwR.two w4 35 HF.out HNF.out HF3.out HNO.out)
 have B1 := Lib.hid (show Below w4.heap.size w4 (w4.alloc (.cells #[.slice Ar nf cr, .slice B3 no c3] 35)) from (Below.refl _ _).alloc (Nat.le_refl _) _)
 have KS3 := Lib.hid (KS2.out _ _ _ (lt_step _ _ HV.out B1.out) R1.out)
 go_upto_region 9 with (go_at_call 16; (with_reducible refine KS3.out.mono ?_); rintro e w5 ⟨D2, d2, rfl, hD2, h⟩; have HD2 := Lib.hid hD2; have HD1 := Lib.hid ((HD1.out.later B1.out).later h); have HV := Lib.hid (lt_step _ _ (lt_step _ _ HV.out B1.out) h); clear h hD2)
 clear R1 B1 KS3 HF HF3
 have u1 : ((N : Int) != (N : Int)) = false := by simp
 go_upto_if 72 with (fail)
 go_wp2
 clear u1
 go_loopw [18] (fun i wr => ∃ j : Nat, j ≤ N ∧ i = .int .i64 (j : Int) ∧ Hid (Lt w5 wr)) (fun i _ => N - (intOf i).toNat)
 case atStart => exact ⟨0, Nat.zero_le _, rfl, Lib.hid (Below.refl _ _)⟩
 case round =>
  obtain ⟨j, hj, rfl, HX⟩ := hrel
  by_cases hlt : j < N
  ·obtain ⟨⟨be, ee⟩, hbe⟩ : ∃ p, boundI ts (j : Int) = p := ⟨_, rfl⟩
   have KB1 := KB.out wr (lt_step _ _ HV.out HX.out) (j : Int) ⟨by omega, by omega⟩
   have pb := PB.out.1 (j : Int)
   rw [hbe] at KB1 pb
   simp only at KB1 pb
   obtain ⟨pb1, pb2⟩ := pb
   obtain ⟨ga, oa, rfl, hka⟩ := HD1.out.at_ j _ (PL1.out j hlt)
   obtain ⟨gb, ob, rfl, hkb⟩ := HD2.out.at_ j _ (PL2.out j hlt)
   have HKA := Lib.hid hka
   have HKB := Lib.hid hkb
   have q1 := HD1.out.le
   have q1m := HD1.out.mx
   have q2 := HD2.out.le
   have q2m := HD2.out.mx
   have hl1 : L1.length = N := HLE.out.1
   have hl2 : L2.length = N := HLE.out.2
   rw [hl1] at q1
   rw [hl2] at q2
   have HKB1 := Lib.hid KB1
   have HPB := Lib.hid pb2
   clear hka hkb hbe KB1 pb2 hl1 hl2
   generalize F1 (j : Int) = fa at *
   generalize F2 (j : Int) = fb at *
   have hi0 : (0 : Int) ≤ (j : Int) := by omega
   have hi1 : (j : Int) < (N : Int) := by omega
   go_upto_region 15 with (go_at_call 17; (with_reducible refine HKB1.out.mono ?_); rintro e w6 ⟨rfl, h⟩; have HX := Lib.hid (lt_step _ _ HX.out h); clear h)
   obtain ⟨V, hV, HQ, HX⟩ : ∃ V, w6.alloc (.cells #[.int .i64 be, .int .i64 ee] 45) = V ∧ Hid (V.heap[w6.heap.size]? = some (.cells #[.int .i64 be, .int .i64 ee] 45 (0, 0))) ∧ Hid (Lt w5 V) := ⟨_, rfl, Lib.hid (World.alloc_heap_new w6 _), Lib.hid (lt_step _ _ HX.out ((Below.refl _ _).alloc (Nat.le_refl _) _))⟩
   rw [hV]
   clear hV
   obtain ⟨qb, hqb⟩ : ∃ qb, w6.heap.size = qb := ⟨_, rfl⟩
   rw [hqb] at HQ ⊢
   clear hqb
   obtain ⟨d0, d1', -, -⟩ := two_cells HQ.out
   have ka := cells_below HX.out _ _ _ HKA.out
   have kb := cells_below HX.out _ _ _ HKB.out
   have u1 : decide (fa > fb) = false := decide_eq_false (by omega)
   have u1' : decide (fb < fa) = false := decide_eq_false (by omega)
   have HJ := Lib.hid hlt
   by_cases h0 : ee = 0
   ·subst h0
    have hb3 := HPB.out rfl
    have u2 : decide (fb > be) = false := decide_eq_false (by omega)
    have u2' : decide (be < fb) = false := decide_eq_false (by omega)
    clear hb3 hlt
    go_quiet (fail)
    clear u1 u1' u2 u2'
    go_wp2
    go_roundw
    case rel => exact ⟨j + 1, by have := HJ.out; omega, by go_num, Lib.hid (show Lt w5 _ from below_drewN HX.out nq)⟩
    case measure => have := HJ.out; simp [intOf]; omega
   ·have u2 : decide (ee = 0) = false := decide_eq_false h0
    have u3 : (ee == 0) = false := by simp [h0]
    clear hlt h0
    go_quiet (fail)
    clear u1 u1' u2 u3
    go_wp2
    go_roundw
    case rel => exact ⟨j + 1, by have := HJ.out; omega, by go_num, Lib.hid (show Lt w5 _ from below_drewN HX.out nq)⟩
    case measure => have := HJ.out; simp [intOf]; omega
  ·obtain rfl : j = N := by omega
   obtain ⟨⟨be, ee⟩, hbe⟩ : ∃ p, boundI ts (k : Int) = p := ⟨_, rfl⟩
   have KB1 := KB.out wr (lt_step _ _ HV.out HX.out) (k : Int) ⟨by omega, by omega⟩
   have pb := PB.out.2
   rw [hbe] at KB1 pb
   simp only at KB1 pb
   obtain ⟨gb, ob, rfl, hkb⟩ := HD2.out.at_ k _ (PL2.out k hkn)
   have HKB := Lib.hid hkb
   have q2 := HD2.out.le
   have q2m := HD2.out.mx
   have hl2 : L2.length = j := HLE.out.2
   rw [hl2] at q2
   have HKB1 := Lib.hid KB1
   have HPB := Lib.hid pb
   clear hkb hbe KB1 hl2 pb hlt
   generalize F2 (k : Int) = fb at *
   have hi0 : (0 : Int) ≤ (k : Int) := by omega
   have hi1 : (k : Int) < (j : Int) := by omega
   go_upto_region 18 with (go_at_call 17; (with_reducible refine HKB1.out.mono ?_); rintro e w6 ⟨rfl, h⟩; have HX := Lib.hid (lt_step _ _ HX.out h); clear h)
   obtain ⟨V, hV, HQ, HX⟩ : ∃ V, w6.alloc (.cells #[.int .i64 be, .int .i64 ee] 45) = V ∧ Hid (V.heap[w6.heap.size]? = some (.cells #[.int .i64 be, .int .i64 ee] 45 (0, 0))) ∧ Hid (Lt w5 V) := ⟨_, rfl, Lib.hid (World.alloc_heap_new w6 _), Lib.hid (lt_step _ _ HX.out ((Below.refl _ _).alloc (Nat.le_refl _) _))⟩
   rw [hV]
   clear hV
   obtain ⟨qb, hqb⟩ : ∃ qb, w6.heap.size = qb := ⟨_, rfl⟩
   rw [hqb] at HQ ⊢
   clear hqb
   obtain ⟨d0, d1', -, -⟩ := two_cells HQ.out
   have kb := cells_below HX.out _ _ _ HKB.out
   have kc := (HYC.out V (lt_step _ _ HV.out HX.out)).c3
   generalize y.d = yd at *
   have HVX := Lib.hid (lt_step _ _ HL.out (lt_step _ _ HV.out HX.out))
   rcases HPB.out with ⟨rfl, rfl⟩ | ⟨rfl, hlt⟩
   ·go_quiet (fail)
    go_wp2
    go_ret
    exact ⟨rfl, show Lt w _ from below_drewN HVX.out nq⟩
   ·have u2 : decide (fb > yd) = true := decide_eq_true (by omega)
    have u2' : decide (yd < fb) = true := decide_eq_true (by omega)
    clear hlt
    go_quiet (fail)
    go_wp2
    go_ret
    exact ⟨rfl, show Lt w _ from below_drewN HVX.out nq⟩
end
end Go.Proofs.YthfkbbiaemmndaaGreatDoor
