/- Texts about the program, one after the other: YScw. -/
import Derived.WalkKit
import Derived.ProofKit
import Derived.Handy
import Derived.Lib.Hide
import Derived.Deep.MidRow
import Derived.Deep.QuietTactic
import Derived.BigQuiet
import Derived.Deep.RegionHeld3
import Derived.Laws.Externs
import Derived.RangeFuncBox
import Derived.Deep.CutBlock
import Derived.Deep.LoopGhost
import Derived.WalkMore
import Derived.OrdersIn
import Derived.Stop.RegionWithIn
import Derived.Deep.RegionLaw
import Derived.Laws.OwnMore
import Derived.Deep.CutRange
import Derived.Deep.Quiet
import Derived.Deep.RegionHeld
import Derived.Laws.AppendOwn
import Derived.Below
import Derived.LaidMore
import Derived.Laws.CopyOwn
import Derived.IntWalk
import Derived.OwnWalk
import Derived.BigRegion
import Derived.Deep.DrawnRows
import Derived.Deep.RegionHeldLaw
import Derived.LoopIn
import Derived.LoopNIn
import Derived.TacticsInMore
import Derived.OwnWalkIn
import Derived.RangeFuncNested
import Derived.RangeFuncBound
import Derived.RangeFuncCalls
import Derived.RangeFuncLeaves
import Derived.RangeFuncWrites
import Derived.Shelf.Abstract
import Derived.StillTailTactics
import Derived.Lib.SliceRun
import Derived.Deep.AppendSrc
import Derived.Deep.Upon
import Derived.Deep.DeepAppendWide
import Derived.Sort.LoopGhostIn
import Derived.Laws.MakeOwn
import Derived.Shelf.SlGeneric
import Derived.Shelf.Spec.SlicesGrow
import Derived.Ground.Names8Prog
import Derived.Laws.AppendOwnNone
import Derived.Shelf.SlSortCmp.Whole1
import Derived.Ground.SlsfProg
import Derived.Ground.SlgnProg
import Derived.Laws.ShiftsVarLaws
import Derived.Outline
import Derived.Laws.Bits128
import Derived.Deep.RegionWith
import Derived.Shelf.RegionOpen
import Derived.Laws.BytesString
import Derived.RangeFuncRecord
import Derived.MapKept
import Derived.Maps.AppendAt
import Derived.Shelf.SlSortCmp.NoneTotal
import Derived.Laws.Bits64b
import Derived.Shelf.Small.Bits
import Derived.Shelf.Small.Strs
import Derived.Shelf.Small.Wraps
import Derived.Shelf.Strconv.Itoa0
import Derived.Shelf.LaysM
import Derived.Shelf.Strconv.Clone
import Derived.Shelf.Strings.Search1
import Derived.Shelf.Bits.Mul64
import Derived.Ground.Names2Prog
import Derived.Shelf.Slices.SearchI
import Derived.ChangeOld
import Derived.OpenShut
import Derived.Deep.OwnRows
import Derived.Test.YthfkbbiaemmndaaGreatDoorRows
import Derived.Test.YthfkbbiaemmndaaGreatDoorProg
import Derived.Test.YthfkbbiaemmndaaGreatDoorG4
import Derived.Test.YthfkbbiaemmndaaGreatDoorG5
import Derived.Test.YthfkbbiaemmndaaGreatDoorG6
import Derived.Test.YthfkbbiaemmndaaGreatDoorG7
import Derived.Test.YthfkbbiaemmndaaGreatDoorG8
import Derived.Test.YthfkbbiaemmndaaGreatDoorG10
import Derived.Test.YthfkbbiaemmndaaGreatDoorG13
import Derived.Test.YthfkbbiaemmndaaGreatDoorG25
import Derived.Test.YthfkbbiaemmndaaGreatDoorG29
import Derived.Test.YthfkbbiaemmndaaGreatDoorG36
import Derived.Test.YthfkbbiaemmndaaGreatDoorG38
import Derived.Test.YthfkbbiaemmndaaGreatDoorG39
import Derived.Test.YthfkbbiaemmndaaGreatDoorG49
set_option linter.unusedVariables false
set_option linter.unusedSimpArgs false
set_option maxRecDepth 100000
set_option maxHeartbeats 16000000
namespace Go.Proofs.YthfkbbiaemmndaaGreatDoor
section
open Go.RowKit
theorem scrI_in {ts : List Ts} {E : List Fv → List Int} (t : Int) : ∀ (rows : List (List Fv)) (m : Int), (∀ rs ∈ rows, in64 (wN (decS ts rs) (E (decS ts rs)) t)) → 0 ≤ m → in64 m → 0 ≤ rows.foldl (fun m rs => max m (wN (decS ts rs) (E (decS ts rs)) t)) m ∧ in64 (rows.foldl (fun m rs => max m (wN (decS ts rs) (E (decS ts rs)) t)) m)
 | [], m, _, h0, h1 => ⟨h0, h1⟩
 | r :: rows, m, h, h0, h1 => by
   have hr := h r (by simp)
   obtain ⟨a, b⟩ := hr
   obtain ⟨c, d⟩ := h1
   rw [List.foldl_cons]
   exact scrI_in t rows _ (fun rs hrs => h rs (List.mem_cons_of_mem _ hrs)) (by omega) ⟨by omega, by omega⟩
theorem scrI_step {ts : List Ts} {E : List Fv → List Int} {rows : List (List Fv)} {k : Nat} {rs : List Fv} (h : rows[k]? = some rs) (t : Int) : scrI ts E (rows.take (k + 1)) t = max (scrI ts E (rows.take k) t) (wN (decS ts rs) (E (decS ts rs)) t) := by
 obtain ⟨hk, e⟩ := List.getElem?_eq_some_iff.1 h
 unfold scrI
 rw [List.take_succ_eq_append_getElem hk, List.foldl_append, e]
 rfl
theorem ws_new {w w1 : World} {lb : Nat} {A : Option Addr} {cap N : Nat} {T : TypeId} (hT : T = 42) (hU : T64 = 2) (hb : w1.rowIs lb 23 1 (fun _ => .slice A N cap)) (hl : Lt w w1) : WS lb (w1.heap.size + 1) w1.heap.size A cap N (fun _ => 0) ((w1.alloc (.cells (madeCells #[.int .i64 0] N) T64)).alloc (.cells #[.slice (some ⟨w1.heap.size, 0, none⟩) N N] T)) ∧ Lt w ((w1.alloc (.cells (madeCells #[.int .i64 0] N) T64)).alloc (.cells #[.slice (some ⟨w1.heap.size, 0, none⟩) N N] T)) := by
 subst hT
 have hlt := hb.lt
 refine ⟨⟨by omega, by omega, (hb.alloc _).alloc _, ?_, ?_, fun t ht => ⟨by decide, by decide⟩⟩, (hl.alloc (Below.size hl) _).alloc (by have := Below.size hl; simp; omega) _⟩
 ·have h := World.rowIs_alloc (w1.alloc (.cells (madeCells #[.int .i64 0] N) T64)) #[.slice (some ⟨w1.heap.size, 0, none⟩) N N] 42 (fun _ => .slice (some ⟨w1.heap.size, 0, none⟩) N N) (fun i hi => by
   match i, hi with
   | 0, _ => rfl
   | n + 1, hi => simp at hi)
  rw [World.size_alloc] at h
  exact h
 ·exact ((World.rowIs_made w1 (.int .i64 0) N T64).alloc _).congr fun t ht => rfl
theorem box_new (w : World) (A : Option Addr) (N cap : Nat) {T : TypeId} (hT : T = 23) : ∃ W, w.alloc (.cells #[.slice A N cap] T) = W ∧ W.rowIs w.heap.size 23 1 (fun _ => .slice A N cap) ∧ Lt w W := by
 subst hT
 exact ⟨_, rfl, World.rowIs_alloc w #[.slice A N cap] 23 (fun _ => .slice A N cap) (fun i hi => by
  match i, hi with
  | 0, _ => rfl
  | n + 1, hi => simp at hi), (Below.refl _ _).alloc (Nat.le_refl _) _⟩
theorem scripts_any {ts : List Ts} (hs : St ts) {E : List Fv → List Int} {SP : List Fv → List Spn} (hE : RunA ts E SP) : ScrC ts E := by
 intro w A B cap c rows hR hW hf hT
 obtain ⟨N, hN⟩ : ∃ N, ts.length = N := ⟨_, rfl⟩
 have HNN := Lib.hid (show ts.length = N from hN)
 have hN6 : N ≤ 6 := by rw [← hN]; exact hs.n6
 have KC := fun W (h : Lt w W) => checkAll_any A cap ts W (hR.later h)
 rw [hs.chk] at KC
 have KC := Lib.hid KC
 have HRW := Lib.hid (fun W (h : Lt w W) => hW.later h)
 have hle := hR.le
 have hmx := hR.mx
 have hwl := hW.le
 have hwm := hW.mx
 obtain ⟨M, hM⟩ : ∃ M, rows.length = M := ⟨_, rfl⟩
 have HM := Lib.hid hM
 have KD := Lib.hid (fun (rs : List Fv) (W : World) (R : Option Addr) (rc : Nat) (h : Lt w W) (hrs : rs ∈ rows) (hF : FRow W R rc rs) => srun_any A R cap rc ts rs (decS ts rs) (SP (decS ts rs)) (E (decS ts rs)) W (hR.later h) hF hs.chk rfl (fun V Aj cj h1 h2 => hE.run _ (hf rs hrs) V A cap Aj cj h1 h2))
 have HRN := Lib.hid (fun (rs : List Fv) (hrs : rs ∈ rows) => hE.rn _ (hf rs hrs))
 have hmk := make_64 N (by omega)
 have HIN : Hid (∀ t : Int, ∀ k : Nat, 0 ≤ scrI ts E (rows.take k) t ∧ in64 (scrI ts E (rows.take k) t)) := Lib.hid fun t k => by
  unfold scrI
  exact scrI_in t _ 0 (fun rs hrs => wn_in (hE.rn _ (hf rs (List.mem_of_mem_take hrs))).rsh t) (Int.le_refl _) ⟨by decide, by decide⟩
 unfold ScrP
 rw [hN] at KC hle KD ⊢
 rw [hM] at hwl ⊢
 clear hR hW hf hT hE hs
 go_enter Tryz.func16, Tryz.ntmps16
 go_upto_region 1 with (fail)
 obtain ⟨Wb, hWb, hbx, hlb⟩ := box_new w A N cap (T := 23) rfl
 rw [hWb]
 have cb0 := hbx.cell (i := 0) (by omega)
 have HBX := Lib.hid hbx
 have HLB := Lib.hid hlb
 obtain ⟨lb, hlb2⟩ : ∃ lb, w.heap.size = lb := ⟨_, rfl⟩
 rw [hlb2] at cb0 HBX ⊢
 have HGL := Lib.hid hlb2
 clear hbx hlb hWb hlb2
 go_upto_region 4 with (go_at_call 42; (with_reducible refine (KC.out _ HLB.out).mono ?_); rintro e w1 ⟨rfl, h⟩; have HB1 := Lib.hid (HBX.out.of_block (h.block lb HBX.out.lt)); have HL := Lib.hid (lt_step _ _ HLB.out h); clear h)
 clear cb0
 have cb1 := HB1.out.cell (i := 0) (by omega)
 go_upto_region 6 with (fail)
 have hnew := ws_new (w := w) (w1 := w1) (lb := lb) (A := A) (cap := cap) (N := N) (T := 42) rfl rfl HB1.out HL.out
 have hge : w.heap.size ≤ w1.heap.size := Below.size HL.out
 obtain ⟨W0, hW0⟩ : ∃ W0, (w1.alloc (.cells (madeCells #[.int .i64 0] N) T64)).alloc (.cells #[.slice (some ⟨w1.heap.size, 0, none⟩) N N] 42) = W0 := ⟨_, rfl⟩
 rw [hW0] at hnew ⊢
 have HS0 := Lib.hid hnew.1
 have HL := Lib.hid hnew.2
 have HGE := Lib.hid hge
 obtain ⟨wb, hwb⟩ : ∃ wb, w1.heap.size = wb := ⟨_, rfl⟩
 rw [hwb] at HS0 HGE ⊢
 obtain ⟨kb, hkb⟩ : ∃ kb, wb + 1 = kb := ⟨_, rfl⟩
 rw [hkb] at HS0 ⊢
 clear hnew hW0 hwb hkb hge hmk cb1
 go_wp2
 go_loopw [24] (fun i wr => ∃ k : Nat, k ≤ M ∧ i = .int .i64 (k : Int) ∧ Hid (WS lb kb wb A cap N (fun t : Nat => scrI ts E (rows.take k) (t : Int)) wr) ∧ Hid (Lt w wr)) (fun i _ => M - (intOf i).toNat)
 case atStart => exact ⟨0, Nat.zero_le _, rfl, HS0, HL⟩
 case round =>
  obtain ⟨k, hk, rfl, HS1, HL⟩ := hrel
  by_cases hlt : k < M
  ·obtain ⟨rs, hrs⟩ : ∃ rs, rows[k]? = some rs := ⟨_, List.getElem?_eq_getElem (by rw [HM.out]; exact hlt)⟩
   have hmem := List.mem_of_getElem? hrs
   obtain ⟨b, o, R, rc, rfl, hbl, hcell, hFR⟩ := (HRW.out wr HL.out).at_ k rs hrs
   have hi0 : (0 : Int) ≤ (k : Int) := by omega
   have hi1 : (k : Int) < (M : Int) := by omega
   have KD1 := KD.out rs wr R rc HL.out hmem hFR
   have RN := HRN.out rs hmem
   have HST := Lib.hid (fun t : Int => scrI_step (ts := ts) (E := E) hrs t)
   obtain ⟨js, hjs⟩ : ∃ js, decS ts rs = js := ⟨_, rfl⟩
   rw [hjs] at KD1 RN
   have HST : Hid (∀ t : Int, scrI ts E (rows.take (k + 1)) t = max (scrI ts E (rows.take k) t) (wN js (E js) t)) := Lib.hid (by rw [← hjs]; exact HST.out)
   obtain ⟨en, hen⟩ : ∃ en, E js = en := ⟨_, rfl⟩
   rw [hen] at KD1 RN HST
   have HI0 := Lib.hid (fun t : Nat => (HIN.out (t : Int) k).1)
   have KD1 := Lib.hid KD1
   have HRS := Lib.hid RN.rsh
   have HGB := Lib.hid (show wb < wr.heap.size from HS1.out.row.lt)
   have HKM := Lib.hid hlt
   have cb2 := HS1.out.set.cell (i := 0) (by omega)
   obtain ⟨nr, hnr⟩ : ∃ nr, rs.length = nr := ⟨_, rfl⟩
   rw [hnr] at KD1 hcell
   obtain ⟨J, hJ⟩ : ∃ J, js.length = J := ⟨_, rfl⟩
   obtain ⟨EN, hEN⟩ : ∃ EN, en.length = EN := ⟨_, rfl⟩
   have KK := Lib.hid (fun (W : World) (R D : Option Addr) (rc d : Nat) (h1 : Lt w W) (h2 : WS lb kb wb A cap N (fun t : Nat => scrI ts E (rows.take k) (t : Int)) W) (h3 : FRow W R rc js) (h4 : CRow W D d en) (h5 : js ≠ [] → ∃ b o, R = some ⟨b, o, none⟩ ∧ b ≠ wb) (h6 : en ≠ [] → ∀ a, D = some a → a.block ≠ wb) => keep_any lb kb wb cap N A R D rc d _ js en w W h1 HGE.out h2 h3 h4 h5 h6 HRS.out HI0.out hle hmx (by omega))
   unfold DrnP at KD1
   rw [hJ, hEN] at KD1 KK
   clear hrs hmem hFR hjs hen hnr RN hlt hJ hEN
   go_wp2_with (first
    | (go_at_call 45; (with_reducible refine KD1.out.mono ?_); rintro e w2 ⟨B2, c2, D3, d3, rfl, hF2, hE3, hfr, hf3, h⟩; have KK2 := Lib.hid (KK.out w2 _ _ _ _ (lt_step _ _ HL.out h) (HS1.out.later h) hF2 hE3 (fun hh => by obtain ⟨q, o', e1, e2⟩ := hfr hh; exact ⟨q, o', e1, by have := HGB.out; omega⟩) (fun hh a ha => by have := hf3 hh a ha; have := HGB.out; omega)); clear h hF2 hE3 hfr hf3)
    | (go_at_call 43; (with_reducible refine KK2.out.mono ?_); rintro e w6 ⟨rfl, hS6, h6⟩; have HS6 := Lib.hid hS6; have HL6 := Lib.hid h6; clear hS6 h6)
    | fail)
   go_roundw
   case rel => exact ⟨k + 1, by have := HKM.out; omega, by go_num, Lib.hid (HS6.out.congr fun t ht => by unfold kpF; rw [if_pos ht, HST.out]), HL6⟩
   case measure => have := HKM.out; simp [intOf]; omega
  ·obtain rfl : k = M := by omega
   have hfull : rows.take k = rows := List.take_of_length_le (by rw [hM]; exact Nat.le_refl _)
   rw [hfull] at HS1
   have cb := HS1.out.box.cell (i := 0) (by omega)
   have HIN2 := Lib.hid (fun t : Int => HIN.out t k)
   go_wp2
   go_ret
   refine ⟨some ⟨wb, 0, none⟩, N, rfl, ?_, HL.out⟩
   have hl : (scrL ts E rows).length = N := by unfold scrL; rw [List.length_map, List.length_range]; exact HNN.out
   refine ⟨by rw [hl]; exact Nat.le_refl _, by omega, fun x hx => ?_, fun i x hx => ?_⟩
   ·unfold scrL at hx
    obtain ⟨t, ht, rfl⟩ := List.mem_map.1 hx
    have h := (HIN2.out (t : Int)).2
    rw [hfull] at h
    exact h
   ·unfold scrL at hx
    rw [List.getElem?_map] at hx
    obtain ⟨q, hq, rfl⟩ := Option.map_eq_some_iff.1 hx
    obtain ⟨h1, h2⟩ := List.getElem?_eq_some_iff.1 hq
    rw [List.getElem_range] at h2
    rw [List.length_range, HNN.out] at h1
    subst h2
    exact ⟨wb, 0, rfl, by rw [Nat.zero_add]; exact HS1.out.row.cell h1⟩
end
end Go.Proofs.YthfkbbiaemmndaaGreatDoor
