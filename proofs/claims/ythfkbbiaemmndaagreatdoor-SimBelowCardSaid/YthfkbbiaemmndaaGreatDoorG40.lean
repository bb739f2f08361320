/- Texts about the program, one after the other: YWLa. -/
import Derived.WalkKit
import Derived.ProofKit
import Derived.Handy
import Derived.Lib.Hide
import Derived.Deep.MidRow
import Derived.Deep.QuietTactic
import Derived.BigQuiet
import Derived.Deep.RegionHeld3
import Derived.Laws.Externs
import Derived.RangeFuncBox
import Derived.Deep.CutBlock
import Derived.Deep.LoopGhost
import Derived.WalkMore
import Derived.OrdersIn
import Derived.Stop.RegionWithIn
import Derived.Deep.RegionLaw
import Derived.Laws.OwnMore
import Derived.Deep.CutRange
import Derived.Deep.Quiet
import Derived.Deep.RegionHeld
import Derived.Laws.AppendOwn
import Derived.Below
import Derived.LaidMore
import Derived.Laws.CopyOwn
import Derived.IntWalk
import Derived.OwnWalk
import Derived.BigRegion
import Derived.Deep.DrawnRows
import Derived.Deep.RegionHeldLaw
import Derived.LoopIn
import Derived.LoopNIn
import Derived.TacticsInMore
import Derived.OwnWalkIn
import Derived.RangeFuncNested
import Derived.RangeFuncBound
import Derived.RangeFuncCalls
import Derived.RangeFuncLeaves
import Derived.RangeFuncWrites
import Derived.Shelf.Abstract
import Derived.StillTailTactics
import Derived.Lib.SliceRun
import Derived.Deep.AppendSrc
import Derived.Deep.Upon
import Derived.Deep.DeepAppendWide
import Derived.Sort.LoopGhostIn
import Derived.Laws.MakeOwn
import Derived.Shelf.SlGeneric
import Derived.Shelf.Spec.SlicesGrow
import Derived.Ground.Names8Prog
import Derived.Laws.AppendOwnNone
import Derived.Shelf.SlSortCmp.Whole1
import Derived.Ground.SlsfProg
import Derived.Ground.SlgnProg
import Derived.Laws.ShiftsVarLaws
import Derived.Outline
import Derived.Laws.Bits128
import Derived.Deep.RegionWith
import Derived.Shelf.RegionOpen
import Derived.Laws.BytesString
import Derived.RangeFuncRecord
import Derived.MapKept
import Derived.Maps.AppendAt
import Derived.Shelf.SlSortCmp.NoneTotal
import Derived.Laws.Bits64b
import Derived.Shelf.Small.Bits
import Derived.Shelf.Small.Strs
import Derived.Shelf.Small.Wraps
import Derived.Shelf.Strconv.Itoa0
import Derived.Shelf.LaysM
import Derived.Shelf.Strconv.Clone
import Derived.Shelf.Strings.Search1
import Derived.Shelf.Bits.Mul64
import Derived.Ground.Names2Prog
import Derived.Shelf.Slices.SearchI
import Derived.ChangeOld
import Derived.OpenShut
import Derived.Test.YthfkbbiaemmndaaGreatDoorRows
import Derived.Test.YthfkbbiaemmndaaGreatDoorProg
import Derived.Test.YthfkbbiaemmndaaGreatDoorG4
import Derived.Test.YthfkbbiaemmndaaGreatDoorG6
import Derived.Test.YthfkbbiaemmndaaGreatDoorG10
import Derived.Test.YthfkbbiaemmndaaGreatDoorG12
import Derived.Test.YthfkbbiaemmndaaGreatDoorG13
import Derived.Test.YthfkbbiaemmndaaGreatDoorG23
import Derived.Test.YthfkbbiaemmndaaGreatDoorG25
import Derived.Test.YthfkbbiaemmndaaGreatDoorG29
import Derived.Test.YthfkbbiaemmndaaGreatDoorG36
import Derived.Test.YthfkbbiaemmndaaGreatDoorG39
set_option linter.unusedVariables false
set_option linter.unusedSimpArgs false
set_option maxRecDepth 100000
set_option maxHeartbeats 16000000
namespace Go.Proofs.YthfkbbiaemmndaaGreatDoor
section
open Go.RowKit
theorem encode_row (A R : Option Addr) (cap rc : Nat) (ts : List Ts) (js rs : List Fv) (w : World) (hT : Row w A cap ts) (hR : FRow w R rc js) (he : encS ts js = some rs) :
  Calls Tryz.prog 15 #[.slice A ts.length cap, .slice R js.length rc] w fun e w' => ∃ B c, e = .returned (.tuple #[.slice B rs.length c, .bool true]) ∧ FRow w' B c rs ∧ Below w.heap.size w w' :=
 (encode_any A R cap rc ts js w hT hR).mono fun e w' h => by
  unfold EncodePost at h
  rw [he] at h
  obtain ⟨⟨v, gs, rfl, hf, hm⟩, hb⟩ := h
  obtain ⟨B, c, rfl, hF⟩ := hf.frow
  rw [hm] at hF
  have hl : gs.length = rs.length := by rw [← hm, List.length_map]
  exact ⟨B, c, by rw [hl], hF, hb⟩
theorem scrit_row (A : Option Addr) (cap : Nat) (l : List Ts) (k : Nat) (y : Ts) (w : World) (hR : Row w A cap l) (hs : St l) (hy : l[k]? = some y) (hT : Tab w) :
  Calls Tryz.prog 14 #[.slice A l.length cap, .int .i64 (k : Int)] w fun e w' => ∃ (b1 o1 c2 : Nat), e = .returned (.tuple #[.slice (some ⟨b1, o1, none⟩) (sceneS l (k : Int)).length c2, .int .i64 ((headS l (k : Int)).length : Int), .int .i64 0]) ∧ FRow w' (some ⟨b1, o1, none⟩) c2 (sceneS l (k : Int)) ∧ Below w.heap.size w w' := by
 obtain ⟨b, o, rfl⟩ := row_at hR (List.getElem?_eq_some_iff.1 hy).1
 exact scrit_sm b o cap l k y w hR ((st_sms hs (k : Int)).sch (by omega) (isB_at hs.chk hy) hy) hT
end
end Go.Proofs.YthfkbbiaemmndaaGreatDoor
