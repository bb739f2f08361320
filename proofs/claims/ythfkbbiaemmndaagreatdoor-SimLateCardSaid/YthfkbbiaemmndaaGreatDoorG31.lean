/- Texts about the program, one after the other: Row, NBase, NRefs, NSums, DMay, DRg, DAt, DBlk. -/
import Derived.Deep.Quiet
import Derived.Deep.MidRow
import Derived.WalkKit
import Derived.ProofKit
import Derived.Handy
import Derived.Lib.Hide
import Derived.Deep.QuietTactic
import Derived.BigQuiet
import Derived.Deep.RegionHeld3
import Derived.Laws.Externs
import Derived.RangeFuncBox
import Derived.Deep.CutBlock
import Derived.RangeFuncNested
import Derived.RangeFuncBound
import Derived.RangeFuncCalls
import Derived.RangeFuncLeaves
import Derived.RangeFuncWrites
import Derived.Shelf.Abstract
import Derived.OwnWalkIn
import Derived.TacticsInMore
import Derived.LoopNIn
import Derived.LoopIn
import Derived.Shelf.Small.Bits
import Derived.Shelf.Small.Strs
import Derived.Shelf.Small.Wraps
import Derived.Shelf.Strconv.Itoa0
import Derived.Shelf.LaysM
import Derived.Shelf.Strconv.Clone
import Derived.Shelf.Strings.Search1
import Derived.Shelf.Bits.Mul64
import Derived.Ground.Names2Prog
import Derived.Shelf.Slices.SearchI
import Derived.Maps.AppendAt
import Derived.Laws.AppendOwn
import Derived.Test.YthfkbbiaemmndaaGreatDoorRows
import Derived.Test.YthfkbbiaemmndaaGreatDoorProg
import Derived.Deep.LoopGhost
import Derived.WalkMore
import Derived.Laws.BytesString
import Derived.RangeFuncRecord
import Derived.MapKept
import Derived.Below
import Derived.ChangeOld
import Derived.OpenShut
import Derived.LaidMore
import Derived.Laws.AppendOwnNone
import Derived.Deep.RegionLaw
import Derived.Laws.OwnMore
import Derived.Deep.CutRange
import Derived.Laws.CopyOwn
import Derived.IntWalk
import Derived.OwnWalk
import Derived.BigRegion
import Derived.Deep.DrawnRows
import Derived.Deep.RegionHeldLaw
import Derived.StillTailTactics
import Derived.Lib.SliceRun
import Derived.Deep.AppendSrc
import Derived.Deep.Upon
import Derived.Deep.DeepAppendWide
import Derived.OrdersIn
import Derived.Sort.LoopGhostIn
import Derived.Laws.ShiftsVarLaws
import Derived.Outline
import Derived.Laws.Bits128
import Derived.Deep.RegionWith
import Derived.Shelf.RegionOpen
import Derived.Stop.RegionWithIn
import Derived.Test.YthfkbbiaemmndaaGreatDoorG2
import Derived.Test.YthfkbbiaemmndaaGreatDoorG3
import Derived.Test.YthfkbbiaemmndaaGreatDoorG4
import Derived.Test.YthfkbbiaemmndaaGreatDoorG5
import Derived.Test.YthfkbbiaemmndaaGreatDoorG6
import Derived.Test.YthfkbbiaemmndaaGreatDoorG7
import Derived.Test.YthfkbbiaemmndaaGreatDoorG9
import Derived.Test.YthfkbbiaemmndaaGreatDoorG10
import Derived.Test.YthfkbbiaemmndaaGreatDoorG11
import Derived.Test.YthfkbbiaemmndaaGreatDoorG29
set_option linter.unusedVariables false
set_option linter.unusedSimpArgs false
set_option maxRecDepth 100000
set_option maxHeartbeats 16000000
namespace Go.Proofs.YthfkbbiaemmndaaGreatDoor
section
open Go.RowKit
theorem TAt.alloc {w : World} {b o : Nat} {x : Ts} (h : TAt w b o x) (ob : Obj) : TAt (w.alloc ob) b o x := h.later ((Below.refl _ _).alloc (Nat.le_refl _) _)
end
section
open Go.RowKit
theorem run_add64f (a b : Int) (ha : 0 ≤ a) (hb : 0 ≤ b) (w : World) :
  (callFunc 152 #[.int .u64 a, .int .u64 b, .int .u64 0]).run Tryz.prog w =
   .ok (.value (.tuple #[.int .u64 ((a + b) % 18446744073709551616), .int .u64 ((a + b) / 18446744073709551616)])) w := by
 rw [run_callFunc_extern Tryz.func152 (by kernel_rfl) (by kernel_rfl) (by kernel_rfl) (e := add64Entry) (by kernel_rfl), run_add64 a b 0 ha hb (by omega) (by omega)]
 simp only [Result.andThen, Int.add_zero]
theorem add_any (a b : Int) (ha : 0 ≤ a) (ha1 : a ≤ 18446744073709551615) (hb : 0 ≤ b) (hb1 : b ≤ 18446744073709551615) (w : World) :
  Calls Tryz.prog 133 #[.int .u64 a, .int .u64 b] w fun e w' => e = .returned (.tuple #[.int .u64 (addNN a b), .bool (addB a b)]) ∧ w = w' := by
 have hr := run_add64f a b ha hb
 by_cases h : a + b ≤ 18446744073709551615
 ·have e1 : addNN a b = a + b := by simp [addNN, h]
  have e2 : addB a b = true := by simp [addB, h]
  have q1 : (a + b) / 18446744073709551616 = 0 := by omega
  have q2 : (a + b) % 18446744073709551616 = a + b := by omega
  rw [e1, e2]
  rw [q1, q2] at hr
  clear q1 q2 e1 e2
  go_enter Tryz.func133, Tryz.ntmps133
  go_wp2
  go_ret2
  exact ⟨rfl, rfl⟩
 ·have e1 : addNN a b = 0 := by simp [addNN, h]
  have e2 : addB a b = false := by simp [addB, h]
  have q1 : (a + b) / 18446744073709551616 = 1 := by omega
  rw [e1, e2]
  rw [q1] at hr
  clear q1 e1 e2
  go_enter Tryz.func133, Tryz.ntmps133
  go_wp2
  go_ret2
  exact ⟨rfl, rfl⟩
theorem mul64_any (a b : Int) (ha : 0 ≤ a) (ha1 : a ≤ 18446744073709551615) (hb : 0 ≤ b) (hb1 : b ≤ 18446744073709551615) (w : World) :
  Calls Tryz.prog 116 #[.int .u64 a, .int .u64 b] w fun e w' => e = .returned (.tuple #[.int .u64 (a * b / 18446744073709551616), .int .u64 (a * b % 18446744073709551616)]) ∧ w = w' := by
 obtain ⟨x, rfl⟩ := Int.eq_ofNat_of_zero_le ha
 obtain ⟨y, rfl⟩ := Int.eq_ofNat_of_zero_le hb
 refine (Tryz.bits_Mul64 x y (by omega) (by omega) w).mono fun e w' ⟨he, hw⟩ => ⟨?_, hw.symm⟩
 rw [he, ← Int.natCast_mul]
 rfl
theorem mul_any (a b : Int) (ha : 0 ≤ a) (ha1 : a ≤ 18446744073709551615) (hb : 0 ≤ b) (hb1 : b ≤ 18446744073709551615) (w : World) :
  Calls Tryz.prog 154 #[.int .u64 a, .int .u64 b] w fun e w' => e = .returned (.tuple #[.int .u64 (mulN a b), .bool (mulB a b)]) ∧ w = w' := by
 have hc := mul64_any a b ha ha1 hb hb1 w
 have hp := mul_nonneg' a b ha hb
 unfold mulN mulB
 generalize a * b = p at *
 by_cases h : p ≤ 18446744073709551615
 ·have q1 : p / 18446744073709551616 = 0 := by omega
  have q2 : p % 18446744073709551616 = p := by omega
  rw [if_pos h, decide_eq_true h]
  rw [q1, q2] at hc
  clear q1 q2
  have H := Lib.hid hc
  clear hc
  go_enter Tryz.func154, Tryz.ntmps154
  go_wp2_with (go_at_call 116; refine H.out.mono ?_; rintro e w' ⟨rfl, rfl⟩)
  go_ret2
  exact ⟨rfl, rfl⟩
 ·rw [if_neg h, decide_eq_false h]
  have q1 : (p / 18446744073709551616 == 0) = false := by simp; omega
  have H := Lib.hid hc
  clear hc
  go_enter Tryz.func154, Tryz.ntmps154
  go_wp2_with (go_at_call 116; refine H.out.mono ?_; rintro e w' ⟨rfl, rfl⟩)
  go_ret2
  exact ⟨rfl, rfl⟩
theorem times_any (a b : Int) (ha : 0 ≤ a) (ha1 : a ≤ 18446744073709551615) (hb : 0 ≤ b) (hb1 : b ≤ 18446744073709551615) (w : World) :
  Calls Tryz.prog 135 #[.int .u64 a, .int .u64 b] w fun e w' => e = .returned (.int .u64 (endN (mulB a b) (mulN a b))) ∧ w = w' := by
 have hc := mul_any a b ha ha1 hb hb1 w
 generalize mulN a b = n at *
 generalize mulB a b = k at *
 have H := Lib.hid hc
 clear hc
 cases k
 all_goals
  simp only [endN]
  go_enter Tryz.func135, Tryz.ntmps135
  go_wp2_with (go_at_call 154; refine H.out.mono ?_; rintro e w' ⟨rfl, rfl⟩)
  go_ret
  exact ⟨rfl, rfl⟩
end
section
open Go.RowKit
theorem ceil_any (a b : Int) (ha : 0 ≤ a) (ha1 : a ≤ 18446744073709551615) (hb : 0 ≤ b) (hb1 : b ≤ 18446744073709551615) (w : World) :
  Calls Tryz.prog 155 #[.int .u64 a, .int .u64 b] w fun e w' => e = .returned (.tuple #[.int .u64 (ceilN a b), .bool (ceilB b)]) ∧ w = w' := by
 by_cases h0 : b = 0
 ·subst h0
  have e1 : ceilN a 0 = 0 := by simp [ceilN]
  have e2 : ceilB 0 = false := by simp [ceilB]
  rw [e1, e2]
  clear e1 e2
  go_enter Tryz.func155, Tryz.ntmps155
  go_wp2
  go_ret2
  exact ⟨rfl, rfl⟩
 ·have hp : 0 < b := by omega
  have hz : (b == 0) = false := by simp; omega
  have hq := quo_le a b ha hb
  have e2 : ceilB b = true := by simp [ceilB, h0]
  have hm := Int.emod_nonneg a h0
  by_cases hr : a % b = 0
  ·have e1 : ceilN a b = a / b := by simp [ceilN, h0, hr]
   have hrb : (a % b == 0) = true := by simp [hr]
   rw [e1, e2]
   clear e1 e2 hr h0
   go_enter Tryz.func155, Tryz.ntmps155
   go_wp2
   go_ret2
   exact ⟨rfl, rfl⟩
  ·have e1 : ceilN a b = a / b + 1 := by simp [ceilN, h0, hr]
   have hrb : (a % b == 0) = false := by simp; exact hr
   have hl := quo_lt a b ha ha1 hp hr
   rw [e1, e2]
   clear e1 e2 hr h0
   go_enter Tryz.func155, Tryz.ntmps155
   go_wp2
   go_ret2
   exact ⟨rfl, rfl⟩
theorem satSum_top : ∀ (l : List Int), (∀ n ∈ l, 0 ≤ n) → satSum 18446744073709551615 l = 18446744073709551615
 | [], _ => rfl
 | n :: l, h => by
   have h0 := h n (by simp)
   have : satAdd 18446744073709551615 n = 18446744073709551615 := by unfold satAdd; split <;> omega
   rw [satSum, List.foldl_cons, this]
   exact satSum_top l fun m hm => h m (by simp [hm])
theorem satSum_over (s : Int) (zs : List Int) (k : Nat) (hn : ∀ n ∈ zs, 0 ≤ n) (h : k < zs.length) (ho : ¬ satSum s (zs.take k) + zs.getD k 0 ≤ 18446744073709551615) : satSum s zs = 18446744073709551615 := by
 have e : zs = zs.take (k + 1) ++ zs.drop (k + 1) := (List.take_append_drop _ _).symm
 have : satSum s zs = satSum (satSum s (zs.take (k + 1))) (zs.drop (k + 1)) := by
  conv => lhs; rw [e]
  rw [satSum, List.foldl_append]; rfl
 rw [this, satSum_snoc s zs k h, satAdd, if_neg ho]
 exact satSum_top _ fun n hm => hn n (List.mem_of_mem_drop hm)
theorem sum_any (first : Int) (x : Addr) (len cap : Nat) (zs : List Int) (h0 : 0 ≤ first) (h1 : first ≤ 18446744073709551615) (hlen : zs.length = len) (hcap : len ≤ cap) (hmax : cap ≤ maxLen)
  (w : World) (hc : ∀ i, i < len → w.cell? (x.add i) = some (.int .u64 (zs.getD i 0))) (hz : ∀ n ∈ zs, 0 ≤ n ∧ n ≤ 18446744073709551615) :
  Calls Tryz.prog 113 #[.int .u64 first, .slice (some x) len cap] w fun e w' => e = .returned (.int .u64 (satSum first zs)) ∧ w = w' := by
 unfold maxLen at hmax
 have HC := Lib.hid hc
 have HL := Lib.hid hlen
 have HZ := Lib.hid hz
 clear hc hlen hz
 go_enter Tryz.func113, Tryz.ntmps113
 go_wp2
 go_loop [5, 13] (fun s i => ∃ k : Nat, k ≤ len ∧ i = .int .i64 k ∧ s = .int .u64 (satSum first (zs.take k))) (fun _ i => len - (intOf i).toNat)
 case atStart => exact ⟨0, Nat.zero_le _, rfl, rfl⟩
 case round =>
  obtain ⟨k, hk, rfl, rfl⟩ := hrel
  have hnn : ∀ n ∈ zs.take k, 0 ≤ n := fun n hn => (HZ.out n (List.mem_of_mem_take hn)).1
  have hb := satSum_bd (zs.take k) first h0 h1 hnn
  clear hnn
  by_cases hlt : k < len
  ·have hcell := HC.out k hlt
   have hkz : k < zs.length := by rw [HL.out]; exact hlt
   have hzb : 0 ≤ zs.getD k 0 ∧ zs.getD k 0 ≤ 18446744073709551615 := HZ.out _ (by rw [List.getD_eq_getElem?_getD, List.getElem?_eq_getElem hkz]; exact List.getElem_mem _)
   have HS := Lib.hid (satSum_snoc first zs k hkz)
   have HO := Lib.hid (satSum_over first zs k (fun n hn => (HZ.out n hn).1) hkz)
   have hadd := add_any (satSum first (zs.take k)) (zs.getD k 0) hb.1 hb.2 hzb.1 hzb.2 w
   clear hkz
   generalize zs.getD k 0 = z at *
   generalize satSum first (zs.take k) = s at *
   by_cases ho : s + z ≤ 18446744073709551615
   ·have e1 : addNN s z = s + z := by simp [addNN, ho]
    have e2 : addB s z = true := by simp [addB, ho]
    rw [e1, e2] at hadd
    have HA := Lib.hid hadd
    clear hadd e1 e2
    go_wp2_with (go_at_call 133; refine HA.out.mono ?_; rintro e w' ⟨rfl, rfl⟩)
    go_round
    case rel => exact ⟨k + 1, by omega, by go_num, by rw [HS.out, satAdd, if_pos ho]⟩
    case measure => simp [intOf]; omega
   ·have e1 : addNN s z = 0 := by simp [addNN, ho]
    have e2 : addB s z = false := by simp [addB, ho]
    rw [e1, e2] at hadd
    have HA := Lib.hid hadd
    clear hadd e1 e2
    go_wp2_with (go_at_call 133; refine HA.out.mono ?_; rintro e w' ⟨rfl, rfl⟩)
    go_ret
    exact ⟨ret_u64 (HO.out ho).symm, rfl⟩
  ·go_wp2
   go_ret
   exact ⟨ret_u64 (by rw [List.take_of_length_le (by rw [HL.out]; omega)]), rfl⟩
end
section
open Go.RowKit
theorem satSum_head (n : Int) (l : List Int) (h1 : n ≤ 18446744073709551615) : satSum 0 (n :: l) = satSum n l := by
 rw [satSum, List.foldl_cons, show satAdd 0 n = n from by simp [satAdd, h1]]; rfl
theorem Nums.later {w w1 : World} {v : Value} {zs : List Int} (h : Nums w v zs) (hb : Below w.heap.size w w1) : Nums w1 v zs := by
 rcases h with h | ⟨x, cap, hv, hle, hmax, hc⟩
 ·exact .inl h
 ·exact .inr ⟨x, cap, hv, hle, hmax, fun i hi => by rw [hb.cell (World.block_lt_of_cell? w _ (hc i hi))]; exact hc i hi⟩
theorem sum_nil (first : Int) (w : World) : Calls Tryz.prog 113 #[.int .u64 first, .slice none 0 0] w fun e w' => e = .returned (.int .u64 first) ∧ w = w' := by
 go_enter Tryz.func113, Tryz.ntmps113
 go_wp2
 go_rounds 1
 go_ret
 exact ⟨rfl, rfl⟩
theorem sum_nums (first : Int) (v : Value) (zs : List Int) (h0 : 0 ≤ first) (h1 : first ≤ 18446744073709551615) (w : World) (hv : Nums w v zs) (hz : ∀ n ∈ zs, 0 ≤ n ∧ n ≤ 18446744073709551615) :
  Calls Tryz.prog 113 #[.int .u64 first, v] w fun e w' => e = .returned (.int .u64 (satSum first zs)) ∧ w = w' := by
 rcases hv with ⟨rfl, rfl⟩ | ⟨x, cap, rfl, hle, hmax, hc⟩
 ·exact sum_nil first w
 ·exact sum_any first x zs.length cap zs h0 h1 rfl hle hmax w hc hz
end
section
open Go.RowKit
theorem dmay_any (A : Option Addr) (cap : Nat) (l : List Ts) (i : Int) (w : World) (hR : Row w A cap l) (hi : in64 i) :
  Calls Tryz.prog 112 #[.slice A l.length cap, .int .i64 i] w fun e w' => e = .returned (.bool (isB l i)) ∧ Below w.heap.size w w' := by
 have K := Lib.hid (checkAll_any A cap l w hR)
 have HE : Hid (isB l i = (decide ((chkAll l).2 = 0) && (decide (0 ≤ i) && decide (i < (l.length : Int))))) := Lib.hid rfl
 have hmx := Nat.le_trans hR.le hR.mx
 generalize isB l i = b at *
 generalize (chkAll l).1 = a at *
 generalize (chkAll l).2 = ce at *
 generalize l.length = N at *
 clear hR
 by_cases h1 : i < 0
 ·have u1 : decide (i < 0) = true := decide_eq_true h1
  have hb : b = false := by rw [HE.out, decide_eq_false (show ¬ 0 ≤ i by omega)]; simp
  rw [hb]
  clear hb HE
  go_enter Tryz.func112, Tryz.ntmps112
  go_wp2
  go_ret
  exact ⟨rfl, Below.refl _ _⟩
 ·have u1 : decide (i < 0) = false := decide_eq_false h1
  by_cases h2 : i < (N : Int)
  ·have u2 : decide (i ≥ (N : Int)) = false := decide_eq_false (by omega)
   have u2' : decide ((N : Int) ≤ i) = false := decide_eq_false (by omega)
   have hb : b = (ce == 0) := by rw [HE.out, decide_eq_true (show 0 ≤ i by omega), decide_eq_true h2, Bool.and_true, Bool.and_true]; rfl
   rw [hb]
   clear hb HE
   go_enter Tryz.func112, Tryz.ntmps112
   go_wp2_with (go_at_call 42; (with_reducible refine K.out.mono ?_); rintro e w1 ⟨rfl, h⟩)
   go_ret
   exact ⟨rfl, h⟩
  ·have u2 : decide (i ≥ (N : Int)) = true := decide_eq_true (by omega)
   have u2' : decide ((N : Int) ≤ i) = true := decide_eq_true (by omega)
   have hb : b = false := by rw [HE.out, decide_eq_false h2]; simp
   rw [hb]
   clear hb HE
   go_enter Tryz.func112, Tryz.ntmps112
   go_wp2
   go_ret
   exact ⟨rfl, Below.refl _ _⟩
def relSD (x : Ts) (v : Int) : Int := if v = 0 then 0 else oftS x v
theorem one_nums (W V : World) (a : Int) (hc : ∀ i u, V.cell? ⟨W.heap.size, i, none⟩ = some u ↔ (#[Value.int .u64 a] : Array Value)[i]? = some u) : Nums V (.slice (some ⟨W.heap.size, 0, none⟩) 1 1) [a] := by
 refine .inr ⟨⟨W.heap.size, 0, none⟩, 1, rfl, by simp, by unfold maxLen; omega, fun i hi => ?_⟩
 rw [add_none, Nat.zero_add]
 match i, hi with
 | 0, _ => exact (hc 0 _).2 rfl
theorem one_new (W : World) (a : Int) : Nums (W.alloc (.cells #[.int .u64 a] 80)) (.slice (some ⟨W.heap.size, 0, none⟩) 1 1) [a] :=
 one_nums W _ a fun i u => by rw [cell_of_row _ _ i _ _ _ (heap_alloc_new W _)]
structure RelD (x : Ts) : Prop where
 t : 1 ≤ x.t ∧ x.t ≤ 2147483647
 j : 0 ≤ x.j ∧ x.j ≤ 2147483647
theorem TsOk.rel {x : Ts} (h : TsOk x) : RelD x := ⟨⟨h.t0, h.t1⟩, h.j0, h.j1⟩
theorem rel_u {x : Ts} {w : Int} (hx : RelD x) (hw : U w) : U (oftS x w) := ceil_u (satAdd_u hw.1 hx.j.1) hx.t.1
theorem relS_u {x : Ts} {w : Int} (hx : RelD x) (hw : U w) : U (relSD x w) := by
 unfold relSD
 split
 ·exact ⟨by decide, by decide⟩
 ·exact rel_u hx hw
theorem rel_any (x : Ts) (v : Int) (w : World) (hx : RelD x) (hv : U v) :
  Calls Tryz.prog 136 #[tsV x, .int .u64 v] w fun e w' => e = .returned (.int .u64 (relSD x v)) ∧ Below w.heap.size w w' := by
 obtain ⟨⟨t0, t1⟩, j0, j1⟩ := hx
 obtain ⟨v0, v1⟩ := hv
 have hb : Below w.heap.size w (w.alloc (.cells #[.string x.n, .int .i64 x.c, .int .i64 x.t, .int .i64 x.d, .int .i64 x.j, .int .i64 x.q, .int .i64 x.p] 26)) := (Below.refl _ _).alloc (Nat.le_refl _) _
 by_cases h0 : v = 0
 ·have e : relSD x v = 0 := by unfold relSD; rw [if_pos h0]
  rw [e]
  subst h0
  clear e
  go_enter Tryz.func136, Tryz.ntmps136
  go_wp2
  go_ret
  exact ⟨rfl, hb⟩
 ·have e : relSD x v = ceilN (satSum v [x.j]) x.t := by unfold relSD; rw [if_neg h0]; rfl
  rw [e]
  have q0 : (v == 0) = false := by simpa using h0
  have su := satAdd_u v0 j0
  have hw1 : IntKind.u64.wrap x.j = x.j := by rw [IntKind.wrap_u64]; omega
  have hw2 : IntKind.u64.wrap x.t = x.t := by rw [IntKind.wrap_u64]; omega
  have KS := Lib.hid (fun V u (hu : Nums V u [x.j]) => sum_nums v u [x.j] v0 v1 V hu (by
   intro n hn
   obtain rfl := List.mem_singleton.1 hn
   omega))
  have KC := Lib.hid (fun V => ceil_any (satSum v [x.j]) x.t su.1 su.2 (by omega) (by omega) V)
  have HN := Lib.hid (fun W => one_new W x.j)
  have HT := Lib.hid (TAt.new w x)
  have HB := Lib.hid hb
  generalize satSum v [x.j] = s at *
  generalize ceilN s x.t = r at *
  clear e hb h0
  go_enter Tryz.func136, Tryz.ntmps136
  go_upto_region 3 with (fail)
  obtain ⟨W0, hW0⟩ : ∃ W0, w.alloc (.cells #[.string x.n, .int .i64 x.c, .int .i64 x.t, .int .i64 x.d, .int .i64 x.j, .int .i64 x.q, .int .i64 x.p] 26) = W0 := ⟨_, rfl⟩
  rw [hW0] at HT HB
  try rw [hW0]
  have c2 := HT.out.c2
  have c4 := HT.out.c4
  have c2a := (HT.out.alloc (.cells #[.int .u64 x.j] 80)).c2
  have c4a := (HT.out.alloc (.cells #[.int .u64 x.j] 80)).c4
  have HE1 : Hid (∀ O, Below w.heap.size w (W0.alloc O)) := Lib.hid (fun O => HB.out.trans (((Below.refl W0.heap.size W0).alloc (Nat.le_refl _) O).mono (Below.size HB.out)))
  have HE2 : Hid (∀ O, w.heap.size ≤ (W0.alloc O).heap.size) := Lib.hid (fun O => (HE1.out O).size)
  clear hW0 HT HB
  go_region_law (first
   | (go_simp; go_at_call 113; (with_reducible refine (KS.out _ _ (by first | exact HN.out _ | exact (HN.out _).later (below_drew _))).mono ?_); rintro e v1 ⟨rfl, rfl⟩)
   | (go_simp; go_at_call 155; (with_reducible refine (KC.out _).mono ?_); rintro e v2 ⟨rfl, rfl⟩)
   | fail)
  all_goals
   go_wp2
   go_ret
   first
    | exact ⟨rfl, HE1.out _⟩
    | exact ⟨rfl, (HE1.out _).trans ((below_drew _).mono (HE2.out _))⟩
end
section
open Go.RowKit Go.Shelf
theorem KeepG.boxed {P : Nat → TypeId → Prop} {W W' : World} {b : Nat} {t : TypeId} {v : Value} (h : KeepG P W W') (hb : Boxed W b t v) (hx : P b t) : Boxed W' b t v := h.block b _ _ _ hx hb
end
section
open Go.RowKit Go.Shelf
attribute [local go_sem] Oper.semAt_some
abbrev tskV (x : Ts) : Array Value := #[tsV x]
def tksAt (l : List Ts) (f : Nat → Bool) : List Ts := (nums f).filterMap (fun k => l[k]?)
theorem at_any (A : Option Addr) (n cap : Nat) (f : Nat → Bool) (w : World) :
  Calls Tryz.prog 134 #[.slice A n cap, setV f] w fun e w' => e = .returned (.func (.func 153) #[] #[.pointer (some ⟨w.heap.size + 1, 0, none⟩), .pointer (some ⟨w.heap.size, 0, none⟩)]) ∧ w' = (w.alloc (.cells #[.slice A n cap] 23)).alloc (.cells (cellsL f).toArray 82) := by
 have hmf : ∀ (fn : Fn) (first cap : Array Value) (w : World), (Instr.makeFunc fn first cap).run Tryz.prog w = .ok (.func fn first cap) w := fun _ _ _ _ => rfl
 go_enter Tryz.func134, Tryz.ntmps134
 go_wp2
 go_ret
 simp [World.size_alloc]
structure AtS (w : World) (A : Option Addr) (cap : Nat) (l : List Ts) (f : Nat → Bool) (bs bl : Nat) : Prop where
 st : Box w bs f
 lb : Boxed w bl 23 (.slice A l.length cap)
 rw_ : Row w A cap l
 tb : Tab w
 in_ : ∀ k, f k = true → k < l.length
structure AtP (P : Nat → TypeId → Prop) (A : Option Addr) (bl : Nat) : Prop where
 s : ∀ k, P k 82
 y : ∀ k, P k 151
 l : ∀ T, P bl T
 t : ∀ T, P 0 T
 r : ∀ b o, A = some ⟨b, o, none⟩ → ∀ T, P b T
theorem AtS.keep {P : Nat → TypeId → Prop} {A : Option Addr} {cap bs bl : Nat} {l : List Ts} {f : Nat → Bool} {w w' : World} (h : AtS w A cap l f bs bl) (hP : AtP P A bl) (hk : KeepG P w w') : AtS w' A cap l f bs bl :=
 ⟨hk.box h.st (hP.s _), hk.boxed h.lb (hP.l _), h.rw_.keepG hk hP.r, hk.tab h.tb hP.t, h.in_⟩
theorem AtS.later {A : Option Addr} {cap bs bl : Nat} {l : List Ts} {f : Nat → Bool} {w w' : World} (h : AtS w A cap l f bs bl) (hb : Below w.heap.size w w') : AtS w' A cap l f bs bl :=
 h.keep (P := fun _ _ => True) ⟨fun _ => trivial, fun _ => trivial, fun _ => trivial, fun _ => trivial, fun _ _ _ _ => trivial⟩ (KeepG.below hb)
theorem AtS.own {A : Option Addr} {cap bs bl : Nat} {l : List Ts} {f : Nat → Bool} {w w' : World} {row : Option Nat} (h : AtS w A cap l f bs bl) (hg : w.grownBy w' row) (hr : ∀ r, row = some r → ∃ o : Obj, w.heap[r]? = some o ∧ o.isCells = false) : AtS w' A cap l f bs bl :=
 h.keep (P := fun _ _ => True) ⟨fun _ => trivial, fun _ => trivial, fun _ => trivial, fun _ => trivial, fun _ _ _ _ => trivial⟩ (keepG_grown hg hr)
theorem own_below {β : Type} {B : Nat} {J : β → World → Prop} (h : OwnFrom B J) {s : β} {W W' : World} (hs : J s W) (hb : Below W.heap.size W W') : J s W' :=
 h s W W' none hs ⟨hb.os, hb.tape, hb.output, hb.size, fun k hk _ => hb.block k hk⟩ (fun r e => by cases e)
theorem at1_seq (n : Nat) (hn1 : 3 ≤ n) (A : Option Addr) (cap : Nat) (l : List Ts) (f : Nat → Bool) (bs bl : Nat) (P : Nat → TypeId → Prop) (w : World) (hS : AtS w A cap l f bs bl) (hP : AtP P A bl) :
  SeqG tskV n 153 #[.pointer (some ⟨bs, 0, none⟩), .pointer (some ⟨bl, 0, none⟩)] P (tksAt l f) w := by
 intro lp J Jx W hW hO hOx hY hJ
 have S0 := hS.later hW
 clear hS
 obtain ⟨W1, hW1, Y1, S1, J1, s1⟩ : ∃ W1, W.alloc (.cells #[.func (.yield lp) #[] #[]] 151) = W1 ∧ Boxed W1 W.heap.size 151 (.func (.yield lp) #[] #[]) ∧ AtS W1 A cap l f bs bl ∧ J [] W1 ∧ W1.heap.size = W.heap.size + 1 :=
  ⟨_, rfl, Boxed.new _ _ _, S0.later ((Below.refl _ _).alloc (Nat.le_refl _) _), hO.alloc _ hJ, by simp⟩
 have ALL := Lib.hid (fun W => all_any f W)
 obtain ⟨W2, hW2, Y2, S2, J2, s2, B2⟩ : ∃ W2, W1.alloc (.cells (cellsL f).toArray 82) = W2 ∧ Boxed W2 W.heap.size 151 (.func (.yield lp) #[] #[]) ∧ AtS W2 A cap l f bs bl ∧ J [] W2 ∧ W2.heap.size = W1.heap.size + 1 ∧ Box W2 W1.heap.size f :=
  ⟨_, rfl, Boxed.alloc Y1 _, S1.later ((Below.refl _ _).alloc (Nat.le_refl _) _), hO.alloc _ J1, by simp, Box.new _ _⟩
 have BS := Lib.hid (S1.st)
 have HL := Lib.hid S0.in_
 clear S0 S1 Y1 J1 hJ
 rw [s1] at B2
 refine callsIn_of_wp_marks Tryz.func153 rfl trivial ?_ rfl
 simp only [Tryz.ntmps153, List.size_toArray, List.length_cons, List.length_nil, Nat.reduceAdd, Nat.reduceSub, Array.replicate_succ, Array.replicate_zero, List.push_toArray, List.append_toArray, List.nil_append, List.cons_append]
 refine wpIn_wide.2 ?_
 go_upto_region 1 with (fail)
 try rw [hW1]
 clear hW1
 have K0 := ALL.out W1
 go_upto_region 3 with (first
  | ((with_reducible show wpList _ _ _ (⟨some 5, _, _, _, _, _⟩ :: _) _ _); refine wpList_load_mid rfl 82 _ rfl _ _ rfl _ _ BS.out.range Tryz.underlying82 rfl (info26 _) ?_)
  | (go_at_call 37; refine K0.mono ?_; rintro e w' ⟨rfl, rfl⟩))
 try rw [hW2]
 try rw [s1]
 clear hW2 BS ALL
 have hs2 : W.heap.size ≤ W2.heap.size := by omega
 clear s1 s2
 refine (wpIn_wide (n := n)).1 ?_
 obtain ⟨yb, hyb⟩ : ∃ yb, W.heap.size = yb := ⟨_, rfl⟩
 have HYB := Lib.hid hyb
 rw [hyb] at Y2 B2 ⊢
 have hO2 := own_up hO hs2
 have hOx2 := own_up hOx hs2
 have SQ := all2_seq (n - 1) (by omega) f (yb + 1) P W2 B2 S2.tb (hP.s _) hP.t
 have B3 := B2.lt
 clear hyb
 refine rangeG (vals := numV) (gf := 61) (lb := #[.pointer (some ⟨yb + 1, 0, none⟩)]) rfl (enters_of Tryz.func61 (by kernel_rfl) rfl)
  SQ (Below.refl _ _) (fun _ => rfl)
  (fun pre V => J (pre.filterMap (fun k => l[k]?)) V ∧ Boxed V yb 151 (.func (.yield lp) #[] #[]) ∧ AtS V A cap l f bs bl)
  (fun c pre V => c = .ret ∧ Jx (pre.filterMap (fun k => l[k]?)) V)
  (fun pre X Y row hs hg hr => ⟨hO2 _ X Y row hs.1 hg hr, boxed_kept hs.2.1 hg (fun r e => (hr r e).2), hs.2.2.own hg (fun r e => (hr r e).2)⟩)
  (fun c pre X Y row hs hg hr => ⟨hs.1, hOx2 _ X Y row hs.2 hg hr⟩)
  ⟨J2, Y2, S2⟩
  (fun x a' V => a' = { tmps := #[.func (.yield lp) #[] #[], .pointer (some ⟨bs, 0, none⟩), .pointer (some ⟨bl, 0, none⟩), .pointer (some ⟨yb, 0, none⟩), .int .i64 (x : Int), setV f, .func (.func 61) #[] #[.pointer (some ⟨yb + 1, 0, none⟩)], .int .i64 (x : Int), undef, undef, undef, undef, undef, undef, undef], defers := [] })
  (fun x a' _ X Y row hs hg hr => hs)
  ?assign ?body ?done ?stop
 case assign =>
  intro l2 pre x V K hi hK
  gi_wp2
  exact hK _ _ (KeepsFrom.refl _ _) (KeepG.refl _ _) hi rfl
 case body =>
  rintro l2 pre x a' V ⟨hj, hy2, hs⟩ rfl ⟨r, hr⟩
  have hf : f x = true := ((mem_nums f x).1 (by rw [hr]; simp)).2
  have hx := hs.in_ x hf
  obtain ⟨b, o, y, rfl, hly, hyw, hbl, hT⟩ := hs.rw_.get hx
  have hL : tksAt l f = pre.filterMap (fun k => l[k]?) ++ y :: r.filterMap (fun k => l[k]?) := by
   unfold tksAt
   rw [hr, List.filterMap_append, List.filterMap_cons, hly]
  have hpx : (pre ++ [x]).filterMap (fun k => l[k]?) = pre.filterMap (fun k => l[k]?) ++ [y] := by
   rw [List.filterMap_append, List.filterMap_cons, hly]; rfl
  have HPX := Lib.hid hpx
  clear hpx hr
  obtain ⟨pr, hpr⟩ : ∃ pr, pre.filterMap (fun k => l[k]?) = pr := ⟨_, rfl⟩
  rw [hpr] at hL HPX hj
  obtain ⟨fn, tmps, assign, body, hy, hR⟩ := hY pr y _ V.drew (own_below hO2 hj (below_drew V)) hL
  have HR : Hid (RoundIn (Fence.wide.inRound l2) (n - 1 - 1 - 1) Tryz.prog lp fn tmps assign body V.drew fun e V2 => ∃ q : Bool, e = .returned (.bool q) ∧ Hid ((q = true ∧ J (pr ++ [y]) V2 ∧ KeepG P V.drew V2 ∧ KeepsFrom W.heap.size V.drew V2) ∨ (q = false ∧ Jx (pr ++ [y]) V2 ∧ KeepsFrom W.heap.size V.drew V2))) := Lib.hid ((round_any hR).mono fun e V2 h => by
   rcases h with ⟨rfl, h⟩ | ⟨rfl, h⟩
   ·exact ⟨true, rfl, .inl ⟨rfl, h⟩⟩
   ·exact ⟨false, rfl, .inr ⟨rfl, h⟩⟩)
  have HLL := Lib.hid hL
  clear hY hR hL
  simp only [tskV] at hy
  have cy := hy2.cell
  have cl := hs.lb.cell
  have c0 := hT.c0
  have c1 := hT.c1
  have c2 := hT.c2
  have c3 := hT.c3
  have c4 := hT.c4
  have c5 := hT.c5
  have c6 := hT.c6
  have i0 : (0 : Int) ≤ (x : Int) := by omega
  have i1 : (x : Int) < (l.length : Int) := by omega
  have HS := Lib.hid hs
  clear hs hT
  gi_wp2
  gi_region_with (first | (refine ⟨fun _ => by omega, HR.out.mono ?_⟩; rintro e V2 ⟨q, rfl, HQ⟩) | fail)
  all_goals
   have kd : KeepG P V V.drew := KeepG.below (below_drew V)
   have fd : KeepsFrom W2.heap.size V V.drew := (KeepsOthers.drew _).from _
   rcases HQ.out with ⟨rfl, hj', hk', hf'⟩ | ⟨rfl, hx', hf'⟩
   ·gi_wp2
    have kk := kd.trans hk'
    refine ⟨fd.trans (keepsFrom_up hf' hs2), kk, ?_, kk.boxed hy2 (hP.y _), HS.out.keep hP kk⟩
    rw [HPX.out]; exact hj'
   ·gi_wp2
    refine ⟨fd.trans (keepsFrom_up hf' hs2), rfl, ?_⟩
    rw [HPX.out]; exact hx'
 case done =>
  rintro D V hD ⟨hj, hy2, hs⟩ hK
  gi_wp2
  refine ⟨by simp, .inl ⟨_, _, rfl, run_takeDeferred hK, ?_⟩⟩
  exact ⟨_, results_none rfl _ _ _, ⟨_, rfl⟩, .inl (hO.putObj _ hj (by omega) hK rfl)⟩
 case stop =>
  rintro D c pre x V hD ⟨r, hr⟩ ⟨rfl, hc⟩ hK
  have hf : f x = true := ((mem_nums f x).1 (by rw [hr]; simp)).2
  have hx := HL.out x hf
  gi_wp2
  refine ⟨by simp, .inl ⟨_, _, rfl, run_takeDeferred hK, ?_⟩⟩
  refine ⟨_, results_none rfl _ _ _, ⟨_, rfl⟩, .inr ⟨pre.filterMap (fun k => l[k]?), l[x], r.filterMap (fun k => l[k]?), ?_, ?_⟩⟩
  ·unfold tksAt
   rw [hr, List.filterMap_append, List.filterMap_cons, List.getElem?_eq_getElem hx]
  ·have hpx : (pre ++ [x]).filterMap (fun k => l[k]?) = pre.filterMap (fun k => l[k]?) ++ [l[x]] := by
    rw [List.filterMap_append, List.filterMap_cons, List.getElem?_eq_getElem hx]; rfl
   rw [← hpx]
   exact hOx.putObj _ hc (by omega) hK rfl
end
section
open Go.RowKit Go.Shelf
attribute [local go_sem] Oper.semAt_some
theorem fm_congr {α β : Type} {f g : α → Option β} : ∀ {l : List α}, (∀ x ∈ l, f x = g x) → l.filterMap f = l.filterMap g
 | [], _ => rfl
 | a :: l, h => by
   rw [List.filterMap_cons, List.filterMap_cons, h a (by simp), fm_congr (l := l) (fun x hx => h x (by simp [hx]))]
theorem tks_range (g : Ts → Bool) : ∀ (l : List Ts) (a n : Nat), l.length ≤ n → ((List.range' a n).filter (fun k => (l[k - a]?).elim false g)).filterMap (fun k => l[k - a]?) = l.filter g
 | [], a, n, _ => by
   rw [List.filter_eq_nil_iff.2 (by simp)]
   rfl
 | x :: l, a, 0, h => by simp at h
 | x :: l, a, n + 1, h => by
   have ih := tks_range g l (a + 1) n (by simpa using h)
   have c1 : (List.range' (a + 1) n).filter (fun k => ((x :: l)[k - a]?).elim false g) = (List.range' (a + 1) n).filter (fun k => (l[k - (a + 1)]?).elim false g) := List.filter_congr fun k hk => by
    have := (List.mem_range'_1.1 hk).1
    rw [show k - a = (k - (a + 1)) + 1 by omega, List.getElem?_cons_succ]
   have c2 : ((List.range' (a + 1) n).filter (fun k => (l[k - (a + 1)]?).elim false g)).filterMap (fun k => (x :: l)[k - a]?) = ((List.range' (a + 1) n).filter (fun k => (l[k - (a + 1)]?).elim false g)).filterMap (fun k => l[k - (a + 1)]?) := fm_congr fun k hk => by
    have := (List.mem_range'_1.1 (List.mem_filter.1 hk).1).1
    rw [show k - a = (k - (a + 1)) + 1 by omega, List.getElem?_cons_succ]
   rw [List.range'_succ, List.filter_cons]
   simp only [Nat.sub_self, List.getElem?_cons_zero, Option.elim_some]
   rw [c1, List.filter_cons]
   cases hg : g x
   ·simp only [Bool.false_eq_true, if_false]
    rw [c2, ih]
   ·simp only [if_true]
    rw [List.filterMap_cons]
    simp only [Nat.sub_self, List.getElem?_cons_zero]
    rw [c2, ih]
theorem tksAt_eq {l : List Ts} {f : Nat → Bool} (g : Ts → Bool) (h : ∀ k, f k = (l[k]?).elim false g) (hl : l.length ≤ 1024) : tksAt l f = l.filter g := by
 have := tks_range g l 0 1024 hl
 simp only [Nat.sub_zero] at this
 rw [← this]
 unfold tksAt nums numsIn
 rw [show f = fun k => (l[k]?).elim false g from funext h]
theorem vs_len {l : List Ts} (h : Vs l) : l.length ≤ 1024 := by have := h.n1; omega
theorem lower_tks {l : List Ts} {k : Nat} {y : Ts} (hv : Vs l) (hy : l[k]? = some y) : tksAt l (lowerF l (k : Int)) = l.filter (fun x => decide (y.p < x.p)) :=
 tksAt_eq _ (fun j => by
  unfold lowerF
  rw [pAt_some hy]
  cases l[j]? <;> rfl) (vs_len hv)
theorem higher_tks {l : List Ts} {k : Nat} {y : Ts} (hv : Vs l) (hy : l[k]? = some y) : tksAt l (higherF l (k : Int)) = l.filter (fun x => decide (x.p < y.p)) :=
 tksAt_eq _ (fun j => by
  unfold higherF
  rw [pAt_some hy]
  cases l[j]? <;> rfl) (vs_len hv)
def bF (b : Int) (x : Ts) : Int := max b (x.q - 1)
theorem lower_fold (p : Int) (l : List Ts) : (l.filter (fun x => decide (p < x.p))).foldl bF 0 = blkU p l := by
 rw [List.foldl_filter]
 unfold blkU
 congr 1
 funext b x
 unfold blkUF bF
 by_cases h : p < x.p
 ·rw [if_pos (by simpa using h), if_pos h]
 ·rw [if_neg (by simpa using h), if_neg h]
theorem p1_at {B0 bl : Nat} {T0 : TypeId} {A : Option Addr} (h1 : T0 ≠ 82) (h2 : T0 ≠ 151) (hbl : bl ≠ B0) (ht : 0 ≠ B0) (hr : ∀ b o, A = some ⟨b, o, none⟩ → b ≠ B0) : AtP (P1 B0 T0) A bl :=
 ⟨fun _ => .inr (Ne.symm h1), fun _ => .inr (Ne.symm h2), fun _ => .inl hbl, fun _ => .inl ht, fun b o e _ => .inl (hr b o e)⟩
theorem at_made {A : Option Addr} {cap : Nat} {l : List Ts} {f : Nat → Bool} {w : World} (hR : Row w A cap l) (hT : Tab w) (hin : ∀ k, f k = true → k < l.length) :
  ∃ W, (w.alloc (.cells #[.slice A l.length cap] 23)).alloc (.cells (cellsL f).toArray 82) = W ∧ AtS W A cap l f (w.heap.size + 1) w.heap.size ∧ Below w.heap.size w W ∧ W.heap.size = w.heap.size + 2 := by
 have hb : Below w.heap.size w ((w.alloc (.cells #[.slice A l.length cap] 23)).alloc (.cells (cellsL f).toArray 82)) := ((Below.refl _ _).alloc (Nat.le_refl _) _).alloc (by simp) _
 refine ⟨_, rfl, ⟨?_, Boxed.alloc (Boxed.new _ _ _) _, hR.later hb, hT.below hb, hin⟩, hb, by simp⟩
 have := Box.new (w.alloc (.cells #[.slice A l.length cap] 23)) f
 rwa [World.size_alloc] at this
theorem TAt.keepG {W W' : World} {b o : Nat} {x : Ts} (h : TAt W b o x) (hk : KeepG (fun _ _ => True) W W') : TAt W' b o x := ⟨fun j v hv => hk.cell (h.r j v hv) (fun _ => trivial)⟩
def FoB (w : World) (B0 : Nat) (T0 : TypeId) (v : Value) (V : World) : Prop := Boxed V B0 T0 v ∧ Below w.heap.size w V
theorem FoB.own {w V V' : World} {B0 : Nat} {T0 : TypeId} {v : Value} {row : Option Nat} {D : Nat} (h : FoB w B0 T0 v V) (hg : V.grownBy V' row) (hr : ∀ r, row = some r → D ≤ r ∧ ∃ o : Obj, V.heap[r]? = some o ∧ o.isCells = false) (hB : w.heap.size ≤ D) : FoB w B0 T0 v V' :=
 ⟨boxed_kept h.1 hg (fun r e => (hr r e).2), h.2.grown hg h.2.size (fun k e => by have := (hr k e).1; omega)⟩
theorem block_in (b o cap : Nat) (l : List Ts) (k : Nat) (y : Ts) (w : World) (hR : Row w (some ⟨b, o, none⟩) cap l) (hv : Vs l) (hy : l[k]? = some y) (hT : Tab w) :
  Calls Tryz.prog 114 #[.slice (some ⟨b, o, none⟩) l.length cap, .int .i64 (k : Int)] w fun e w' => e = .returned (.int .i64 (blkU y.p l)) ∧ Below w.heap.size w w' := by
 have hk : k < l.length := (List.getElem?_eq_some_iff.1 hy).1
 have hvl := hv.n1
 have hbl : b < w.heap.size := by
  obtain ⟨b', o', x, e, _, _, h, _⟩ := hR.get hk
  cases e; exact h
 have htab := hT.pos
 have hb1 : Below w.heap.size w (w.alloc (.cells #[.int .i64 0] 2)) := (Below.refl _ _).alloc (Nat.le_refl _) _
 obtain ⟨W1, hW1, X1, R1, T1, B1, s1⟩ : ∃ W1, w.alloc (.cells #[.int .i64 0] 2) = W1 ∧ Boxed W1 w.heap.size 2 (.int .i64 0) ∧ Row W1 (some ⟨b, o, none⟩) cap l ∧ Tab W1 ∧ Below w.heap.size w W1 ∧ W1.heap.size = w.heap.size + 1 :=
  ⟨_, rfl, Boxed.new _ _ _, hR.later hb1, hT.below hb1, hb1, by simp⟩
 have KL := Lib.hid (tlower_any (some ⟨b, o, none⟩) cap l (k : Int) W1 R1 ⟨by omega, by omega⟩)
 have KA := Lib.hid (fun W => at_any (some ⟨b, o, none⟩) l.length cap (lowerF l (k : Int)) W)
 have HIN : Hid (∀ j, lowerF l (k : Int) j = true → j < l.length) := Lib.hid (fun j hj => by
  rcases Nat.lt_or_ge j l.length with h | h
  ·exact h
  ·rw [lowerF_far h] at hj; cases hj)
 have HLT := Lib.hid (lower_tks hv hy)
 have HF := Lib.hid (lower_fold y.p l)
 have HOK : Hid (∀ x ∈ l.filter (fun x => decide (y.p < x.p)), 1 ≤ x.q ∧ x.q ≤ 2147483647) := Lib.hid (fun x hx => ⟨(hv.all x (List.mem_filter.1 hx).1).q0, (hv.all x (List.mem_filter.1 hx).1).q1⟩)
 generalize l.filter (fun x => decide (y.p < x.p)) = L at *
 have HW1 := Lib.hid hW1
 rw [← HF.out]
 clear hR hT hb1 hv hy hvl HF hW1
 generalize lowerF l (k : Int) = f at *
 refine (callsIn_wide (n := 5)).1 ?_
 refine callsIn_of_wp_marks Tryz.func114 rfl trivial ?_ rfl
 simp only [Tryz.ntmps114, List.size_toArray, List.length_cons, List.length_nil, Nat.reduceAdd, Nat.reduceSub, Array.replicate_succ, Array.replicate_zero, List.push_toArray, List.append_toArray, List.nil_append, List.cons_append]
 refine wpIn_wide.2 ?_
 go_upto_region 2 with (fail)
 rw [HW1.out]
 clear HW1
 go_upto_region 3 with (first
  | (go_at_call 58; (with_reducible refine KL.out.mono ?_); rintro e w2 ⟨rfl, h2⟩)
  | (go_at_call 134; (with_reducible refine (KA.out _).mono ?_); rintro e w3 ⟨rfl, rfl⟩)
  | fail)
 have X2 := boxed_later2 X1 h2
 have B2 := B1.trans (h2.mono B1.size)
 have R2 := R1.later h2
 have T2 := T1.below h2
 have s2 := h2.size
 obtain ⟨W3, hW3, S3, B3, s3⟩ := at_made R2 T2 HIN.out
 rw [hW3]
 have X3 := boxed_later2 X2 B3
 have B4 := B2.trans (B3.mono B2.size)
 clear hW3 X1 X2 R1 R2 T1 T2 B1 B2 h2 KL KA HIN
 have hws := B4.size
 have HP : Hid (AtP (P1 w.heap.size 2) (some ⟨b, o, none⟩) w2.heap.size) := Lib.hid (p1_at (by decide) (by decide) (by omega) (by omega) (by rintro b' o' e; cases e; omega))
 have SQ := at1_seq (5 - 1) (by omega) (some ⟨b, o, none⟩) cap l f (w2.heap.size + 1) w2.heap.size (P1 w.heap.size 2) W3 S3 HP.out
 rw [HLT.out] at SQ
 have SQ := Lib.hid SQ
 clear S3 HP HLT
 refine (wpIn_wide (n := 5)).1 ?_
 refine wpIn_named fun fr hfr => ?_
 refine rangeG (vals := tskV) (gf := 153) (lb := #[.pointer (some ⟨w2.heap.size + 1, 0, none⟩), .pointer (some ⟨w2.heap.size, 0, none⟩)]) (by rw [hfr]; rfl) (enters_of Tryz.func153 (by kernel_rfl) rfl)
  SQ.out (Below.refl _ _) (fun x => rfl)
  (fun pre V => FoB w w.heap.size 2 (.int .i64 (pre.foldl bF 0)) V) (fun _ _ _ => False)
  (fun pre X Y row h hg hr => h.own hg hr hws) (fun c s X Y row h _ _ => h) ⟨X3, B4⟩
  (fun x a' V => ∃ Bt, TAt V Bt 0 x ∧ Bt ≠ w.heap.size ∧ a' = { tmps := (fr.tmps.setIfInBounds 12 (tsV x)).setIfInBounds 6 (.pointer (some ⟨Bt, 0, none⟩)), defers := [] })
  (fun x a' _ X Y row hs hg hr => hs.imp fun Bt h => ⟨h.1.keepG (keepG_grown hg (fun r e => (hr r e).2)), h.2⟩)
  ?assign ?body ?done ?stop
 case assign =>
  intro l2 pre x V K hi hK
  have hVs := hi.2.size
  have hlt := hi.1.lt
  have hTn := TAt.new V x
  have hIn : FoB w w.heap.size 2 (.int .i64 (pre.foldl bF 0)) (V.alloc (.cells #[.string x.n, .int .i64 x.c, .int .i64 x.t, .int .i64 x.d, .int .i64 x.j, .int .i64 x.q, .int .i64 x.p] 26)) := ⟨Boxed.alloc hi.1 _, hi.2.alloc hi.2.size _⟩
  subst hfr
  clear SQ
  gi_wp2
  exact hK _ _ ((KeepsOthers.alloc _ _).from _) (KeepG.below ((Below.refl _ _).alloc (Nat.le_refl _) _)) hIn ⟨V.heap.size, hTn, by omega, rfl⟩
 case body =>
  rintro l2 pre x a' V hi ⟨Bt, hT, hne, rfl⟩ ⟨r, hr⟩
  obtain ⟨q0, q1⟩ := HOK.out x (by rw [hr]; simp)
  have e1 : IntKind.i64.wrap (x.q - 1) = x.q - 1 := by rw [IntKind.wrap_i64]; omega
  have e2 : wrap64 (x.q - 1) = x.q - 1 := IntWalk.wrap64_in _ (by omega)
  have cb := hi.1.cell
  have fb := hi.1.frozen
  have c5 := hT.c5
  have HX := Lib.hid (fun u => p1_set hi.1 u)
  have HI := Lib.hid (fun u => (⟨Boxed.set u hi.1, hi.2.setCell (p := ⟨w.heap.size, 0, none⟩) (Nat.le_refl _) u⟩ : FoB w w.heap.size 2 u (V.setCell ⟨w.heap.size, 0, none⟩ u)))
  have HFO : Hid ((pre ++ [x]).foldl bF 0 = max (pre.foldl bF 0) (x.q - 1)) := Lib.hid (by rw [List.foldl_append]; rfl)
  generalize pre.foldl bF 0 = m at *
  subst hfr
  clear SQ HOK hT hi hr
  dsimp only [List.setIfInBounds_toArray, List.set_cons_succ, List.set_cons_zero]
  gi_wp2
  refine ⟨(KeepsOthers.setCell _ _ _).from _, HX.out _, ?_⟩
  show FoB w _ _ (.int .i64 ((pre ++ [x]).foldl bF 0)) _
  rw [HFO.out]
  exact HI.out _
 case done =>
  rintro D V hD hi hK
  have cb := hi.1.cell
  have HB := Lib.hid hi.2
  subst hfr
  clear SQ HOK hi
  go_wp2
  refine ⟨by simp, .inl ⟨_, _, rfl, run_takeDeferred hK, ?_⟩⟩
  exact ⟨.int .i64 (L.foldl bF 0), by simp [results, Tryz.f114, go_sem], rfl, HB.out.trans (belowK_b (w := w) (Nat.le_refl _) V D _ _ (by omega) hK rfl rfl)⟩
 case stop =>
  rintro D c pre x V hD hr h hK
  exact h.elim
end
end Go.Proofs.YthfkbbiaemmndaaGreatDoor
