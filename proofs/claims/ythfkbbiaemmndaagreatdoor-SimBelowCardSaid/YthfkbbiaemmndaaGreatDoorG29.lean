/- Texts about the program, one after the other: ELaw, NBase, NRefs, NSums, DPure, DSm, RPure, RLaw. -/
import Derived.WalkKit
import Derived.ProofKit
import Derived.Handy
import Derived.Lib.Hide
import Derived.Deep.MidRow
import Derived.Deep.QuietTactic
import Derived.BigQuiet
import Derived.Deep.RegionHeld3
import Derived.Laws.Externs
import Derived.RangeFuncBox
import Derived.Deep.CutBlock
import Derived.Deep.LoopGhost
import Derived.WalkMore
import Derived.Below
import Derived.LaidMore
import Derived.Laws.AppendOwn
import Derived.Laws.CopyOwn
import Derived.IntWalk
import Derived.OwnWalk
import Derived.Deep.RegionLaw
import Derived.BigRegion
import Derived.Deep.DrawnRows
import Derived.Deep.Quiet
import Derived.Deep.RegionHeldLaw
import Derived.LoopIn
import Derived.LoopNIn
import Derived.TacticsInMore
import Derived.OwnWalkIn
import Derived.RangeFuncNested
import Derived.RangeFuncBound
import Derived.RangeFuncCalls
import Derived.RangeFuncLeaves
import Derived.RangeFuncWrites
import Derived.Shelf.Abstract
import Derived.StillTailTactics
import Derived.Lib.SliceRun
import Derived.Deep.AppendSrc
import Derived.Deep.Upon
import Derived.Deep.DeepAppendWide
import Derived.OrdersIn
import Derived.Sort.LoopGhostIn
import Derived.Laws.OwnMore
import Derived.Laws.BytesString
import Derived.RangeFuncRecord
import Derived.MapKept
import Derived.Shelf.Small.Bits
import Derived.Shelf.Small.Strs
import Derived.Shelf.Small.Wraps
import Derived.Shelf.Strconv.Itoa0
import Derived.Shelf.LaysM
import Derived.Shelf.Strconv.Clone
import Derived.Shelf.Strings.Search1
import Derived.Shelf.Bits.Mul64
import Derived.Ground.Names2Prog
import Derived.Shelf.Slices.SearchI
import Derived.ChangeOld
import Derived.OpenShut
import Derived.Maps.AppendAt
import Derived.Test.YthfkbbiaemmndaaGreatDoorRows
import Derived.Test.YthfkbbiaemmndaaGreatDoorProg
import Derived.Laws.AppendOwnNone
import Derived.Stop.RegionWithIn
import Derived.Deep.CutRange
import Derived.Deep.RegionHeld
import Derived.Laws.ShiftsVarLaws
import Derived.Outline
import Derived.Laws.Bits128
import Derived.Deep.RegionWith
import Derived.Shelf.RegionOpen
import Derived.Test.YthfkbbiaemmndaaGreatDoorG1
import Derived.Test.YthfkbbiaemmndaaGreatDoorG3
import Derived.Test.YthfkbbiaemmndaaGreatDoorG4
import Derived.Test.YthfkbbiaemmndaaGreatDoorG5
import Derived.Test.YthfkbbiaemmndaaGreatDoorG6
import Derived.Test.YthfkbbiaemmndaaGreatDoorG7
import Derived.Test.YthfkbbiaemmndaaGreatDoorG9
import Derived.Test.YthfkbbiaemmndaaGreatDoorG13
set_option linter.unusedVariables false
set_option linter.unusedSimpArgs false
set_option maxRecDepth 100000
set_option maxHeartbeats 16000000
namespace Go.Proofs.YthfkbbiaemmndaaGreatDoor
section
open Go.RowKit
theorem word_t : ∀ i, i < 8 → wordB (bs [116, UInt8.ofNat (97 + i)]) = true := by
 intro i hi
 rw [wordB_cons (c := 116) (r := [UInt8.ofNat (97 + i)]) (by simp [bs])]
 have h : ∀ i, i < 8 → (decide ((oneT 0 116 [UInt8.ofNat (97 + i)]).k = 1) && decide ((oneT 0 116 [UInt8.ofNat (97 + i)]).t.length = 2)) = true := by decide +kernel
 have := h i hi
 rw [bs_size]
 exact this
theorem name_t_inj : ∀ i, i < 8 → ∀ j, j < 8 → bs [116, UInt8.ofNat (97 + i)] = bs [116, UInt8.ofNat (97 + j)] → i = j := by
 intro i hi j hj h
 have h2 : [116, UInt8.ofNat (97 + i)] = [116, UInt8.ofNat (97 + j)] := by
  have := congrArg (fun b : ByteArray => b.data.toList) h
  simpa [bs] using this
 have h3 : UInt8.ofNat (97 + i) = UInt8.ofNat (97 + j) := by simpa using h2
 have h4 := congrArg UInt8.toNat h3
 simp at h4
 omega
theorem sf_check {i : Nat} {x : Ts} (h : SF i x) (hi : i < 8) (h1 : 1 ≤ x.p) (h2 : x.p ≤ 8) : checkE x = 0 := by
 have hn : namedB x = true := by
  rw [namedB, h.n, word_t i hi, bs_size]
  rfl
 have hr : rangedB x = true := by
  have := h.c0; have := h.c1; have := h.d0; have := h.d1; have := h.j0; have := h.t0; have := h.t1; have := h.q0; have := h.q1
  rw [rangedB, inB_yes (by omega), inB_yes (by omega), inB_yes (by omega), inB_yes (by omega), inB_yes (by omega), inB_yes (by omega)]
  rfl
 have ho : overB x = false := by
  have := h.d0; have := h.t0; have := h.q1
  simp only [overB, decide_eq_false_iff_not]
  omega
 rw [checkE, hn, hr, ho]
 rfl
theorem chkFrom_good : ∀ (l pre : List Ts), (∀ x ∈ l, checkE x = 0) → (∀ (i j : Nat) (x y : Ts), (pre ++ l)[i]? = some x → (pre ++ l)[j]? = some y → (x.n = y.n ∨ x.p = y.p) → i = j) → (chkFrom pre l).2 = 0
 | [], pre, _, _ => rfl
 | a :: r, pre, h1, h2 => by
   have ha : (pre ++ a :: r)[pre.length]? = some a := by simp
   have hn : (nameIn pre a || prioIn pre a) = false := by
    rw [Bool.or_eq_false_iff]
    constructor
    ·rw [nameIn, List.any_eq_false]
     intro y hy
     obtain ⟨i, hi, rfl⟩ := List.getElem_of_mem hy
     intro he
     have := h2 i pre.length _ a (by rw [List.getElem?_append_left hi, List.getElem?_eq_getElem hi]) ha (.inl (by simpa using he))
     omega
    ·rw [prioIn, List.any_eq_false]
     intro y hy
     obtain ⟨i, hi, rfl⟩ := List.getElem_of_mem hy
     intro he
     have := h2 i pre.length _ a (by rw [List.getElem?_append_left hi, List.getElem?_eq_getElem hi]) ha (.inr (by simpa using he))
     omega
   rw [chkFrom, if_neg (by rw [h1 a (by simp)]; simp), hn]
   refine chkFrom_good r (pre ++ [a]) (fun x hx => h1 x (by simp [hx])) (fun i j x y hx hy he => h2 i j x y (by simpa using hx) (by simpa using hy) he)
theorem set_ok {ts : List Ts} (h1 : 1 ≤ ts.length) (h8 : ts.length ≤ 8) (hd : Dist ts) (hs : SFs ts) (hp : ∀ (i : Nat) (x : Ts), ts[i]? = some x → 1 ≤ x.p ∧ x.p ≤ 8) : (chkAll ts).2 = 0 := by
 rw [chkAll, if_neg (by omega)]
 refine chkFrom_good ts [] (fun x hx => ?_) (fun i j x y hx hy he => ?_)
 ·obtain ⟨i, hi, rfl⟩ := List.getElem_of_mem hx
  have hg := List.getElem?_eq_getElem hi
  exact sf_check (hs i _ hg) (by omega) (hp i _ hg).1 (hp i _ hg).2
 ·simp only [List.nil_append] at hx hy
  rcases he with he | he
  ·have e1 := (hs i x hx).n
   have e2 := (hs j y hy).n
   have hi := (List.getElem?_eq_some_iff.1 hx).1
   have hj := (List.getElem?_eq_some_iff.1 hy).1
   rw [e1, e2] at he
   exact name_t_inj i (by omega) j (by omega) he
  ·exact hd i j x y hx hy he
end
section
open Go.RowKit
def addB (a b : Int) : Bool := decide (a + b ≤ 18446744073709551615)
def addNN (a b : Int) : Int := if a + b ≤ 18446744073709551615 then a + b else 0
def ceilB (b : Int) : Bool := decide (b ≠ 0)
end
section
open Go.RowKit
theorem quo_le (a b : Int) (ha : 0 ≤ a) : 0 ≤ b → 0 ≤ a / b ∧ a / b ≤ a := fun hb => ⟨Int.ediv_nonneg ha hb, Int.ediv_le_self _ ha⟩
theorem quo_lt (a b : Int) (ha : 0 ≤ a) (ha1 : a ≤ 18446744073709551615) (hb : 0 < b) (h : a % b ≠ 0) : a / b + 1 ≤ 18446744073709551615 := by
 have h1 : b ≠ 1 := by intro e; subst e; omega
 have h0 : 0 ≤ a / b := Int.ediv_nonneg ha (by omega)
 have h2 : a / b * 2 ≤ a / b * b := Int.mul_le_mul_of_nonneg_left (by omega) h0
 have h3 := Int.ediv_mul_le a (b := b) (by omega)
 omega
theorem satSum_bd : ∀ (l : List Int) (s : Int), 0 ≤ s → s ≤ 18446744073709551615 → (∀ n ∈ l, 0 ≤ n) → 0 ≤ satSum s l ∧ satSum s l ≤ 18446744073709551615
 | [], s, h0, h1, _ => ⟨h0, h1⟩
 | n :: l, s, h0, h1, h => by
   have h2 := h n (by simp)
   rw [satSum, List.foldl_cons]
   exact satSum_bd l _ (by unfold satAdd; split <;> omega) (by unfold satAdd; split <;> omega) fun m hm => h m (by simp [hm])
theorem take_oneN (zs : List Int) (k : Nat) (h : k < zs.length) : zs.take (k + 1) = zs.take k ++ [zs.getD k 0] := by
 rw [List.take_succ_eq_append_getElem h]; simp [List.getD_eq_getElem?_getD, h]
theorem satSum_snoc (s : Int) (zs : List Int) (k : Nat) (h : k < zs.length) : satSum s (zs.take (k + 1)) = satAdd (satSum s (zs.take k)) (zs.getD k 0) := by
 rw [take_oneN zs k h, satSum, List.foldl_append]; rfl
theorem ret_u64 {a b : Int} (h : a = b) : Ending.returned (.int .u64 a) = .returned (.int .u64 b) := by rw [h]
end
section
open Go.RowKit
def Nums (w : World) (v : Value) (zs : List Int) : Prop :=
 (v = .slice none 0 0 ∧ zs = []) ∨ ∃ x cap, v = .slice (some x) zs.length cap ∧ zs.length ≤ cap ∧ cap ≤ maxLen ∧ ∀ i, i < zs.length → w.cell? (x.add i) = some (.int .u64 (zs.getD i 0))
end
section
open Go.RowKit
theorem ceil_u {a b : Int} (ha : U a) (hb : 1 ≤ b) : U (ceilN a b) := by
 obtain ⟨a0, a1⟩ := ha
 have hq := quo_le a b a0 (by omega)
 unfold ceilN
 rw [if_neg (by omega)]
 split
 ·exact ⟨hq.1, by omega⟩
 ·rename_i h
  have := quo_lt a b a0 a1 (by omega) h
  exact ⟨by omega, this⟩
theorem oft_u {x : Ts} {w : Int} (hx : TsOk x) (hw : U w) : U (oftS x w) := ceil_u (satAdd_u hw.1 hx.j0) hx.t0
theorem hiF_u {p w s : Int} {x : Ts} (hx : TsOk x) (hw : U w) (hs : U s) : U (hiUF p w s x) := by
 unfold hiUF
 split
 ·exact satAdd_u hs.1 (satMul_u (oft_u hx hw).1 (by have := hx.c0; omega)).1
 ·exact hs
theorem hi_take_u {l : List Ts} {p w : Int} (h : Vs l) (hw : U w) (k : Nat) : U ((l.take k).foldl (hiUF p w) 0) := by
 have : ∀ (m : List Ts) (s : Int), (∀ x ∈ m, TsOk x) → U s → U (m.foldl (hiUF p w) s) := by
  intro m
  induction m with
  | nil => intro s _ hs; exact hs
  | cons a r ih => intro s hm hs; exact ih _ (fun x hx => hm x (by simp [hx])) (hiF_u (hm a (by simp)) hw hs)
 exact this _ _ (fun x hx => h.all x (List.mem_of_mem_take hx)) ⟨by decide, by decide⟩
theorem higherI_u (l : List Ts) (i w : Int) (hw : U w) : U (higherI l i w) := by
 unfold higherI
 split
 ·rename_i h
  unfold hiU
  split
  ·exact ⟨by decide, by decide⟩
  ·have := hi_take_u (p := pOf l i) (isB_vs h) hw l.length
   rwa [List.take_length] at this
 ·exact ⟨by decide, by decide⟩
end
section
open Go.RowKit
theorem St.chk {ts : List Ts} (h : St ts) : (chkAll ts).2 = 0 := set_ok h.n1 (by have := h.n6; omega) h.d h.s h.p
end
section
section
variable {N : Int → Int}
theorem leastF_is {M w : Nat} (h1 : 1 ≤ w) (h2 : w ≤ M) (h3 : N w ≤ w) (h4 : ∀ v : Nat, 1 ≤ v → v < w → (v : Int) < N v) : leastF N M = some w := by
 cases hl : leastF N M with
 | none => have := leastF_none hl w h1 h2; omega
 | some u =>
   obtain ⟨a1, a2, a3, a4⟩ := leastF_some hl
   congr 1
   rcases Nat.lt_trichotomy u w with h | h | h
   ·have := h4 u a1 h; omega
   ·exact h
   ·have := a4 w h1 h; omega
theorem leastF_not {M : Nat} (h : ∀ v : Nat, 1 ≤ v → v ≤ M → (v : Int) < N v) : leastF N M = none := by
 cases hl : leastF N M with
 | none => rfl
 | some u =>
   obtain ⟨a1, a2, a3, a4⟩ := leastF_some hl
   have := h u a1 a2
   omega
end
end
section
theorem need_form {l : List Ts} {k : Nat} {y : Ts} (hc : (chkAll l).2 = 0) (hy : l[k]? = some y) (w : Int) : needI l (k : Int) w = satAdd (satAdd (satAdd 0 y.c) (blkU y.p l)) (hiU y.p w l) := by
 rw [need_at hc hy]
 rfl
end
end Go.Proofs.YthfkbbiaemmndaaGreatDoor
