/- Texts about the program, one after the other: NSums, DPure, DOwn, DGrt, DLaw, DSm, DRef, DNee, DMay, MMath, MBase, MOps, MOps2, MCount, MTz. -/
import Derived.Test.YtnhddnldebdmbaaGreatDoorG10
import Derived.Maps.AppendAt
import Derived.Laws.AppendOwnNone
import Derived.Test.YtnhddnldebdmbaaGreatDoorG4
import Derived.Laws.OwnMore
import Derived.Deep.RegionLaw
import Derived.Deep.CutRange
import Derived.Deep.CutBlock
import Derived.Test.YtnhddnldebdmbaaGreatDoorG3
import Derived.Test.YtnhddnldebdmbaaGreatDoorRows
import Derived.WalkKit
import Derived.ProofKit
import Derived.Handy
import Derived.Lib.Hide
import Derived.Deep.MidRow
import Derived.Deep.QuietTactic
import Derived.BigQuiet
import Derived.Deep.RegionHeld3
import Derived.Laws.Externs
import Derived.Laws.ShiftsVarLaws
import Derived.Outline
import Derived.Laws.Bits128
import Derived.Deep.RegionWith
/- Sums of many: plain facts, and contracts of the document's own Sum, and of Sum at a row of the call's own. -/
namespace Go.Proofs.YtnhddnldebdmbaaGreatDoor
open Go.RowKit
set_option linter.unusedVariables false

/-! ### Plain facts -/
def sumI : List Int → Int
  | [] => 0
  | n :: l => n + sumI l
theorem sumI_append : ∀ (l m : List Int), sumI (l ++ m) = sumI l + sumI m
  | [], m => by simp [sumI]
  | n :: l, m => by simp only [List.cons_append, sumI, sumI_append l m]; omega
theorem sumI_reverse : ∀ l : List Int, sumI l.reverse = sumI l
  | [] => rfl
  | n :: l => by rw [List.reverse_cons, sumI_append, sumI_reverse l]; simp only [sumI]; omega
theorem sumI_nonneg : ∀ l : List Int, (∀ n ∈ l, 0 ≤ n) → 0 ≤ sumI l
  | [], _ => by simp [sumI]
  | n :: l, h => by
    have h0 := h n (by simp)
    have h1 := sumI_nonneg l fun m hm => h m (by simp [hm])
    simp only [sumI]; omega
theorem satSum_eq : ∀ (l : List Int) (s : Int), s ≤ 18446744073709551615 → (∀ n ∈ l, 0 ≤ n) → satSum s l = if s + sumI l ≤ 18446744073709551615 then s + sumI l else 18446744073709551615
  | [], s, hs, _ => by simp [satSum, sumI, hs]
  | n :: l, s, hs, h => by
    have h0 := h n (by simp)
    have hl : ∀ m ∈ l, 0 ≤ m := fun m hm => h m (by simp [hm])
    have h1 := sumI_nonneg l hl
    rw [satSum, List.foldl_cons]
    show satSum (satAdd s n) l = _
    by_cases hle : s + n ≤ 18446744073709551615
    · rw [show satAdd s n = s + n from if_pos hle, satSum_eq l _ hle hl]
      rw [show sumI (n :: l) = n + sumI l from rfl, Int.add_assoc]
    · rw [show satAdd s n = 18446744073709551615 from if_neg hle, satSum_top l hl, if_neg (by simp only [sumI]; omega)]
theorem satSum_reverse (l : List Int) (h : ∀ n ∈ l, 0 ≤ n) : satSum 0 l.reverse = satSum 0 l := by
  rw [satSum_eq _ 0 (by omega) (fun n hn => h n (List.mem_reverse.1 hn)), satSum_eq _ 0 (by omega) h, sumI_reverse]
theorem satSum_head (n : Int) (l : List Int) (h1 : n ≤ 18446744073709551615) : satSum 0 (n :: l) = satSum n l := by
  rw [satSum, List.foldl_cons, show satAdd 0 n = n from by simp [satAdd, h1]]; rfl
theorem endN_sat (s z : Int) : endN (addB s z) (addNN s z) = satAdd s z := by
  simp only [satAdd, endN, addB, addNN]
  by_cases hle : s + z ≤ 18446744073709551615 <;> simp [hle]

/-! ### A slice that reads as a row of numbers; nil too -/
/-- Below the first new block all is as it was. -/
def KeptW (w w' : World) : Prop := Below w.heap.size w w'
def Nums (w : World) (v : Value) (zs : List Int) : Prop :=
  (v = .slice none 0 0 ∧ zs = []) ∨ ∃ x cap, v = .slice (some x) zs.length cap ∧ zs.length ≤ cap ∧ cap ≤ maxLen ∧ ∀ i, i < zs.length → w.cell? (x.add i) = some (.int .u64 (zs.getD i 0))

theorem Nums.later {w w1 : World} {v : Value} {zs : List Int} (h : Nums w v zs) (hb : Below w.heap.size w w1) : Nums w1 v zs := by
  rcases h with h | ⟨x, cap, hv, hle, hmax, hc⟩
  · exact .inl h
  · exact .inr ⟨x, cap, hv, hle, hmax, fun i hi => by rw [hb.cell (World.block_lt_of_cell? w _ (hc i hi))]; exact hc i hi⟩
theorem add_add (x : Addr) (i j : Nat) : (x.add i).add j = x.add (i + j) := by
  unfold Addr.add
  by_cases hi : i = 0 <;> by_cases hj : j = 0 <;> simp [hi, hj, Nat.add_assoc]
theorem Nums.tail {w : World} {x : Addr} {cap : Nat} {m : Int} {zs : List Int} (hle : zs.length + 1 ≤ cap) (hmax : cap ≤ maxLen) (hc : ∀ i, i < zs.length + 1 → w.cell? (x.add i) = some (.int .u64 ((m :: zs).getD i 0))) :
    Nums w (.slice (some (x.add 1)) zs.length (cap - 1)) zs :=
  .inr ⟨x.add 1, cap - 1, rfl, by omega, by omega, fun i hi => by rw [add_add, Nat.add_comm]; simpa using hc (i + 1) (by omega)⟩
theorem sum_nil (first : Int) (w : World) : Calls Tryz.prog 74 #[.int .u64 first, .slice none 0 0] w fun e w' => e = .returned (.int .u64 first) ∧ w = w' := by
  go_enter Tryz.func74, Tryz.ntmps74
  go_wp2
  go_rounds 1
  go_ret
  exact ⟨rfl, rfl⟩

theorem sum_nums (first : Int) (v : Value) (zs : List Int) (h0 : 0 ≤ first) (h1 : first ≤ 18446744073709551615) (w : World) (hv : Nums w v zs) (hz : ∀ n ∈ zs, 0 ≤ n ∧ n ≤ 18446744073709551615) :
    Calls Tryz.prog 74 #[.int .u64 first, v] w fun e w' => e = .returned (.int .u64 (satSum first zs)) ∧ w = w' := by
  rcases hv with ⟨rfl, rfl⟩ | ⟨x, cap, rfl, hle, hmax, hc⟩
  · exact sum_nil first w
  · exact sum_any first x zs.length cap zs h0 h1 rfl hle hmax w hc hz

/-! ### Two rows of the call's own: the numbers, and the same in the other order -/
def cellsU (ns : List Int) : List Value := ns.map (Value.int .u64)
structure Pair (w wr : World) (vL vB : Value) (ns : List Int) : Prop where
  low : wr.ownsRow w.heap.size 73 1 vL ns.length (cellsU ns)
  back : wr.ownsRow w.heap.size 73 1 vB ns.length (cellsU ns.reverse)
  sep : vB.ownBlock = none ∨ vB.ownBlock ≠ vL.ownBlock
  nil : ns = [] → vL = .slice none 0 0 ∧ vB = .slice none 0 0
  below : Below w.heap.size w wr
theorem Pair.start (w w1 : World) (h : Below w.heap.size w w1) : Pair w w1 (.slice none 0 0) (.slice none 0 0) [] :=
  ⟨World.ownsRow_nil _ _ _ _, World.ownsRow_nil _ _ _ _, .inl rfl, fun _ => ⟨rfl, rfl⟩, h⟩
theorem own_single (w1 : World) (B : Nat) (n : Int) (hB : B ≤ w1.heap.size) : (w1.alloc (.cells #[.int .u64 n] 73)).ownsRow B 73 1 (.slice (some ⟨w1.heap.size, 0, none⟩) 1 1) 1 [.int .u64 n] :=
  ⟨rfl, .inr ⟨w1.heap.size, 1, #[.int .u64 n], rfl, hB, heap_alloc_new w1 _, by omega, by unfold maxLen; omega, rfl, rfl⟩⟩
theorem Pair.mid {w wr w1 : World} {vL vB vL' : Value} {ns : List Int} (h : Pair w wr vL vB ns) (n : Int) (hg1 : (wr.alloc (.cells #[.int .u64 n] 73)).grownBy w1 vL.ownBlock) :
    (w1.alloc (.cells #[.int .u64 n] 73)).ownsRow w.heap.size 73 1 (.slice (some ⟨w1.heap.size, 0, none⟩) 1 1) 1 [.int .u64 n] ∧ (w1.alloc (.cells #[.int .u64 n] 73)).ownsRow w.heap.size 73 1 vB ns.length (cellsU ns.reverse) ∧
      w.heap.size ≤ (w1.alloc (.cells #[.int .u64 n] 73)).heap.size ∧ Below w.heap.size w w1 := by
  have hs := h.below.size
  have hs1 := hg1.size
  simp only [World.size_alloc] at hs1
  refine ⟨own_single w1 _ n (by omega), ((h.back.alloc _).kept hg1 h.sep).alloc _, by simp; omega, ?_⟩
  exact (h.below.alloc hs _).grown hg1 (by simp; omega) fun k hk => (h.low.lt k hk).1
theorem Pair.done {w wr w1 w2 : World} {vL vB vL' vB' : Value} {ns : List Int} (h : Pair w wr vL vB ns) (n : Int) (hg1 : (wr.alloc (.cells #[.int .u64 n] 73)).grownBy w1 vL.ownBlock)
    (o1 : w1.ownsRow w.heap.size 73 1 vL' (ns.length + 1) (cellsU ns ++ [.int .u64 n])) (o2 : w2.ownsRow w.heap.size 73 1 vB' (1 + ns.length) ([.int .u64 n] ++ cellsU ns.reverse))
    (hg2 : (w1.alloc (.cells #[.int .u64 n] 73)).grownBy w2 (some w1.heap.size)) (hat : vB'.ownBlock = some w1.heap.size ∨ vB'.ownBlock = some (w1.alloc (.cells #[.int .u64 n] 73)).heap.size) : Pair w w2 vL' vB' (ns ++ [n]) := by
  obtain ⟨_, _, hsz, hb⟩ := h.mid (vL' := vL') n hg1
  have hne : vL'.ownBlock = none ∨ vL'.ownBlock ≠ some w1.heap.size := by
    cases hv : vL'.ownBlock with
    | none => exact .inl rfl
    | some g =>
      refine .inr fun e => ?_
      injection e with e
      subst e
      exact absurd (o1.lt _ hv).2 (by omega)
  refine ⟨?_, ?_, ?_, fun e => by simp at e, ?_⟩
  · have := (o1.alloc (.cells #[.int .u64 n] 73)).kept hg2 hne
    simpa [cellsU] using this
  · have e : (ns ++ [n]).length = 1 + ns.length := by simp; omega
    rw [e]
    simpa [cellsU] using o2
  · refine .inr fun e => ?_
    rcases hat with ha | ha <;> rw [ha] at e
    · exact absurd (o1.lt _ e.symm).2 (by omega)
    · exact absurd (o1.lt _ e.symm).2 (by simp)
  · exact (hb.alloc hb.size _).grown hg2 (by simp; have := hb.size; omega) fun k hk => by injection hk with hk; subst hk; exact hb.size
/-- What a row of the call's own is good for: it reads as its numbers. -/
theorem own_nums {w : World} {B : Nat} {v : Value} {ns : List Int} (h : w.ownsRow B 73 1 v ns.length (cellsU ns)) : Nums w v ns := by
  have hc := fun g (hg : v.ownBlock = some g) => h.cells hg
  rcases h.2 with ⟨hv, h0⟩ | ⟨g, cap, cur, hv, _, _, hle, hmax, _, _⟩
  · exact .inl ⟨hv, List.eq_nil_of_length_eq_zero h0⟩
  · subst hv
    refine .inr ⟨⟨g, 0, none⟩, cap, rfl, hle, hmax, fun i hi => ?_⟩
    refine hc g rfl i _ ?_
    simp [cellsU, List.getD_eq_getElem?_getD, hi]
end Go.Proofs.YtnhddnldebdmbaaGreatDoor
/- What can come ahead of a task: plain words. -/
namespace Go.Proofs.YtnhddnldebdmbaaGreatDoor
open Go.RowKit
set_option linter.unusedVariables false
set_option linter.unusedSimpArgs false
/-! ### What blocks, and what comes ahead -/
abbrev U (n : Int) : Prop := 0 ≤ n ∧ n ≤ 18446744073709551615
/-- May the set be, and is there such a place? -/
def isB (l : List Ts) (i : Int) : Bool := decide ((chkAll l).2 = 0) && (decide (0 ≤ i) && decide (i < (l.length : Int)))
theorem isB_iff {l : List Ts} {i : Int} (h : isB l i = true) : (chkAll l).2 = 0 ∧ 0 ≤ i ∧ i < (l.length : Int) := by
  simpa [isB] using h
theorem isB_vs {l : List Ts} {i : Int} (h : isB l i = true) : Vs l := vs_of (isB_iff h).1
theorem isB_get {l : List Ts} {i : Int} (h : isB l i = true) : ∃ (k : Nat) (y : Ts), i = (k : Int) ∧ k < l.length ∧ l[k]? = some y := by
  obtain ⟨_, h0, h1⟩ := isB_iff h
  obtain ⟨k, rfl⟩ := Int.eq_ofNat_of_zero_le h0
  have hk : k < l.length := by omega
  exact ⟨k, l[k], rfl, hk, List.getElem?_eq_getElem hk⟩
def blkUF (p b : Int) (x : Ts) : Int := if x.p > p then max b (x.q - 1) else b
def blkU (p : Int) (l : List Ts) : Int := l.foldl (blkUF p) 0
/-- How often a task can be released in w ticks. -/
def oftS (x : Ts) (w : Int) : Int := ceilN (satAdd w x.j) x.t
def satMul (a b : Int) : Int := endN (mulB a b) (mulN a b)
def hiUF (p w s : Int) (x : Ts) : Int := if x.p < p then satAdd s (satMul (oftS x w) x.c) else s
def hiU (p w : Int) (l : List Ts) : Int := if w = 0 then 0 else l.foldl (hiUF p w) 0
def pOf (l : List Ts) (i : Int) : Int := (l.getD i.toNat ⟨ByteArray.empty, 1, 1, 1, 0, 1, 1⟩).p
def cOf (l : List Ts) (i : Int) : Int := (l.getD i.toNat ⟨ByteArray.empty, 1, 1, 1, 0, 1, 1⟩).c
/-- Block, Higher, and Need. -/
def blockI (l : List Ts) (i : Int) : Int := if isB l i then blkU (pOf l i) l else 0
def higherI (l : List Ts) (i w : Int) : Int := if isB l i then hiU (pOf l i) w l else 0
def needI (l : List Ts) (i w : Int) : Int := if isB l i then satSum 0 [cOf l i, blockI l i, higherI l i w] else 0
theorem foldl_snoc {α β : Type} (f : β → α → β) (b : β) (l : List α) (k : Nat) (x : α) (h : l[k]? = some x) : (l.take (k + 1)).foldl f b = f ((l.take k).foldl f b) x := by
  obtain ⟨hk, e⟩ := List.getElem?_eq_some_iff.1 h
  rw [List.take_succ_eq_append_getElem hk, List.foldl_append, e]
  rfl
theorem satAdd_u {a b : Int} (ha : 0 ≤ a) (hb : 0 ≤ b) : U (satAdd a b) := by
  unfold satAdd
  split
  · exact ⟨by omega, by omega⟩
  · exact ⟨by decide, by decide⟩
theorem satMul_u {a b : Int} (ha : 0 ≤ a) (hb : 0 ≤ b) : U (satMul a b) := by
  have := mul_nonneg' a b ha hb
  unfold satMul endN mulB mulN
  by_cases h : a * b ≤ 18446744073709551615
  · rw [if_pos h, decide_eq_true h, if_pos rfl]; exact ⟨this, h⟩
  · rw [decide_eq_false h, if_neg (by decide)]; exact ⟨by decide, by decide⟩
theorem ceil_u {a b : Int} (ha : U a) (hb : 1 ≤ b) : U (ceilN a b) := by
  obtain ⟨a0, a1⟩ := ha
  have hq := quo_le a b a0 (by omega)
  unfold ceilN
  rw [if_neg (by omega)]
  split
  · exact ⟨hq.1, by omega⟩
  · rename_i h
    have := quo_lt a b a0 a1 (by omega) h
    exact ⟨by omega, this⟩
theorem oft_u {x : Ts} {w : Int} (hx : TsOk x) (hw : U w) : U (oftS x w) := ceil_u (satAdd_u hw.1 hx.j0) hx.t0
theorem hiF_u {p w s : Int} {x : Ts} (hx : TsOk x) (hw : U w) (hs : U s) : U (hiUF p w s x) := by
  unfold hiUF
  split
  · exact satAdd_u hs.1 (satMul_u (oft_u hx hw).1 (by have := hx.c0; omega)).1
  · exact hs
theorem hi_take_u {l : List Ts} {p w : Int} (h : Vs l) (hw : U w) (k : Nat) : U ((l.take k).foldl (hiUF p w) 0) := by
  have : ∀ (m : List Ts) (s : Int), (∀ x ∈ m, TsOk x) → U s → U (m.foldl (hiUF p w) s) := by
    intro m
    induction m with
    | nil => intro s _ hs; exact hs
    | cons a r ih => intro s hm hs; exact ih _ (fun x hx => hm x (by simp [hx])) (hiF_u (hm a (by simp)) hw hs)
  exact this _ _ (fun x hx => h.all x (List.mem_of_mem_take hx)) ⟨by decide, by decide⟩
theorem blkUF_bd {p b : Int} {x : Ts} (hx : TsOk x) (hb : 0 ≤ b ∧ b ≤ 2147483646) : 0 ≤ blkUF p b x ∧ blkUF p b x ≤ 2147483646 := by
  have := hx.q0
  have := hx.q1
  unfold blkUF
  split <;> omega
theorem blk_take_bd {l : List Ts} {p : Int} (h : Vs l) (k : Nat) : 0 ≤ (l.take k).foldl (blkUF p) 0 ∧ (l.take k).foldl (blkUF p) 0 ≤ 2147483646 := by
  have : ∀ (m : List Ts) (s : Int), (∀ x ∈ m, TsOk x) → (0 ≤ s ∧ s ≤ 2147483646) → (0 ≤ m.foldl (blkUF p) s ∧ m.foldl (blkUF p) s ≤ 2147483646) := by
    intro m
    induction m with
    | nil => intro s _ hs; exact hs
    | cons a r ih => intro s hm hs; exact ih _ (fun x hx => hm x (by simp [hx])) (blkUF_bd (hm a (by simp)) hs)
  exact this _ _ (fun x hx => h.all x (List.mem_of_mem_take hx)) ⟨by decide, by decide⟩
theorem blockI_bd (l : List Ts) (i : Int) : 0 ≤ blockI l i ∧ blockI l i ≤ 2147483646 := by
  unfold blockI
  split
  · rename_i h
    have := blk_take_bd (p := pOf l i) (isB_vs h) l.length
    rwa [List.take_length] at this
  · omega
theorem higherI_u (l : List Ts) (i w : Int) (hw : U w) : U (higherI l i w) := by
  unfold higherI
  split
  · rename_i h
    unfold hiU
    split
    · exact ⟨by decide, by decide⟩
    · have := hi_take_u (p := pOf l i) (isB_vs h) hw l.length
      rwa [List.take_length] at this
  · exact ⟨by decide, by decide⟩
theorem pOf_get {l : List Ts} {k : Nat} {y : Ts} (h : l[k]? = some y) : pOf l (k : Int) = y.p ∧ cOf l (k : Int) = y.c := by
  unfold pOf cOf
  rw [Int.toNat_natCast, List.getD_eq_getElem?_getD, h]
  exact ⟨rfl, rfl⟩
end Go.Proofs.YtnhddnldebdmbaaGreatDoor
/- Own rows of tasks: what LTak holds of them (where LTak is there, it stands in this text's place). -/
namespace Go.Proofs.YtnhddnldebdmbaaGreatDoor
open Go.RowKit
set_option linter.unusedVariables false
set_option linter.unusedSimpArgs false
theorem SetIn.rowR {B : Nat} {w : World} {v : Value} {k : Nat} {ts : List Ts} (h : SetIn B w v k ts) : ∃ A cap, v = .slice A ts.length cap ∧ Row w A cap ts := by
  rcases Nat.eq_zero_or_pos k with h0 | h0
  · subst h0
    obtain rfl := List.eq_nil_of_length_eq_zero h.len
    obtain ⟨A, cap, hv, hl, hm⟩ := Go.Proofs.YtnhddnldebdmbaaGreatDoor.own_len h.row
    exact ⟨A, cap, hv, Row.nil _ _ (by unfold maxLen at hm; omega)⟩
  · obtain ⟨g, cap, hv, hO⟩ := h.own h0
    exact ⟨_, cap, by rw [h.len]; exact hv, hO.row⟩
theorem SetIn.snoc {B : Nat} {w w' : World} {v v' : Value} {k : Nat} {ts : List Ts} {x : Ts} (h : SetIn B w v k ts) (hx : TsW x) (ho : w'.ownsRow B 40 7 v' (k + 1) (tsCells ts ++ tsL x)) : SetIn B w' v' (k + 1) (ts ++ [x]) :=
  ⟨by simp [h.len], fun y hy => by
    rcases List.mem_append.1 hy with hy | hy
    · exact h.wf y hy
    · obtain rfl := List.mem_singleton.1 hy
      exact hx, by rw [tsCells_snoc]; exact ho⟩
end Go.Proofs.YtnhddnldebdmbaaGreatDoor
/- A set, all of whose times are so many times as great. -/
namespace Go.Proofs.YtnhddnldebdmbaaGreatDoor
open Go.RowKit
set_option linter.unusedVariables false
set_option linter.unusedSimpArgs false
theorem low25 (n : Int) : ∃ m : Nat, m < 33554432 ∧ bits .and .i64 n 33554431 = (m : Int) := by
  have h : (BitVec.ofInt 64 n &&& BitVec.ofInt 64 33554431).toNat ≤ 33554431 := by
    rw [BitVec.toNat_and]
    exact Nat.and_le_right
  have e : bits .and .i64 n 33554431 = IntKind.i64.wrap (((BitVec.ofInt 64 n &&& BitVec.ofInt 64 33554431).toNat : Nat) : Int) := rfl
  rw [e]
  generalize (BitVec.ofInt 64 n &&& BitVec.ofInt 64 33554431).toNat = z at *
  exact ⟨z, by omega, IntWalk.i64_in _ (by omega)⟩
/-- How many times. -/
def kOf (n : Int) : Int := 1 + bits .and .i64 n 33554431
theorem kOf_bd (n : Int) : 1 ≤ kOf n ∧ kOf n ≤ 33554432 := by
  obtain ⟨m, hm, e⟩ := low25 n
  unfold kOf
  rw [e]
  omega
def sclG (k : Int) (x : Ts) : Ts := ⟨x.n, x.c * k, x.t * k, x.d * k, x.j * k, x.q * k, x.p⟩
/-- Times that are small. -/
structure Sm20 (x : Ts) : Prop where
  c : 0 ≤ x.c ∧ x.c ≤ 20
  t : 0 ≤ x.t ∧ x.t ≤ 20
  d : 0 ≤ x.d ∧ x.d ≤ 20
  j : 0 ≤ x.j ∧ x.j ≤ 20
  q : 0 ≤ x.q ∧ x.q ≤ 20
theorem sm20_of {ts : List Ts} (h : SFs ts) : ∀ x ∈ ts, Sm20 x := fun x hx => by
  obtain ⟨i, hi, rfl⟩ := List.getElem_of_mem hx
  have s := h i _ (List.getElem?_eq_getElem hi)
  have := s.c0; have := s.c1; have := s.d0; have := s.d1; have := s.j0; have := s.t0; have := s.t1; have := s.q0; have := s.q1
  exact ⟨by omega, by omega, by omega, by omega, by omega⟩
theorem mul20 {a k : Int} (ha : 0 ≤ a ∧ a ≤ 20) (hk : 1 ≤ k ∧ k ≤ 33554432) : 0 ≤ a * k ∧ a * k ≤ 671088640 :=
  ⟨Int.mul_nonneg ha.1 (by omega), Int.mul_le_mul ha.2 hk.2 (by omega) (by omega)⟩
theorem sclG_w {x : Ts} {k : Int} (hx : TsW x) (hs : Sm20 x) (hk : 1 ≤ k ∧ k ≤ 33554432) : TsW (sclG k x) := by
  have h1 := mul20 hs.c hk
  have h2 := mul20 hs.t hk
  have h3 := mul20 hs.d hk
  have h4 := mul20 hs.j hk
  have h5 := mul20 hs.q hk
  exact ⟨hx.n, (show in64 (x.c * k) from ⟨by omega, by omega⟩), (show in64 (x.t * k) from ⟨by omega, by omega⟩), (show in64 (x.d * k) from ⟨by omega, by omega⟩), (show in64 (x.j * k) from ⟨by omega, by omega⟩), (show in64 (x.q * k) from ⟨by omega, by omega⟩), hx.p⟩
theorem scl_step {k : Int} {l : List Ts} {i : Nat} {x : Ts} (hx : l[i]? = some x) : (l.take (i + 1)).map (sclG k) = (l.take i).map (sclG k) ++ [sclG k x] := by
  obtain ⟨hk, e⟩ := List.getElem?_eq_some_iff.1 hx
  rw [List.take_succ_eq_append_getElem hk, List.map_append, e]
  rfl
/-- What great tells. -/
def GrP (l : List Ts) (k : Int) (w : World) (e : Ending) (w' : World) : Prop := ∃ A cap, e = .returned (.slice A (l.map (sclG k)).length cap) ∧ Row w' A cap (l.map (sclG k)) ∧ Below w.heap.size w w'
end Go.Proofs.YtnhddnldebdmbaaGreatDoor
/- What comes ahead, in numbers that are not cut off: plain words for the laws. -/
namespace Go.Proofs.YtnhddnldebdmbaaGreatDoor
open Go.RowKit
set_option linter.unusedVariables false
set_option linter.unusedSimpArgs false
theorem ceil_is {a t : Int} (ha : 0 ≤ a) (ht : 1 ≤ t) : ceilN a t = ceilI a t := by
  unfold ceilN ceilI
  rw [if_neg (by omega)]
  have e := Int.emod_add_mul_ediv a t
  have r0 := Int.emod_nonneg a (show t ≠ 0 by omega)
  have r1 := Int.emod_lt_of_pos a (show 0 < t by omega)
  generalize a / t = q at *
  generalize a % t = r at *
  by_cases h : r = 0
  · rw [if_pos h]
    rw [show a + t - 1 = (t - 1) + t * q by omega, Int.add_mul_ediv_left _ _ (by omega), Int.ediv_eq_zero_of_lt (by omega) (by omega)]
    omega
  · rw [if_neg h]
    rw [show a + t - 1 = (r - 1) + t * (q + 1) by rw [Int.mul_add]; omega, Int.add_mul_ediv_left _ _ (by omega), Int.ediv_eq_zero_of_lt (by omega) (by omega)]
    omega
theorem ceilI_nonneg {a t : Int} (ha : 0 ≤ a) (ht : 1 ≤ t) : 0 ≤ ceilI a t := Int.ediv_nonneg (by omega) (by omega)
theorem satMul_fit {a b : Int} (h : a * b ≤ 18446744073709551615) : satMul a b = a * b := by
  unfold satMul endN mulB mulN
  rw [decide_eq_true h, if_pos rfl, if_pos h]
theorem satAdd_fit {a b : Int} (h : a + b ≤ 18446744073709551615) : satAdd a b = a + b := by unfold satAdd; rw [if_pos h]
/-- What one task adds. -/
def addH (p w : Int) (x : Ts) : Int := if x.p < p then ceilI (w + x.j) x.t * x.c else 0
theorem addH_nonneg {p w : Int} {x : Ts} (hx : TsOk x) (hw : 0 ≤ w) : 0 ≤ addH p w x := by
  have := hx.c0; have := hx.t0; have := hx.j0
  unfold addH
  split
  · exact Int.mul_nonneg (ceilI_nonneg (by omega) hx.t0) (by omega)
  · omega
/-- Nothing is cut off. -/
structure Fits (B w : Int) (l : List Ts) : Prop where
  j : ∀ x ∈ l, w + x.j ≤ 18446744073709551615
  b : ∀ x ∈ l, ceilI (w + x.j) x.t * x.c ≤ B
  s : (l.length : Int) * B ≤ 18446744073709551615
  B0 : 0 ≤ B
theorem hi_fold {p w B : Int} (hw : 0 ≤ w) : ∀ (l : List Ts) (s : Int), (∀ x ∈ l, TsOk x) → (∀ x ∈ l, w + x.j ≤ 18446744073709551615) → (∀ x ∈ l, ceilI (w + x.j) x.t * x.c ≤ B) → 0 ≤ s → 0 ≤ B → s + (l.length : Int) * B ≤ 18446744073709551615 →
    l.foldl (hiUF p w) s = s + (l.map (addH p w)).sum
  | [], s, _, _, _, _, _, _ => by simp
  | x :: l, s, hv, hj, hb, hs, hB, h => by
    have hx := hv x (by simp)
    have hxj := hj x (by simp)
    have hxb := hb x (by simp)
    have hl : ((x :: l).length : Int) * B = (l.length : Int) * B + B := by rw [List.length_cons, Int.natCast_succ, Int.add_mul, Int.one_mul]
    have hlB : 0 ≤ (l.length : Int) * B := Int.mul_nonneg (by omega) hB
    have h0 := addH_nonneg (p := p) hx hw
    have h1 : addH p w x ≤ B := by unfold addH; split <;> omega
    have e : hiUF p w s x = s + addH p w x := by
      unfold hiUF addH oftS
      split
      · have := hx.j0; have := hx.t0
        have hc0 := Int.mul_nonneg (ceilI_nonneg (a := w + x.j) (by omega) hx.t0) (show 0 ≤ x.c by have := hx.c0; omega)
        rw [satAdd_fit hxj, ceil_is (by omega) hx.t0, satMul_fit (by omega), satAdd_fit (by omega)]
      · omega
    rw [List.foldl_cons, e, hi_fold hw l _ (fun y hy => hv y (by simp [hy])) (fun y hy => hj y (by simp [hy])) (fun y hy => hb y (by simp [hy])) (by omega) hB (by omega), List.map_cons, List.sum_cons]
    omega
theorem hiU_fits {l : List Ts} {p w B : Int} (hv : Vs l) (hw : 1 ≤ w) (hf : Fits B w l) : hiU p w l = (l.map (addH p w)).sum := by
  unfold hiU
  rw [if_neg (by omega), hi_fold (by omega) l 0 hv.all hf.j hf.b (by omega) hf.B0 (by have := hf.s; omega)]
  omega
theorem ceilI_mono {a b t : Int} (ht : 1 ≤ t) (h : a ≤ b) : ceilI a t ≤ ceilI b t := Int.ediv_le_ediv (by omega) (by omega)
theorem ceilI_step {a t : Int} (ht : 1 ≤ t) : ceilI (a + 1) t ≤ ceilI a t + 1 := by
  unfold ceilI
  have h1 : a + 1 + t - 1 ≤ (a + t - 1) + t * 1 := by omega
  have h2 := Int.ediv_le_ediv (show 0 < t by omega) h1
  rwa [Int.add_mul_ediv_left _ _ (by omega)] at h2
theorem ceilI_le {a t : Int} (ha : 0 ≤ a) (ht : 1 ≤ t) : ceilI a t ≤ a := by
  unfold ceilI
  refine Int.le_of_lt_add_one ?_
  refine Int.ediv_lt_of_lt_mul (by omega) ?_
  have : (a + 1) * 1 ≤ (a + 1) * t := Int.mul_le_mul_of_nonneg_left ht (by omega)
  have e : (a + 1) * t = a * t + t := by rw [Int.add_mul, Int.one_mul]
  have : a * 1 ≤ a * t := Int.mul_le_mul_of_nonneg_left ht ha
  omega
theorem ceilI_one {a t : Int} (h1 : 1 ≤ a) (h2 : a ≤ t) : ceilI a t = 1 := by
  unfold ceilI
  rw [show a + t - 1 = (a - 1) + t * 1 by omega, Int.add_mul_ediv_left _ _ (by omega), Int.ediv_eq_zero_of_lt (by omega) (by omega)]
  omega
theorem sum_leD {l : List Ts} {f g : Ts → Int} (h : ∀ x ∈ l, f x ≤ g x) : (l.map f).sum ≤ (l.map g).sum := by
  induction l with
  | nil => simp
  | cons a r ih =>
    have h1 := h a (by simp)
    have h2 := ih fun x hx => h x (by simp [hx])
    simp only [List.map_cons, List.sum_cons]
    omega
theorem sum_eq {l : List Ts} {f g : Ts → Int} (h : ∀ x ∈ l, f x = g x) : (l.map f).sum = (l.map g).sum := by
  rw [List.map_congr_left h]
theorem sum_plus (l : List Ts) (f g : Ts → Int) : (l.map fun x => f x + g x).sum = (l.map f).sum + (l.map g).sum := by
  induction l with
  | nil => simp
  | cons a r ih => simp only [List.map_cons, List.sum_cons, ih]; omega
theorem sum_times (l : List Ts) (f : Ts → Int) (k : Int) : (l.map fun x => f x * k).sum = (l.map f).sum * k := by
  induction l with
  | nil => simp
  | cons a r ih => simp only [List.map_cons, List.sum_cons, ih, Int.add_mul]
/-- All work of each more urgent task, once. -/
def allC (p : Int) (l : List Ts) : Int := (l.map fun x => if x.p < p then x.c else 0).sum
theorem hi_grow {l : List Ts} (p w : Int) (hv : Vs l) (hw : 0 ≤ w) : (l.map (addH p w)).sum ≤ (l.map (addH p (w + 1))).sum ∧ (l.map (addH p (w + 1))).sum ≤ (l.map (addH p w)).sum + allC p l := by
  constructor
  · refine sum_leD fun x hx => ?_
    have ho := hv.all x hx
    unfold addH
    split
    · exact Int.mul_le_mul_of_nonneg_right (ceilI_mono ho.t0 (by omega)) (by have := ho.c0; omega)
    · exact Int.le_refl _
  · unfold allC
    rw [← sum_plus]
    refine sum_leD fun x hx => ?_
    have ho := hv.all x hx
    unfold addH
    split
    · have h1 := ceilI_step (a := w + x.j) ho.t0
      have h2 := Int.mul_le_mul_of_nonneg_right h1 (show 0 ≤ x.c by have := ho.c0; omega)
      rw [show w + x.j + 1 = w + 1 + x.j by omega, Int.add_mul, Int.one_mul] at h2
      exact h2
    · omega
/-- The first tick: each more urgent task once. -/
theorem hi_first {l : List Ts} (p : Int) (hv : Vs l) (hj : ∀ x ∈ l, x.j < x.t) : (l.map (addH p 1)).sum = allC p l := by
  unfold allC
  refine sum_eq fun x hx => ?_
  have ho := hv.all x hx
  have := ho.j0
  unfold addH
  split
  · rw [ceilI_one (by omega) (by have := hj x hx; omega), Int.one_mul]
  · rfl
/-! ### Less urgent ones -/
theorem foldl_hi_le {p p' w : Int} (hp : p ≤ p') (hw : U w) : ∀ (l : List Ts) (s s' : Int), (∀ x ∈ l, TsOk x) → 0 ≤ s → s ≤ s' → U s' → l.foldl (hiUF p w) s ≤ l.foldl (hiUF p' w) s'
  | [], s, s', _, _, h, _ => h
  | x :: l, s, s', hv, h0, h, hs' => by
    have hx := hv x (by simp)
    have hm := satMul_u (oft_u hx hw).1 (show 0 ≤ x.c by have := hx.c0; omega)
    rw [List.foldl_cons, List.foldl_cons]
    refine foldl_hi_le hp hw l _ _ (fun y hy => hv y (by simp [hy])) ?_ ?_ (hiF_u hx hw hs')
    · unfold hiUF satAdd
      split
      · split <;> (have := hm.1; omega)
      · exact h0
    · have h1 := hm.1
      have h2 := hm.2
      have h3 := hs'.2
      by_cases a : x.p < p
      · simp only [hiUF, if_pos a, if_pos (show x.p < p' by omega), satAdd]
        split <;> split <;> omega
      · by_cases b : x.p < p'
        · simp only [hiUF, if_neg a, if_pos b, satAdd]
          split <;> omega
        · simp only [hiUF, if_neg a, if_neg b]
          exact h
theorem hi_urgent {l : List Ts} {p p' w : Int} (hv : Vs l) (hp : p ≤ p') (hw : U w) : hiU p w l ≤ hiU p' w l := by
  unfold hiU
  split
  · exact Int.le_refl _
  · exact foldl_hi_le hp hw l 0 0 hv.all (by omega) (by omega) ⟨by decide, by decide⟩
theorem hi_none {l : List Ts} {p w : Int} (h : ∀ x ∈ l, ¬ x.p < p) : hiU p w l = 0 := by
  unfold hiU
  split
  · rfl
  · have : ∀ (m : List Ts) (s : Int), (∀ x ∈ m, ¬ x.p < p) → m.foldl (hiUF p w) s = s := by
      intro m
      induction m with
      | nil => intro s _; rfl
      | cons a r ih =>
        intro s hm
        rw [List.foldl_cons, show hiUF p w s a = s by unfold hiUF; rw [if_neg (hm a (by simp))]]
        exact ih s fun x hx => hm x (by simp [hx])
    exact this l 0 h
/-- What blocks, as the greatest Q. -/
def mostQ (p : Int) (l : List Ts) : Int := l.foldl (fun b x => if x.p > p then max b x.q else b) 0
theorem blk_most (p : Int) : ∀ (l : List Ts) (b m : Int), (∀ x ∈ l, 1 ≤ x.q) → b = max (m - 1) 0 → 0 ≤ m → l.foldl (blkUF p) b = max (l.foldl (fun b x => if x.p > p then max b x.q else b) m - 1) 0
  | [], b, m, _, h, _ => h
  | x :: l, b, m, hq, h, hm => by
    have hx := hq x (by simp)
    rw [List.foldl_cons, List.foldl_cons]
    refine blk_most p l _ _ (fun y hy => hq y (by simp [hy])) ?_ ?_
    · unfold blkUF
      split <;> omega
    · split <;> omega
theorem blk_is {l : List Ts} (p : Int) (hv : Vs l) : blkU p l = max (mostQ p l - 1) 0 := blk_most p l 0 0 (fun x hx => (hv.all x hx).q0) (by omega) (by omega)
theorem most_mono {p p' : Int} (hp : p ≤ p') : ∀ (l : List Ts) (a b : Int), (∀ x ∈ l, 1 ≤ x.q) → b ≤ a → 0 ≤ b → l.foldl (fun b x => if x.p > p' then max b x.q else b) b ≤ l.foldl (fun b x => if x.p > p then max b x.q else b) a
  | [], a, b, _, h, _ => h
  | x :: l, a, b, hq, h, h0 => by
    have hx := hq x (by simp)
    rw [List.foldl_cons, List.foldl_cons]
    refine most_mono hp l _ _ (fun y hy => hq y (by simp [hy])) ?_ ?_
    · by_cases c : x.p > p'
      · rw [if_pos c, if_pos (by omega)]; omega
      · rw [if_neg c]; split <;> omega
    · split <;> omega
theorem blk_urgent {l : List Ts} {p p' : Int} (hv : Vs l) (hp : p ≤ p') : blkU p' l ≤ blkU p l := by
  have := most_mono hp l 0 0 (fun x hx => (hv.all x hx).q0) (by omega) (by omega)
  rw [blk_is p hv, blk_is p' hv]
  unfold mostQ
  omega
theorem blk_none {l : List Ts} {p : Int} (h : ∀ x ∈ l, ¬ x.p > p) : blkU p l = 0 := by
  unfold blkU
  have : ∀ (m : List Ts) (s : Int), (∀ x ∈ m, ¬ x.p > p) → m.foldl (blkUF p) s = s := by
    intro m
    induction m with
    | nil => intro s _; rfl
    | cons a r ih =>
      intro s hm
      rw [List.foldl_cons, show blkUF p s a = s by unfold blkUF; rw [if_neg (hm a (by simp))]]
      exact ih s fun x hx => hm x (by simp [hx])
  exact this l 0 h
/-! ### So many times as great -/
theorem ceil_scl {a t k : Int} (hk : 0 < k) (ht : 1 ≤ t) : ceilI (a * k) (t * k) = ceilI a t := by
  unfold ceilI
  have e := Int.emod_add_mul_ediv (a + t - 1) t
  have r0 := Int.emod_nonneg (a + t - 1) (show t ≠ 0 by omega)
  have r1 := Int.emod_lt_of_pos (a + t - 1) (show 0 < t by omega)
  generalize (a + t - 1) / t = q at *
  generalize (a + t - 1) % t = r at *
  have h1 : a * k + t * k - 1 = (r * k + k - 1) + t * k * q := by
    have : (a + t - 1) * k = (r + t * q) * k := by rw [e]
    grind
  have h2 : r * k + k ≤ t * k := by
    have := Int.mul_le_mul_of_nonneg_right (show r + 1 ≤ t by omega) (show 0 ≤ k by omega)
    rw [Int.add_mul, Int.one_mul] at this
    exact this
  have h3 : 0 ≤ r * k := Int.mul_nonneg r0 (by omega)
  have h4 : 0 < t * k := Int.mul_pos (by omega) hk
  rw [h1, Int.add_mul_ediv_left _ _ (by omega), Int.ediv_eq_zero_of_lt (by omega) (by omega)]
  omega
theorem add_scl {p w k : Int} (hk : 0 < k) {x : Ts} (hx : TsOk x) : addH p (w * k) (sclG k x) = addH p w x * k := by
  have e : w * k + x.j * k = (w + x.j) * k := by rw [Int.add_mul]
  unfold addH sclG
  simp only
  split
  · rw [e, ceil_scl hk hx.t0, Int.mul_assoc]
  · rw [Int.zero_mul]
theorem most_scl {k p : Int} (hk : 0 < k) : ∀ (l : List Ts) (m : Int), (l.map (sclG k)).foldl (fun b x => if x.p > p then max b x.q else b) (m * k) = l.foldl (fun b x => if x.p > p then max b x.q else b) m * k
  | [], m => rfl
  | x :: l, m => by
    rw [List.map_cons, List.foldl_cons, List.foldl_cons]
    have e : (if (sclG k x).p > p then max (m * k) (sclG k x).q else m * k) = (if x.p > p then max m x.q else m) * k := by
      show (if x.p > p then max (m * k) (x.q * k) else m * k) = _
      split
      · rcases Int.le_total m x.q with h | h
        · have := Int.mul_le_mul_of_nonneg_right h (show 0 ≤ k by omega)
          rw [Int.max_eq_right h, Int.max_eq_right this]
        · have := Int.mul_le_mul_of_nonneg_right h (show 0 ≤ k by omega)
          rw [Int.max_eq_left h, Int.max_eq_left this]
      · rfl
    rw [e]
    exact most_scl hk l _
theorem sclG_check {i : Nat} {x : Ts} {k : Int} (h : SF i x) (hi : i < 8) (h1 : 1 ≤ x.p) (h2 : x.p ≤ 8) (hk : 1 ≤ k ∧ k ≤ 33554432) : checkE (sclG k x) = 0 := by
  have a1 := h.c0; have a2 := h.c1; have a3 := h.d0; have a4 := h.d1; have a5 := h.j0; have a6 := h.t0; have a7 := h.t1; have a8 := h.q0; have a9 := h.q1
  have c1 := mul20 (a := x.c) ⟨by omega, by omega⟩ hk
  have t1 := mul20 (a := x.t) ⟨by omega, by omega⟩ hk
  have d1 := mul20 (a := x.d) ⟨by omega, by omega⟩ hk
  have j1 := mul20 (a := x.j) ⟨by omega, by omega⟩ hk
  have q1 := mul20 (a := x.q) ⟨by omega, by omega⟩ hk
  have c2 : 1 * 1 ≤ x.c * k := Int.mul_le_mul a1 hk.1 (by omega) (by omega)
  have t2 : 1 * 1 ≤ x.t * k := Int.mul_le_mul (show 1 ≤ x.t by omega) hk.1 (by omega) (by omega)
  have d2 : 1 * 1 ≤ x.d * k := Int.mul_le_mul (show 1 ≤ x.d by omega) hk.1 (by omega) (by omega)
  have q2 : 1 * 1 ≤ x.q * k := Int.mul_le_mul a8 hk.1 (by omega) (by omega)
  have e1 := Int.mul_le_mul_of_nonneg_right a9 (show 0 ≤ k by omega)
  have e2 := Int.mul_le_mul_of_nonneg_right a3 (show 0 ≤ k by omega)
  have e3 := Int.mul_le_mul_of_nonneg_right a6 (show 0 ≤ k by omega)
  rw [Int.add_mul] at e2
  have hb := sf_check h hi h1 h2
  have hn : namedB x = true := by
    by_cases hh : (namedB x && rangedB x) = true
    · simp only [Bool.and_eq_true] at hh; exact hh.1
    · rw [checkE, if_neg hh] at hb; omega
  have hn' : namedB (sclG k x) = true := hn
  have hr : rangedB (sclG k x) = true := by
    show (inB (x.c * k) 1 2147483647 && (inB (x.t * k) 1 2147483647 && (inB (x.d * k) 1 2147483647 && (inB (x.q * k) 1 2147483647 && (inB (x.j * k) 0 2147483647 && inB x.p 1 1048576))))) = true
    rw [inB_yes (n := x.c * k) (by omega), inB_yes (n := x.t * k) (by omega), inB_yes (n := x.d * k) (by omega), inB_yes (n := x.q * k) (by omega), inB_yes (n := x.j * k) (by omega), inB_yes (n := x.p) (by omega)]
    rfl
  have ho : overB (sclG k x) = false := by
    show decide (x.q * k > x.c * k ∨ x.c * k + x.j * k > x.d * k ∨ x.d * k > x.t * k) = false
    exact decide_eq_false (by omega)
  rw [checkE, hn', hr, ho]
  rfl
theorem great_ok {ts : List Ts} {k : Int} (h1 : 1 ≤ ts.length) (h8 : ts.length ≤ 8) (hd : Dist ts) (hs : SFs ts) (hp : ∀ (i : Nat) (x : Ts), ts[i]? = some x → 1 ≤ x.p ∧ x.p ≤ 8) (hk : 1 ≤ k ∧ k ≤ 33554432) : (chkAll (ts.map (sclG k))).2 = 0 := by
  rw [chkAll, List.length_map, if_neg (by omega)]
  refine chkFrom_good _ [] (fun x hx => ?_) (fun i j x y hx hy he => ?_)
  · obtain ⟨z, hz, rfl⟩ := List.mem_map.1 hx
    obtain ⟨i, hi, rfl⟩ := List.getElem_of_mem hz
    have hg := List.getElem?_eq_getElem hi
    exact sclG_check (hs i _ hg) (by omega) (hp i _ hg).1 (hp i _ hg).2 hk
  · simp only [List.nil_append] at hx hy
    rw [List.getElem?_map] at hx hy
    obtain ⟨a, ha, rfl⟩ := Option.map_eq_some_iff.1 hx
    obtain ⟨b, hb, rfl⟩ := Option.map_eq_some_iff.1 hy
    rcases he with he | he
    · have e1 := (hs i a ha).n
      have e2 := (hs j b hb).n
      have hi := (List.getElem?_eq_some_iff.1 ha).1
      have hj := (List.getElem?_eq_some_iff.1 hb).1
      have he' : a.n = b.n := he
      rw [e1, e2] at he'
      exact name_t_inj i (by omega) j (by omega) he'
    · exact hd i j a b ha hb he
end Go.Proofs.YtnhddnldebdmbaaGreatDoor
/- Sets by numbers: what the laws ask of them. -/
namespace Go.Proofs.YtnhddnldebdmbaaGreatDoor
open Go.RowKit
set_option linter.unusedVariables false
set_option linter.unusedSimpArgs false
/-- A set by numbers. -/
structure St (ts : List Ts) : Prop where
  n1 : 1 ≤ ts.length
  n6 : ts.length ≤ 6
  d : Dist ts
  s : SFs ts
  p : ∀ (i : Nat) (x : Ts), ts[i]? = some x → 1 ≤ x.p ∧ x.p ≤ 8
theorem St.chk {ts : List Ts} (h : St ts) : (chkAll ts).2 = 0 := set_ok h.n1 (by have := h.n6; omega) h.d h.s h.p
theorem St.vs {ts : List Ts} (h : St ts) : Vs ts := vs_of h.chk
theorem isB_at {l : List Ts} {k : Nat} {y : Ts} (hc : (chkAll l).2 = 0) (hy : l[k]? = some y) : isB l (k : Int) = true := by
  have hk := (List.getElem?_eq_some_iff.1 hy).1
  unfold isB
  rw [decide_eq_true hc, decide_eq_true (show (0 : Int) ≤ (k : Int) by omega), decide_eq_true (show (k : Int) < (l.length : Int) by omega)]
  rfl
theorem block_at {l : List Ts} {k : Nat} {y : Ts} (hc : (chkAll l).2 = 0) (hy : l[k]? = some y) : blockI l (k : Int) = blkU y.p l := by
  unfold blockI
  rw [isB_at hc hy, if_pos rfl, (pOf_get hy).1]
theorem higher_at {l : List Ts} {k : Nat} {y : Ts} (hc : (chkAll l).2 = 0) (hy : l[k]? = some y) (v : Int) : higherI l (k : Int) v = hiU y.p v l := by
  unfold higherI
  rw [isB_at hc hy, if_pos rfl, (pOf_get hy).1]
theorem need_at {l : List Ts} {k : Nat} {y : Ts} (hc : (chkAll l).2 = 0) (hy : l[k]? = some y) (v : Int) : needI l (k : Int) v = satSum 0 [y.c, blkU y.p l, hiU y.p v l] := by
  unfold needI
  rw [isB_at hc hy, if_pos rfl, (pOf_get hy).2, block_at hc hy, higher_at hc hy]
theorem St.sf {ts : List Ts} (h : St ts) {x : Ts} (hx : x ∈ ts) : ∃ i, SF i x := by
  obtain ⟨i, hi, rfl⟩ := List.getElem_of_mem hx
  exact ⟨i, h.s i _ (List.getElem?_eq_getElem hi)⟩
theorem St.fits {ts : List Ts} (h : St ts) {w : Int} (h0 : 0 ≤ w) (h1 : w ≤ 1099511627776) : Fits 5000000000000 w ts := by
  have h6 := h.n6
  refine ⟨fun x hx => ?_, fun x hx => ?_, by omega, by omega⟩
  · obtain ⟨i, s⟩ := h.sf hx
    have := s.d0; have := s.d1; have := s.c0
    omega
  · obtain ⟨i, s⟩ := h.sf hx
    have d0 := s.d0; have d1 := s.d1; have c0 := s.c0; have c1 := s.c1; have j0 := s.j0; have t0 := s.t0
    have e := ceilI_le (a := w + x.j) (t := x.t) (by omega) (by omega)
    have e0 := ceilI_nonneg (a := w + x.j) (t := x.t) (by omega) (by omega)
    have m : ceilI (w + x.j) x.t * x.c ≤ (w + x.j) * 4 := Int.mul_le_mul e c1 (by omega) (by omega)
    omega
/-- The work ahead, as a sum. -/
theorem St.hi {ts : List Ts} (h : St ts) {w : Int} (h0 : 0 ≤ w) (h1 : w ≤ 1099511627776) (p : Int) : hiU p w ts = if w = 0 then 0 else (ts.map (addH p w)).sum := by
  split
  · rename_i e; subst e; rfl
  · exact hiU_fits h.vs (by omega) (h.fits h0 h1)
theorem sum_bdD {l : List Ts} {f : Ts → Int} {B : Int} (hf : ∀ x ∈ l, 0 ≤ f x ∧ f x ≤ B) : 0 ≤ (l.map f).sum ∧ (l.map f).sum ≤ (l.length : Int) * B := by
  induction l with
  | nil => simp
  | cons a r ih =>
    have := hf a (by simp)
    have := ih fun x hx => hf x (by simp [hx])
    simp only [List.map_cons, List.sum_cons, List.length_cons, Int.natCast_succ, Int.add_mul, Int.one_mul]
    omega
theorem St.hi_bd {ts : List Ts} (h : St ts) {w : Int} (h0 : 0 ≤ w) (h1 : w ≤ 1099511627776) (p : Int) : 0 ≤ (ts.map (addH p w)).sum ∧ (ts.map (addH p w)).sum ≤ 30000000000000 := by
  have hb := sum_bdD (l := ts) (f := addH p w) (B := 5000000000000) fun x hx => ⟨addH_nonneg (h.vs.all x hx) h0, by
    have := (h.fits h0 h1).b x hx
    unfold addH
    split <;> omega⟩
  have h6 := h.n6
  omega
theorem St.all_bd {ts : List Ts} (h : St ts) (p : Int) (j : Nat) : 0 ≤ allC p (ts.take j) ∧ allC p (ts.take j) ≤ 24 := by
  have hb := sum_bdD (l := ts.take j) (f := fun x => if x.p < p then x.c else 0) (B := 4) fun x hx => by
    obtain ⟨i, s⟩ := h.sf (List.mem_of_mem_take hx)
    have := s.c0; have := s.c1
    split <;> omega
  have h6 := h.n6
  have hl : (ts.take j).length ≤ 6 := by rw [List.length_take]; omega
  unfold allC
  omega
theorem allC_snoc {p : Int} {l : List Ts} {j : Nat} {x : Ts} (hx : l[j]? = some x) : allC p (l.take (j + 1)) = allC p (l.take j) + if x.p < p then x.c else 0 := by
  obtain ⟨hk, e⟩ := List.getElem?_eq_some_iff.1 hx
  unfold allC
  rw [List.take_succ_eq_append_getElem hk, List.map_append, List.sum_append, e]
  simp
theorem St.blk_bd {ts : List Ts} (h : St ts) (p : Int) : 0 ≤ blkU p ts ∧ blkU p ts ≤ 2147483646 := by
  have := blk_take_bd (p := p) h.vs ts.length
  rwa [List.take_of_length_le (Nat.le_refl _)] at this
/-- Need: nothing is cut off. -/
theorem St.need {ts : List Ts} (h : St ts) {k : Nat} {y : Ts} (hy : ts[k]? = some y) {w : Int} (h0 : 0 ≤ w) (h1 : w ≤ 1099511627776) :
    needI ts (k : Int) w = y.c + blkU y.p ts + if w = 0 then 0 else (ts.map (addH y.p w)).sum := by
  obtain ⟨i, s⟩ := h.sf (List.mem_of_getElem? hy)
  have c0 := s.c0; have c1 := s.c1
  have b := h.blk_bd y.p
  have hb := h.hi_bd h0 h1 y.p
  rw [need_at h.chk hy, h.hi h0 h1]
  generalize (ts.map (addH y.p w)).sum = S at *
  obtain ⟨z, hz, z0, z1⟩ : ∃ z : Int, (if w = 0 then 0 else S) = z ∧ 0 ≤ z ∧ z ≤ 30000000000000 := by split <;> exact ⟨_, rfl, by omega, by omega⟩
  rw [hz]
  simp only [satSum, List.foldl_cons, List.foldl_nil]
  rw [satAdd_fit (a := 0) (b := y.c) (by omega), satAdd_fit (a := 0 + y.c) (b := blkU y.p ts) (by omega), satAdd_fit (a := 0 + y.c + blkU y.p ts) (b := z) (by omega)]
  omega
/-- What DemandGrows asks. -/
theorem grows_pure {ts : List Ts} (h : St ts) {k : Nat} {y : Ts} (hy : ts[k]? = some y) {w : Int} (h0 : 0 ≤ w) (h1 : w < 1099511627776) :
    needI ts k w ≤ needI ts k (w + 1) ∧ needI ts k (w + 1) ≤ needI ts k w + allC y.p ts * 2 ∧ needI ts k 0 = y.c + blockI ts k ∧ needI ts k 0 ≤ needI ts k w ∧ 0 ≤ needI ts k w ∧ needI ts k w ≤ 40000000000000 ∧ 0 ≤ needI ts k (w + 1) ∧ 0 ≤ needI ts k 0 := by
  obtain ⟨i, s⟩ := h.sf (List.mem_of_getElem? hy)
  have c0 := s.c0; have c1 := s.c1
  have b := h.blk_bd y.p
  have hb := h.hi_bd h0 (by omega) y.p
  have hb1 := h.hi_bd (w := w + 1) (by omega) (by omega) y.p
  have hg := hi_grow y.p w h.vs h0
  have ha := h.all_bd y.p ts.length
  rw [List.take_of_length_le (Nat.le_refl _)] at ha
  have hf := hi_first y.p h.vs fun x hx => by
    obtain ⟨i, s⟩ := h.sf hx
    have := s.d0; have := s.c0; have := s.t0
    omega
  rw [h.need hy h0 (by omega), h.need hy (w := w + 1) (by omega) (by omega), h.need hy (w := 0) (by omega) (by omega), block_at h.chk hy, if_neg (show ¬ (w + 1 = 0) by omega), if_pos rfl]
  by_cases e : w = 0
  · subst e
    simp only [Int.zero_add, if_true] at *
    refine ⟨?_, ?_, ?_, ?_, ?_, ?_, ?_, ?_⟩ <;> omega
  · rw [if_neg e]
    refine ⟨?_, ?_, ?_, ?_, ?_, ?_, ?_, ?_⟩ <;> omega
theorem low40D (n : Int) : ∃ m : Nat, m < 1099511627776 ∧ bits .and .u64 n 1099511627775 = (m : Int) := by
  have h : (BitVec.ofInt 64 n &&& BitVec.ofInt 64 1099511627775).toNat ≤ 1099511627775 := by
    rw [BitVec.toNat_and]
    exact Nat.and_le_right
  have e : bits .and .u64 n 1099511627775 = IntKind.u64.wrap (((BitVec.ofInt 64 n &&& BitVec.ofInt 64 1099511627775).toNat : Nat) : Int) := rfl
  rw [e]
  generalize (BitVec.ofInt 64 n &&& BitVec.ofInt 64 1099511627775).toNat = z at *
  exact ⟨z, by omega, by rw [IntKind.wrap_u64]; omega⟩
end Go.Proofs.YtnhddnldebdmbaaGreatDoor
/- What can come ahead: the document's own answers. -/
namespace Go.Proofs.YtnhddnldebdmbaaGreatDoor
open Go.RowKit
set_option linter.unusedVariables false
set_option linter.unusedSimpArgs false
set_option maxRecDepth 100000 in
theorem got_fieldD (a q : Int) (w : World) : (Instr.field 51 (.agg #[.int .i64 a, .int .i64 q]) 1).run Tryz.prog w = .ok (.int .i64 q) w := by rfl
theorem ret_k {k : IntKind} {a b : Int} (h : a = b) : Ending.returned (.int k a) = .returned (.int k b) := by rw [h]
/-- The document's End of a sum, and of a product. -/
theorem endN_add (a b : Int) : endN (addB a b) (addNN a b) = satAdd a b := by
  unfold endN addB addNN satAdd
  by_cases h : a + b ≤ 18446744073709551615
  · rw [decide_eq_true h, if_pos rfl, if_pos h, if_pos h]
  · rw [decide_eq_false h, if_neg (by decide), if_neg h]
end Go.Proofs.YtnhddnldebdmbaaGreatDoor
/- Need: the document's own answer. -/
namespace Go.Proofs.YtnhddnldebdmbaaGreatDoor
open Go.RowKit
set_option linter.unusedVariables false
set_option linter.unusedSimpArgs false
theorem three_nums (W V : World) (a b c : Int) (hc : ∀ i u, V.cell? ⟨W.heap.size, i, none⟩ = some u ↔ (#[Value.int .u64 a, .int .u64 b, .int .u64 c] : Array Value)[i]? = some u) : Nums V (.slice (some ⟨W.heap.size, 0, none⟩) 3 3) [a, b, c] := by
  refine .inr ⟨⟨W.heap.size, 0, none⟩, 3, rfl, by simp, by unfold maxLen; omega, fun i hi => ?_⟩
  rw [add_none, Nat.zero_add]
  match i, hi with
  | 0, _ => exact (hc 0 _).2 rfl
  | 1, _ => exact (hc 1 _).2 rfl
  | 2, _ => exact (hc 2 _).2 rfl
theorem three_new (W : World) (a b c : Int) : Nums (W.alloc (.cells #[.int .u64 a, .int .u64 b, .int .u64 c] 73)) (.slice (some ⟨W.heap.size, 0, none⟩) 3 3) [a, b, c] :=
  three_nums W _ a b c fun i u => by rw [cell_of_row _ _ i _ _ _ (heap_alloc_new W _)]
end Go.Proofs.YtnhddnldebdmbaaGreatDoor
/- May the set be, and is there such a place; how often a task can be released. -/
namespace Go.Proofs.YtnhddnldebdmbaaGreatDoor
open Go.RowKit
set_option linter.unusedVariables false
set_option linter.unusedSimpArgs false
theorem dmay_any (A : Option Addr) (cap : Nat) (l : List Ts) (i : Int) (w : World) (hR : Row w A cap l) (hi : in64 i) :
    Calls Tryz.prog 73 #[.slice A l.length cap, .int .i64 i] w fun e w' => e = .returned (.bool (isB l i)) ∧ Below w.heap.size w w' := by
  have K := Lib.hid (checkAll_any A cap l w hR)
  have HE : Hid (isB l i = (decide ((chkAll l).2 = 0) && (decide (0 ≤ i) && decide (i < (l.length : Int))))) := Lib.hid rfl
  have hmx := Nat.le_trans hR.le hR.mx
  generalize isB l i = b at *
  generalize (chkAll l).1 = a at *
  generalize (chkAll l).2 = ce at *
  generalize l.length = N at *
  clear hR
  by_cases h1 : i < 0
  · have u1 : decide (i < 0) = true := decide_eq_true h1
    have hb : b = false := by rw [HE.out, decide_eq_false (show ¬ 0 ≤ i by omega)]; simp
    rw [hb]
    clear hb HE
    go_enter Tryz.func73, Tryz.ntmps73
    go_wp2
    go_ret
    exact ⟨rfl, Below.refl _ _⟩
  · have u1 : decide (i < 0) = false := decide_eq_false h1
    by_cases h2 : i < (N : Int)
    · have u2 : decide (i ≥ (N : Int)) = false := decide_eq_false (by omega)
      have u2' : decide ((N : Int) ≤ i) = false := decide_eq_false (by omega)
      have hb : b = (ce == 0) := by rw [HE.out, decide_eq_true (show 0 ≤ i by omega), decide_eq_true h2, Bool.and_true, Bool.and_true]; rfl
      rw [hb]
      clear hb HE
      go_enter Tryz.func73, Tryz.ntmps73
      go_wp2_with (go_at_call 24; (with_reducible refine K.out.mono ?_); rintro e w1 ⟨rfl, h⟩)
      go_ret
      exact ⟨rfl, h⟩
    · have u2 : decide (i ≥ (N : Int)) = true := decide_eq_true (by omega)
      have u2' : decide ((N : Int) ≤ i) = true := decide_eq_true (by omega)
      have hb : b = false := by rw [HE.out, decide_eq_false h2]; simp
      rw [hb]
      clear hb HE
      go_enter Tryz.func73, Tryz.ntmps73
      go_wp2
      go_ret
      exact ⟨rfl, Below.refl _ _⟩
/-- How often, also in no tick. -/
def relSD (x : Ts) (v : Int) : Int := if v = 0 then 0 else oftS x v
theorem one_nums (W V : World) (a : Int) (hc : ∀ i u, V.cell? ⟨W.heap.size, i, none⟩ = some u ↔ (#[Value.int .u64 a] : Array Value)[i]? = some u) : Nums V (.slice (some ⟨W.heap.size, 0, none⟩) 1 1) [a] := by
  refine .inr ⟨⟨W.heap.size, 0, none⟩, 1, rfl, by simp, by unfold maxLen; omega, fun i hi => ?_⟩
  rw [add_none, Nat.zero_add]
  match i, hi with
  | 0, _ => exact (hc 0 _).2 rfl
theorem one_new (W : World) (a : Int) : Nums (W.alloc (.cells #[.int .u64 a] 73)) (.slice (some ⟨W.heap.size, 0, none⟩) 1 1) [a] :=
  one_nums W _ a fun i u => by rw [cell_of_row _ _ i _ _ _ (heap_alloc_new W _)]
theorem satSum_one (s n : Int) : satSum s [n] = satAdd s n := rfl
/-- The numbers of a task that is released. -/
structure RelD (x : Ts) : Prop where
  t : 1 ≤ x.t ∧ x.t ≤ 2147483647
  j : 0 ≤ x.j ∧ x.j ≤ 2147483647
theorem TsOk.rel {x : Ts} (h : TsOk x) : RelD x := ⟨⟨h.t0, h.t1⟩, h.j0, h.j1⟩
theorem rel_u {x : Ts} {w : Int} (hx : RelD x) (hw : U w) : U (oftS x w) := ceil_u (satAdd_u hw.1 hx.j.1) hx.t.1
theorem relS_u {x : Ts} {w : Int} (hx : RelD x) (hw : U w) : U (relSD x w) := by
  unfold relSD
  split
  · exact ⟨by decide, by decide⟩
  · exact rel_u hx hw
set_option maxRecDepth 100000 in
set_option maxHeartbeats 8000000 in
theorem rel_any (x : Ts) (v : Int) (w : World) (hx : RelD x) (hv : U v) :
    Calls Tryz.prog 101 #[tsV x, .int .u64 v] w fun e w' => e = .returned (.int .u64 (relSD x v)) ∧ Below w.heap.size w w' := by
  obtain ⟨⟨t0, t1⟩, j0, j1⟩ := hx
  obtain ⟨v0, v1⟩ := hv
  have hb : Below w.heap.size w (w.alloc (.cells #[.string x.n, .int .i64 x.c, .int .i64 x.t, .int .i64 x.d, .int .i64 x.j, .int .i64 x.q, .int .i64 x.p] 40)) := (Below.refl _ _).alloc (Nat.le_refl _) _
  by_cases h0 : v = 0
  · have e : relSD x v = 0 := by unfold relSD; rw [if_pos h0]
    rw [e]
    subst h0
    clear e
    go_enter Tryz.func101, Tryz.ntmps101
    go_wp2
    go_ret
    exact ⟨rfl, hb⟩
  · have e : relSD x v = ceilN (satSum v [x.j]) x.t := by unfold relSD; rw [if_neg h0]; rfl
    rw [e]
    have q0 : (v == 0) = false := by simpa using h0
    have su := satAdd_u v0 j0
    have hw1 : IntKind.u64.wrap x.j = x.j := by rw [IntKind.wrap_u64]; omega
    have hw2 : IntKind.u64.wrap x.t = x.t := by rw [IntKind.wrap_u64]; omega
    have KS := Lib.hid (fun V u (hu : Nums V u [x.j]) => sum_nums v u [x.j] v0 v1 V hu (by
      intro n hn
      obtain rfl := List.mem_singleton.1 hn
      omega))
    have KC := Lib.hid (fun V => ceil_any (satSum v [x.j]) x.t su.1 su.2 (by omega) (by omega) V)
    have HN := Lib.hid (fun W => one_new W x.j)
    have HT := Lib.hid (TAt.new w x)
    have HB := Lib.hid hb
    generalize satSum v [x.j] = s at *
    generalize ceilN s x.t = r at *
    clear e hb h0
    go_enter Tryz.func101, Tryz.ntmps101
    go_upto_region 3 with (fail)
    obtain ⟨W0, hW0⟩ : ∃ W0, w.alloc (.cells #[.string x.n, .int .i64 x.c, .int .i64 x.t, .int .i64 x.d, .int .i64 x.j, .int .i64 x.q, .int .i64 x.p] 40) = W0 := ⟨_, rfl⟩
    rw [hW0] at HT HB
    try rw [hW0]
    have c2 := HT.out.c2
    have c4 := HT.out.c4
    have c2a := (HT.out.alloc (.cells #[.int .u64 x.j] 73)).c2
    have c4a := (HT.out.alloc (.cells #[.int .u64 x.j] 73)).c4
    have HE1 : Hid (∀ O, Below w.heap.size w (W0.alloc O)) := Lib.hid (fun O => HB.out.trans (((Below.refl W0.heap.size W0).alloc (Nat.le_refl _) O).mono (Below.size HB.out)))
    have HE2 : Hid (∀ O, w.heap.size ≤ (W0.alloc O).heap.size) := Lib.hid (fun O => (HE1.out O).size)
    clear hW0 HT HB
    go_region_law (first
      | (go_simp; go_at_call 74; (with_reducible refine (KS.out _ _ (by first | exact HN.out _ | exact (HN.out _).later (below_drew _))).mono ?_); rintro e v1 ⟨rfl, rfl⟩)
      | (go_simp; go_at_call 123; (with_reducible refine (KC.out _).mono ?_); rintro e v2 ⟨rfl, rfl⟩)
      | fail)
    all_goals
      go_wp2
      go_ret
      first
        | exact ⟨rfl, HE1.out _⟩
        | exact ⟨rfl, (HE1.out _).trans ((below_drew _).mono (HE2.out _))⟩
end Go.Proofs.YtnhddnldebdmbaaGreatDoor
/- Plain numbers: bits of words, and sets of small numbers as words. -/
namespace Go.Proofs.YtnhddnldebdmbaaGreatDoor
set_option linter.unusedVariables false
set_option linter.unusedSimpArgs false
/-- As many of the lowest k bits as are set. -/
def pc (x : Nat) : Nat → Nat
  | 0 => 0
  | k + 1 => pc x k + (x.testBit k).toNat

theorem pc_le (x k : Nat) : pc x k ≤ k := by
  induction k with
  | zero => simp [pc]
  | succ k ih => simp only [pc]; have : (x.testBit k).toNat ≤ 1 := by cases x.testBit k <;> simp
                 omega

theorem pc_add (x a b : Nat) : pc x (a + b) = pc x a + pc (x / 2 ^ a) b := by
  induction b with
  | zero => simp [pc]
  | succ b ih =>
    rw [← Nat.add_assoc]
    simp only [pc, ih, Nat.testBit_div_two_pow, Nat.add_assoc]
    rw [Nat.add_comm b a]

theorem pc_congr {x y k : Nat} (h : ∀ j, j < k → x.testBit j = y.testBit j) : pc x k = pc y k := by
  induction k with
  | zero => rfl
  | succ k ih => simp only [pc]; rw [ih (fun j hj => h j (by omega)), h k (by omega)]

theorem pc_mod (x k : Nat) : pc (x % 2 ^ k) k = pc x k :=
  pc_congr fun j hj => by simp [Nat.testBit_mod_two_pow, hj]

/-! ### A byte at a time -/
theorem and_byte (h b m c : Nat) (hb : b < 256) (hc : c < 256) : (256 * h + b) &&& (256 * m + c) = 256 * (h &&& m) + (b &&& c) := by
  have e : ∀ x y : Nat, y < 256 → 256 * x + y = x <<< 8 ||| y := fun x y hy => by
    rw [← Nat.shiftLeft_add_eq_or_of_lt (i := 8) (by omega), Nat.shiftLeft_eq]; omega
  have hbc : b &&& c < 256 := Nat.lt_of_le_of_lt Nat.and_le_left hb
  rw [e h b hb, e m c hc, e (h &&& m) (b &&& c) hbc]
  apply Nat.eq_of_testBit_eq
  intro i
  simp only [Nat.testBit_and, Nat.testBit_or, Nat.testBit_shiftLeft]
  by_cases hi : 8 ≤ i
  · have h1 : b.testBit i = false := Nat.testBit_lt_two_pow (Nat.lt_of_lt_of_le hb (by have := Nat.pow_le_pow_right (n := 2) (by omega) hi; omega))
    have h2 : c.testBit i = false := Nat.testBit_lt_two_pow (Nat.lt_of_lt_of_le hc (by have := Nat.pow_le_pow_right (n := 2) (by omega) hi; omega))
    simp [hi, h1, h2]
  · simp [hi]

def s1 (b : Nat) : Nat := (b / 2 &&& 85) + (b &&& 85)
def s2 (b : Nat) : Nat := (b / 4 &&& 51) + (b &&& 51)
def s3 (b : Nat) : Nat := (b / 16 + b) &&& 15

set_option maxRecDepth 100000 in
theorem byte1 : ∀ b, b < 256 → ∀ t, t < 2 → (128 * t + b / 2) &&& 85 = b / 2 &&& 85 := by decide +kernel
set_option maxRecDepth 100000 in
theorem byte2 : ∀ b, b < 256 → ∀ t, t < 4 → (64 * t + b / 4) &&& 51 = b / 4 &&& 51 := by decide +kernel
set_option maxRecDepth 100000 in
theorem byte3 : ∀ b, b < 69 → ∀ t, t < 5 → (16 * t + (b / 16 + b)) &&& 15 = (b / 16 + b) &&& 15 := by decide +kernel
set_option maxRecDepth 100000 in
theorem byte_pc : ∀ b, b < 256 → s1 b < 256 ∧ s2 (s1 b) < 69 ∧ s2 (s1 b) % 16 < 5 ∧ s3 (s2 (s1 b)) = pc b 8 := by decide +kernel

def B : List Nat → Nat
  | [] => 0
  | b :: l => 256 * B l + b

theorem B_add (f g : Nat → Nat) (l : List Nat) : B (l.map f) + B (l.map g) = B (l.map fun b => f b + g b) := by
  induction l with
  | nil => rfl
  | cons b l ih => simp only [List.map_cons, B]; omega

theorem B_and (c : Nat) (hc : c < 256) (l : List Nat) (h : ∀ b ∈ l, b < 256) : B l &&& B (List.replicate l.length c) = B (l.map (· &&& c)) := by
  induction l with
  | nil => simp [B]
  | cons b l ih =>
    simp only [List.length_cons, List.replicate_succ, List.map_cons, B]
    rw [and_byte _ _ _ _ (h b (by simp)) hc, ih (fun x hx => h x (by simp [hx]))]

theorem B_1 (l : List Nat) (h : ∀ b ∈ l, b < 256) : (B l / 2) &&& B (List.replicate l.length 85) = B (l.map fun b => b / 2 &&& 85) := by
  induction l with
  | nil => rfl
  | cons b l ih =>
    have hb := h b (by simp)
    simp only [List.length_cons, List.replicate_succ, List.map_cons, B]
    rw [show (256 * B l + b) / 2 = 256 * (B l / 2) + (128 * (B l % 2) + b / 2) by omega, and_byte _ _ _ _ (by omega) (by omega), ih (fun x hx => h x (by simp [hx])), byte1 b hb _ (by omega)]

theorem B_2 (l : List Nat) (h : ∀ b ∈ l, b < 256) : (B l / 4) &&& B (List.replicate l.length 51) = B (l.map fun b => b / 4 &&& 51) := by
  induction l with
  | nil => rfl
  | cons b l ih =>
    have hb := h b (by simp)
    simp only [List.length_cons, List.replicate_succ, List.map_cons, B]
    rw [show (256 * B l + b) / 4 = 256 * (B l / 4) + (64 * (B l % 4) + b / 4) by omega, and_byte _ _ _ _ (by omega) (by omega), ih (fun x hx => h x (by simp [hx])), byte2 b hb _ (by omega)]

theorem B_mod (l : List Nat) (h : ∀ b ∈ l, b < 69 ∧ b % 16 < 5) : B l % 16 < 5 := by
  cases l with
  | nil => simp [B]
  | cons b l => have := h b (by simp); simp only [B]; omega

theorem B_3 (l : List Nat) (h : ∀ b ∈ l, b < 69 ∧ b % 16 < 5) : (B l / 16 + B l) &&& B (List.replicate l.length 15) = B (l.map s3) := by
  induction l with
  | nil => rfl
  | cons b l ih =>
    have hb := h b (by simp)
    have hm := B_mod l (fun x hx => h x (by simp [hx]))
    simp only [List.length_cons, List.replicate_succ, List.map_cons, B]
    rw [show (256 * B l + b) / 16 + (256 * B l + b) = 256 * (B l / 16 + B l) + (16 * (B l % 16) + (b / 16 + b)) by omega, and_byte _ _ _ _ (by omega) (by omega), ih (fun x hx => h x (by simp [hx])), byte3 b hb.1 _ hm]
    rfl

theorem B_pc (l : List Nat) (h : ∀ b ∈ l, b < 256) : pc (B l) (8 * l.length) = (l.map (pc · 8)).sum := by
  induction l with
  | nil => rfl
  | cons b l ih =>
    have hb := h b (by simp)
    rw [show 8 * (b :: l).length = 8 + 8 * l.length by simp; omega, pc_add]
    simp only [B, List.map_cons, List.sum_cons]
    rw [show (256 * B l + b) / 2 ^ 8 = B l by omega, ih (fun x hx => h x (by simp [hx])), ← pc_mod (256 * B l + b), show (256 * B l + b) % 2 ^ 8 = b by omega]

theorem bytes (n : Nat) : ∀ x, x < 256 ^ n → ∃ l : List Nat, l.length = n ∧ (∀ b ∈ l, b < 256) ∧ B l = x := by
  induction n with
  | zero => intro x h; exact ⟨[], rfl, by simp, by simp at h; simp [B, h]⟩
  | succ n ih =>
    intro x h
    obtain ⟨l, h1, h2, h3⟩ := ih (x / 256) (by rw [Nat.pow_succ] at h; omega)
    exact ⟨x % 256 :: l, by simp [h1], by simp; exact ⟨by omega, h2⟩, by simp only [B, h3]; omega⟩

theorem fold8 (p0 p1 p2 p3 p4 p5 p6 p7 x3 x4 x5 x6 : Nat) (hle : p0 ≤ 8 ∧ p1 ≤ 8 ∧ p2 ≤ 8 ∧ p3 ≤ 8 ∧ p4 ≤ 8 ∧ p5 ≤ 8 ∧ p6 ≤ 8 ∧ p7 ≤ 8)
    (h3 : x3 = 256 * (256 * (256 * (256 * (256 * (256 * (256 * p7 + p6) + p5) + p4) + p3) + p2) + p1) + p0)
    (h4 : x4 = x3 + x3 / 256) (h5 : x5 = x4 + x4 / 65536) (h6 : x6 = x5 + x5 / 4294967296) :
    x6 < 9223372036854775808 ∧ x6 % 128 = p0 + (p1 + (p2 + (p3 + (p4 + (p5 + (p6 + p7)))))) := by
  have q4 : x3 / 256 = 256 * (256 * (256 * (256 * (256 * (256 * p7 + p6) + p5) + p4) + p3) + p2) + p1 := by omega
  rw [q4] at h4
  clear q4
  subst h3
  have q5 : x4 / 65536 = 256 * (256 * (256 * (256 * (256 * p7 + (p6 + p7)) + (p5 + p6)) + (p4 + p5)) + (p3 + p4)) + (p2 + p3) := by omega
  rw [q5] at h5
  clear q5
  subst h4
  have q6 : x5 / 4294967296 = 256 * (256 * (256 * p7 + (p6 + p7)) + (p5 + p6 + p7)) + (p4 + p5 + p6 + p7) := by omega
  rw [q6] at h6
  clear q6
  subst h5
  omega

/-- **math/bits.OnesCount64's own reckoning, on plain numbers.** -/
theorem ones (x : Nat) (hx : x < 18446744073709551616) : ∃ x1 x2 x3 : Nat, x1 = (x / 2 &&& 6148914691236517205) + (x &&& 6148914691236517205) ∧ x1 < 18446744073709551616 ∧
    x2 = (x1 / 4 &&& 3689348814741910323) + (x1 &&& 3689348814741910323) ∧ x2 < 18446744073709551616 ∧ x2 / 16 + x2 < 18446744073709551616 ∧
    x3 = (x2 / 16 + x2) &&& 1085102592571150095 ∧ x3 ≤ 578721382704613384 ∧
    (∀ x4 x5 x6 : Nat, x4 = x3 + x3 / 256 → x5 = x4 + x4 / 65536 → x6 = x5 + x5 / 4294967296 → x6 < 9223372036854775808 ∧ x6 % 128 = pc x 64) := by
  obtain ⟨l, hl, hb, rfl⟩ := bytes 8 x (by simpa using hx)
  have m85 : 6148914691236517205 = B (List.replicate l.length 85) := by rw [hl]; rfl
  have m51 : 3689348814741910323 = B (List.replicate l.length 51) := by rw [hl]; rfl
  have m15 : 1085102592571150095 = B (List.replicate l.length 15) := by rw [hl]; rfl
  have e1 : (B l / 2 &&& 6148914691236517205) + (B l &&& 6148914691236517205) = B (l.map s1) := by rw [m85, B_1 l hb, B_and 85 (by omega) l hb, B_add]; rfl
  have h1 : ∀ b ∈ l.map s1, b < 256 := by simp; exact fun b h => (byte_pc b (hb b h)).1
  have e2 : (B (l.map s1) / 4 &&& 3689348814741910323) + (B (l.map s1) &&& 3689348814741910323) = B ((l.map s1).map s2) := by
    rw [m51, show l.length = (l.map s1).length by simp, B_2 _ h1, B_and 51 (by omega) _ h1, B_add]; rfl
  have h2 : ∀ b ∈ (l.map s1).map s2, b < 69 ∧ b % 16 < 5 := by simp; exact fun b h => ⟨(byte_pc b (hb b h)).2.1, (byte_pc b (hb b h)).2.2.1⟩
  have e3 : (B ((l.map s1).map s2) / 16 + B ((l.map s1).map s2)) &&& 1085102592571150095 = B (l.map (pc · 8)) := by
    rw [m15, show l.length = ((l.map s1).map s2).length by simp, B_3 _ h2]
    congr 1
    simp only [List.map_map]
    exact List.map_congr_left fun b h => (byte_pc b (hb b h)).2.2.2
  have hp := B_pc l hb
  rw [hl] at hp
  have hle : ∀ b ∈ l, pc b 8 ≤ 8 := fun b _ => pc_le b 8
  refine ⟨_, _, _, rfl, ?_, rfl, ?_, ?_, rfl, ?_, ?_⟩
  all_goals simp only [e1, e2, e3]
  all_goals clear e1 e2 e3 m85 m51 m15
  all_goals rw [show 8 * 8 = 64 from rfl] at hp
  all_goals
    match l, hl with
    | [b0, b1, b2, b3, b4, b5, b6, b7], _ => ?_
  all_goals simp only [List.map_cons, List.map_nil, B, List.sum_cons, List.sum_nil, List.forall_mem_cons] at *
  all_goals generalize B [b0, b1, b2, b3, b4, b5, b6, b7] = x at *
  · omega
  · omega
  · omega
  · omega
  · intro x4 x5 x6 h4 h5 h6
    generalize pc b0 8 = p0 at *
    generalize pc b1 8 = p1 at *
    generalize pc b2 8 = p2 at *
    generalize pc b3 8 = p3 at *
    generalize pc b4 8 = p4 at *
    generalize pc b5 8 = p5 at *
    generalize pc b6 8 = p6 at *
    generalize pc b7 8 = p7 at *
    clear h1 h2 hb
    rw [hp]
    refine fold8 p0 p1 p2 p3 p4 p5 p6 p7 _ x4 x5 x6 ⟨hle.1, hle.2.1, hle.2.2.1, hle.2.2.2.1, hle.2.2.2.2.1, hle.2.2.2.2.2.1, hle.2.2.2.2.2.2.1, hle.2.2.2.2.2.2.2.1⟩ (by omega) h4 h5 h6

/-! ### The lowest one -/
theorem odd_form : ∀ (n x : Nat), x ≠ 0 → x < 2 ^ n → ∃ t m, t < n ∧ x = 2 ^ t * (2 * m + 1) := by
  intro n
  induction n with
  | zero => intro x h0 h; simp at h; omega
  | succ n ih =>
    intro x h0 h
    by_cases he : x % 2 = 0
    · obtain ⟨t, m, ht, hx⟩ := ih (x / 2) (by omega) (by rw [Nat.pow_succ] at h; omega)
      refine ⟨t + 1, m, by omega, ?_⟩
      rw [Nat.pow_succ, Nat.mul_comm (2 ^ t) 2, Nat.mul_assoc, ← hx]
      omega
    · exact ⟨0, x / 2, by omega, by simp; omega⟩

theorem testBit_form (t m j : Nat) : (2 ^ t * (2 * m + 1)).testBit j = (decide (t ≤ j) && (2 * m + 1).testBit (j - t)) := by
  rw [Nat.testBit_two_pow_mul]

theorem low_bit (t m : Nat) : (2 ^ t * (2 * m + 1)).testBit t = true := by
  rw [testBit_form]; simp [Nat.testBit_zero]
theorem low_below (t m j : Nat) (h : j < t) : (2 ^ t * (2 * m + 1)).testBit j = false := by
  rw [testBit_form]; simp; omega

theorem low_and (t m : Nat) (ht : t < 64) (hx : 2 ^ t * (2 * m + 1) < 2 ^ 64) : 2 ^ t * (2 * m + 1) &&& (2 ^ 64 - 2 ^ t * (2 * m + 1)) = 2 ^ t := by
  apply Nat.eq_of_testBit_eq
  intro j
  have hpos : 0 < 2 ^ t * (2 * m + 1) := Nat.mul_pos (Nat.two_pow_pos t) (by omega)
  obtain ⟨y, hy⟩ : ∃ y, 2 ^ t * (2 * m + 1) = y + 1 := ⟨2 ^ t * (2 * m + 1) - 1, by omega⟩
  rw [hy, Nat.testBit_and, Nat.testBit_two_pow_sub_succ (by omega), Nat.testBit_two_pow]
  -- y = 2 ^ t * (2 * m) + (2 ^ t - 1)
  have hy2 : y = 2 ^ t * (2 * m) + (2 ^ t - 1) := by
    have := Nat.two_pow_pos t
    rw [Nat.mul_add, Nat.mul_one] at hy
    omega
  have hyb : y.testBit j = if j < t then true else (2 * m).testBit (j - t) := by
    have hlt : 2 ^ t - 1 < 2 ^ t := by have := Nat.two_pow_pos t; omega
    rw [hy2, Nat.testBit_two_pow_mul_add _ hlt]
    by_cases hj : j < t
    · simp [hj]
    · simp [hj]
  rw [← hy, testBit_form, hyb]
  by_cases hj : j < t
  · simp [hj]; omega
  · by_cases hj2 : j = t
    · subst hj2; simp [Nat.testBit_zero, ht]
    · have : (2 * m).testBit (j - t) = (2 * m + 1).testBit (j - t) := by
        obtain ⟨k, hk⟩ : ∃ k, j - t = k + 1 := ⟨j - t - 1, by omega⟩
        rw [hk, Nat.testBit_succ, Nat.testBit_succ]
        congr 1; omega
      rw [this]
      have hne : ¬ t = j := by omega
      simp only [hj, if_false, hne, decide_false]
      cases (2 * m + 1).testBit (j - t) <;> simp

theorem low_and_lit (t m x : Nat) (ht : t < 64) (hx : x < 18446744073709551616) (hxe : x = 2 ^ t * (2 * m + 1)) : x &&& (18446744073709551616 - x) = 2 ^ t := by
  have e : (18446744073709551616 : Nat) = 2 ^ 64 := by decide
  rw [e] at hx ⊢
  subst hxe
  exact low_and t m ht hx

theorem pred_and (t m : Nat) : 2 ^ t * (2 * m + 1) &&& (2 ^ t * (2 * m + 1) - 1) = 2 ^ t * (2 * m) := by
  apply Nat.eq_of_testBit_eq
  intro j
  have hlt : 2 ^ t - 1 < 2 ^ t := by have := Nat.two_pow_pos t; omega
  have hy2 : 2 ^ t * (2 * m + 1) - 1 = 2 ^ t * (2 * m) + (2 ^ t - 1) := by
    have := Nat.two_pow_pos t
    rw [Nat.mul_add, Nat.mul_one]
    omega
  rw [hy2, Nat.testBit_and, testBit_form, Nat.testBit_two_pow_mul_add _ hlt, Nat.testBit_two_pow_mul]
  by_cases hj : j < t
  · simp [hj, show ¬ t ≤ j by omega]
  · by_cases hj2 : j = t
    · subst hj2; simp [Nat.testBit_zero]
    · have : (2 * m).testBit (j - t) = (2 * m + 1).testBit (j - t) := by
        obtain ⟨k, hk⟩ : ∃ k, j - t = k + 1 := ⟨j - t - 1, by omega⟩
        rw [hk, Nat.testBit_succ, Nat.testBit_succ]
        congr 1; omega
      simp only [hj, if_false, this]
      cases (2 * m + 1).testBit (j - t) <;> simp

def deB : List Nat := [0, 1, 56, 2, 57, 49, 28, 3, 61, 58, 42, 50, 38, 29, 17, 4, 62, 47, 59, 36, 45, 43, 51, 22, 53, 39, 33, 30, 24, 18, 12, 5, 63, 55, 48, 27, 60, 41, 37, 16, 46, 35, 44, 21, 52, 32, 23, 11, 54, 26, 40, 15, 34, 20, 31, 10, 25, 14, 19, 9, 13, 8, 7, 6]
theorem deB_tz : ∀ t, t < 64 → 2 ^ t * 285870213051353865 % 18446744073709551616 / 288230376151711744 < 64 ∧ deB[2 ^ t * 285870213051353865 % 18446744073709551616 / 288230376151711744]? = some t := by decide +kernel

/-! ### Sets -/
/-- The word of those that f holds of, of the numbers from 64 * i on. -/
def wordTo (f : Nat → Bool) (i : Nat) : Nat → Nat
  | 0 => 0
  | k + 1 => wordTo f i k + if f (64 * i + k) then 2 ^ k else 0
def word (f : Nat → Bool) (i : Nat) : Nat := wordTo f i 64

theorem wordTo_lt (f : Nat → Bool) (i k : Nat) : wordTo f i k < 2 ^ k := by
  induction k with
  | zero => simp [wordTo]
  | succ k ih => simp only [wordTo, Nat.pow_succ]; split <;> omega

theorem testBit_wordTo (f : Nat → Bool) (i : Nat) : ∀ k j, (wordTo f i k).testBit j = (decide (j < k) && f (64 * i + j)) := by
  intro k
  induction k with
  | zero => simp [wordTo]
  | succ k ih =>
    intro j
    have hlt := wordTo_lt f i k
    simp only [wordTo]
    have e : (wordTo f i k + if f (64 * i + k) then 2 ^ k else 0) = 2 ^ k * (f (64 * i + k)).toNat + wordTo f i k := by
      cases f (64 * i + k) <;> simp [Nat.add_comm]
    rw [e, Nat.testBit_two_pow_mul_add _ hlt, ih]
    by_cases hj : j < k
    · simp [hj]; omega
    · by_cases hj2 : j = k
      · subst hj2; cases f (64 * i + j) <;> simp
      · have h1 : ¬ j < k + 1 := by omega
        simp only [hj, if_false, h1, decide_false, Bool.false_and]
        obtain ⟨d, hd⟩ : ∃ d, j - k = d + 1 := ⟨j - k - 1, by omega⟩
        rw [hd, Nat.testBit_succ]
        cases f (64 * i + k) <;> simp

theorem word_lt (f : Nat → Bool) (i : Nat) : word f i < 2 ^ 64 := wordTo_lt f i 64
theorem word_le (f : Nat → Bool) (i : Nat) : word f i ≤ 18446744073709551615 := by have := word_lt f i; omega
theorem testBit_word (f : Nat → Bool) (i j : Nat) : (word f i).testBit j = (decide (j < 64) && f (64 * i + j)) := testBit_wordTo f i 64 j

theorem word_ext {f g : Nat → Bool} {i : Nat} (h : ∀ j, j < 64 → f (64 * i + j) = g (64 * i + j)) : word f i = word g i := by
  apply Nat.eq_of_testBit_eq
  intro j
  rw [testBit_word, testBit_word]
  by_cases hj : j < 64
  · simp [hj, h j hj]
  · simp [hj]
theorem eq_word {x : Nat} {f : Nat → Bool} {i : Nat} (hx : x < 2 ^ 64) (h : ∀ j, j < 64 → x.testBit j = f (64 * i + j)) : x = word f i := by
  apply Nat.eq_of_testBit_eq
  intro j
  rw [testBit_word]
  by_cases hj : j < 64
  · simp [hj, h j hj]
  · rw [Nat.testBit_lt_two_pow (Nat.lt_of_lt_of_le hx (Nat.pow_le_pow_right (by omega) (by omega)))]; simp [hj]

def insMM (f : Nat → Bool) (n : Int) : Nat → Bool := fun k => f k || decide ((k : Int) = n)
def del (f : Nat → Bool) (n : Int) : Nat → Bool := fun k => f k && !decide ((k : Int) = n)
def orF (f g : Nat → Bool) : Nat → Bool := fun k => f k || g k
def minusF (f g : Nat → Bool) : Nat → Bool := fun k => f k && !g k
def belowF (n : Int) : Nat → Bool := fun k => decide ((k : Int) < n)
def noneF : Nat → Bool := fun _ => false

theorem word_or (f g : Nat → Bool) (i : Nat) : word f i ||| word g i = word (orF f g) i :=
  eq_word (Nat.or_lt_two_pow (word_lt f i) (word_lt g i)) fun j hj => by simp [testBit_word, hj, orF]
theorem word_ins (f : Nat → Bool) (k : Nat) : word f (k / 64) ||| 2 ^ (k % 64) = word (insMM f k) (k / 64) :=
  eq_word (Nat.or_lt_two_pow (word_lt f _) (Nat.pow_lt_pow_right (by omega) (Nat.mod_lt _ (by omega)))) fun j hj => by
    have : (64 * (k / 64) + j = k) ↔ k % 64 = j := by omega
    simp only [Nat.testBit_or, testBit_word, hj, decide_true, Bool.true_and, insMM, Nat.testBit_two_pow, Int.natCast_inj, this]
theorem word_ins_other (f : Nat → Bool) (k i : Nat) (h : i ≠ k / 64) : word (insMM f k) i = word f i :=
  word_ext fun j hj => by
    have : ¬ 64 * i + j = k := by omega
    simp only [insMM, Int.natCast_inj, this, decide_false, Bool.or_false]
theorem word_ins_far (f : Nat → Bool) (n : Int) (i : Nat) (hi : i < 16) (h : n < 0 ∨ 1024 ≤ n) : word (insMM f n) i = word f i :=
  word_ext fun j hj => by
    have : ¬ ((64 * i + j : Nat) : Int) = n := by omega
    simp only [insMM, this, decide_false, Bool.or_false]
theorem word_del_other (f : Nat → Bool) (k i : Nat) (h : i ≠ k / 64) : word (del f k) i = word f i :=
  word_ext fun j hj => by
    have : ¬ 64 * i + j = k := by omega
    simp only [del, Int.natCast_inj, this, decide_false, Bool.not_false, Bool.and_true]
theorem word_del_far (f : Nat → Bool) (n : Int) (i : Nat) (hi : i < 16) (h : n < 0 ∨ 1024 ≤ n) : word (del f n) i = word f i :=
  word_ext fun j hj => by
    have : ¬ ((64 * i + j : Nat) : Int) = n := by omega
    simp only [del, this, decide_false, Bool.not_false, Bool.and_true]
/-- and-not, on 64 bits. -/
theorem andNot_word (f : Nat → Bool) (x i : Nat) (hx : x < 2 ^ 64) : word f i &&& (2 ^ 64 - 1 - x) = word (fun k => f k && !(x.testBit (k - 64 * i))) i :=
  eq_word (Nat.lt_of_le_of_lt Nat.and_le_left (word_lt f i)) fun j hj => by
    rw [Nat.testBit_and, testBit_word, show 2 ^ 64 - 1 - x = 2 ^ 64 - (x + 1) by omega, Nat.testBit_two_pow_sub_succ hx]
    simp [hj, Nat.add_sub_cancel_left]
theorem word_minus (f g : Nat → Bool) (i : Nat) : word f i &&& (2 ^ 64 - 1 - word g i) = word (minusF f g) i := by
  rw [andNot_word f _ i (word_lt g i)]
  exact word_ext fun j hj => by simp [testBit_word, hj, minusF, Nat.add_sub_cancel_left]
theorem word_del (f : Nat → Bool) (k : Nat) : word f (k / 64) &&& (2 ^ 64 - 1 - 2 ^ (k % 64)) = word (del f k) (k / 64) := by
  rw [andNot_word f _ _ (Nat.pow_lt_pow_right (by omega) (Nat.mod_lt _ (by omega)))]
  refine word_ext fun j hj => ?_
  have : (64 * (k / 64) + j = k) ↔ k % 64 = j := by omega
  simp only [Nat.add_sub_cancel_left, Nat.testBit_two_pow, del, Int.natCast_inj, this]
theorem word_has (f : Nat → Bool) (k : Nat) : (word f (k / 64) &&& 2 ^ (k % 64)) = if f k then 2 ^ (k % 64) else 0 := by
  apply Nat.eq_of_testBit_eq
  intro j
  rw [Nat.testBit_and, testBit_word, Nat.testBit_two_pow]
  by_cases h : k % 64 = j
  · subst h
    have e : 64 * (k / 64) + k % 64 = k := by omega
    rw [e]
    have : k % 64 < 64 := by omega
    cases f k <;> simp [this]
  · have h2 : (if f k then 2 ^ (k % 64) else 0).testBit j = false := by
      cases f k <;> simp [h]
    rw [h2]; simp [h]
theorem word_below (n : Nat) (i : Nat) : word (belowF n) i = if 64 * i + 64 ≤ n then 2 ^ 64 - 1 else if n ≤ 64 * i then 0 else 2 ^ (n - 64 * i) - 1 := by
  symm
  refine eq_word ?_ fun j hj => ?_
  · split
    · omega
    · split
      · omega
      · have := Nat.pow_lt_pow_right (a := 2) (by omega) (show n - 64 * i < 64 by omega); omega
  · simp only [belowF]
    split
    · rw [show (2 : Nat) ^ 64 - 1 = 2 ^ 64 - (0 + 1) from rfl, Nat.testBit_two_pow_sub_succ (by omega)]
      simp [hj]; omega
    · split
      · simp; omega
      · rw [Nat.testBit_two_pow_sub_one]
        simp only [decide_eq_decide]; omega
end Go.Proofs.YtnhddnldebdmbaaGreatDoor
/- Sets as values and as blocks of memory: the words that the walk goes by. -/
namespace Go.Proofs.YtnhddnldebdmbaaGreatDoor
open Go.RowKit
set_option linter.unusedVariables false

/-- The cells of the set of f. -/
def cellsL (f : Nat → Bool) : List Value := (List.range 16).map fun i => .int .u64 (word f i : Int)
theorem cellsL_length (f : Nat → Bool) : (cellsL f).length = 16 := by simp [cellsL]
theorem cellsL_get (f : Nat → Bool) (i : Nat) (h : i < 16) : (cellsL f)[i]? = some (.int .u64 (word f i : Int)) := by
  simp [cellsL, h]
theorem cellsL_one (f : Nat → Bool) : ∀ v ∈ cellsL f, v.oneCell' = true := by
  intro v hv
  simp only [cellsL, List.mem_map] at hv
  obtain ⟨i, _, rfl⟩ := hv
  rfl
theorem cellsL_all (f : Nat → Bool) : (cellsL f).toArray.all (·.oneCell') = true := all_oneCell_toArray (cellsL_one f)
theorem cellsL_none : (cellsL noneF).toArray = #[.int .u64 0, .int .u64 0, .int .u64 0, .int .u64 0, .int .u64 0, .int .u64 0, .int .u64 0, .int .u64 0, .int .u64 0, .int .u64 0, .int .u64 0, .int .u64 0, .int .u64 0, .int .u64 0, .int .u64 0, .int .u64 0] := by
  have h : ∀ i, word noneF i = 0 := fun i => (eq_word (by omega) (by simp [noneF])).symm
  simp [cellsL, h, List.range_succ]
theorem cellsL_ext {f g : Nat → Bool} (h : ∀ i, i < 16 → word f i = word g i) : cellsL f = cellsL g := by
  simp only [cellsL]
  exact List.map_congr_left fun i hi => by rw [h i (by simpa using hi)]
theorem cellsL_set (f g : Nat → Bool) (i : Nat) (v : Nat) (hv : v = word g i) (h : ∀ j, j < 16 → j ≠ i → word f j = word g j) : (cellsL f).set i (.int .u64 v) = cellsL g := by
  apply List.ext_getElem?
  intro j
  by_cases hj : j < 16
  · rw [List.getElem?_set, cellsL_get g j hj, cellsL_get f j hj, cellsL_length]
    by_cases e : i = j
    · subst e; simp [hj, hv]
    · rw [if_neg e, h j hj (fun e' => e e'.symm)]
  · rw [List.getElem?_eq_none (by simp [cellsL_length]; omega), List.getElem?_eq_none (by simp [cellsL_length]; omega)]
theorem info26 (f : Nat → Bool) : (Tryz.prog.info? 104).map (·.size) = some (cellsL f).length := by rw [cellsL_length]; kernel_rfl
theorem info26' (f : Nat → Bool) : (Tryz.prog.info? 104).map (·.size) = some (cellsL f).toArray.size := by rw [List.size_toArray]; exact info26 f

/-- The set as a value. -/
abbrev setV (f : Nat → Bool) : Value := .agg (cellsL f).toArray

/-! ### Blocks of memory that hold a set -/
/-- Block b holds the set f, and may be written. -/
structure Box (w : World) (b : Nat) (f : Nat → Bool) : Prop where
  is : w.heap[b]? = some (.cells (cellsL f).toArray 104 (0, 0))

theorem Box.range {w : World} {b : Nat} {f : Nat → Bool} (h : Box w b f) : w.rangeAt b 0 (cellsL f) := fun j v hv => by
  rw [Nat.zero_add, cell_of_row w b j _ _ _ h.is]; simpa using hv
theorem Box.there {w : World} {b : Nat} {f : Nat → Bool} (h : Box w b f) (g : Nat → Bool) : w.there b 0 (cellsL g).toArray.size := fun j hj => by
  rw [Nat.zero_add, cell_of_row w b j _ _ _ h.is, frozen_of_row w b j _ _ h.is]
  simp [cellsL_length] at hj ⊢; omega
theorem Box.cell {w : World} {b : Nat} {f : Nat → Bool} (h : Box w b f) (i : Nat) (hi : i < 16) : w.cell? ⟨b, i, none⟩ = some (.int .u64 (word f i : Int)) := by
  rw [cell_of_row w b i _ _ _ h.is]; simpa using cellsL_get f i hi
theorem Box.frozen {w : World} {b : Nat} {f : Nat → Bool} (h : Box w b f) (i : Nat) : w.frozen? ⟨b, i, none⟩ = false := frozen_of_row w b i _ _ h.is
theorem Box.lt {w : World} {b : Nat} {f : Nat → Bool} (h : Box w b f) : b < w.heap.size := (Array.getElem?_eq_some_iff.1 h.is).1
theorem Box.new (w : World) (f : Nat → Bool) : Box (w.alloc (.cells (cellsL f).toArray 104)) w.heap.size f := ⟨heap_alloc_new w _⟩
theorem Box.below {w w' : World} {b B : Nat} {f : Nat → Bool} (h : Box w b f) (hb : Below B w w') (hB : b < B) : Box w' b f := ⟨(hb.block b hB).trans h.is⟩
theorem Box.alloc {w : World} {b : Nat} {f : Nat → Bool} (h : Box w b f) (o : Obj) : Box (w.alloc o) b f := ⟨(Below.heap_alloc w o b h.lt).trans h.is⟩
theorem Box.drew {w : World} {b : Nat} {f : Nat → Bool} (h : Box w b f) : Box w.drew b f := ⟨h.is⟩
theorem Box.setCell {w : World} {b : Nat} {f : Nat → Bool} (h : Box w b f) (a : Addr) (v : Value) (hb : b ≠ a.block) : Box (w.setCell a v) b f := ⟨(heap_setCell_other w a b v hb).trans h.is⟩
theorem Box.set {w : World} {b : Nat} {f g : Nat → Bool} (h : Box w b f) (i : Nat) (v : Nat) (hv : v = word g i) (hg : ∀ j, j < 16 → j ≠ i → word f j = word g j) : Box (w.setCell ⟨b, i, none⟩ (.int .u64 v)) b g := by
  refine ⟨?_⟩
  rw [heap_setCell_same w b i _ _ _ h.is]
  simp only [List.setIfInBounds_toArray]
  rw [cellsL_set f g i v hv hg]
theorem Box.stored {w : World} {b : Nat} {f : Nat → Bool} (h : Box w b f) (g : Nat → Bool) : w.setCells b 0 (cellsL g) = w.setRow b (cellsL g).toArray := by
  have h1 := run_storeVar_mid (P := Tryz.prog) w b 0 104 (cellsL g).toArray (h.there g) (info26' g) (cellsL_all g)
  have h2 := run_storeVar_row (P := Tryz.prog) w b 104 104 (cellsL f).toArray (cellsL g).toArray h.is (info26' g) (by simp [cellsL_length]) (cellsL_all g)
  rw [h1] at h2
  simpa using h2
theorem Box.setCells {w : World} {b : Nat} {f : Nat → Bool} (h : Box w b f) (g : Nat → Bool) : Box (w.setCells b 0 (cellsL g)) b g := by
  rw [h.stored g]; exact ⟨setRow_heap w b _ _ _ _ h.is⟩
theorem Box.setCells_other {w : World} {b b' : Nat} {f f' : Nat → Bool} (h : Box w b f) (h' : Box w b' f') (g : Nat → Bool) (hne : b ≠ b') : Box (w.setCells b' 0 (cellsL g)) b f := by
  rw [h'.stored g]; exact ⟨(setRow_other w b' b _ hne).trans h.is⟩
theorem below_setCells {B : Nat} {a w : World} {b : Nat} {f : Nat → Bool} (hb : Below B a w) (h : Box w b f) (g : Nat → Bool) (hB : B ≤ b) : Below B a (w.setCells b 0 (cellsL g)) := by
  rw [h.stored g]
  exact hb.trans ⟨rfl, rfl, rfl, by simp, fun k hk => setRow_other w b k _ (by omega)⟩
theorem Box.load {w : World} {b : Nat} {f : Nat → Bool} (h : Box w b f) : (loadVar 104 ⟨b, 0, none⟩).run Tryz.prog w = .ok (setV f) w :=
  run_loadVar_mid w b 0 104 (cellsL f) _ h.range Tryz.underlying104 rfl (info26 f)
/-- The result of a function that hands a set back out of a block. -/
theorem results_box {fn : Func} {p : Tmp} (h : fn.results = #[.cell p 104]) (tmps : Array Value) (w : World) (b : Nat) (f : Nat → Bool) (hp : tmps.getD p undef = .pointer (some ⟨b, 0, none⟩)) (hb : Box w b f) :
    (results fn tmps).run Tryz.prog w = .ok (setV f) w :=
  results_cell_row h tmps w b _ _ _ _ hp hb.is Tryz.underlying104 rfl (info26' f)
theorem drewN_below {B : Nat} {a w : World} (h : Below B a w) (n : Nat) : Below B a (w.drewN n) := h.trans ⟨rfl, rfl, rfl, Nat.le_refl _, fun _ _ => rfl⟩
end Go.Proofs.YtnhddnldebdmbaaGreatDoor
/- Contracts of package marks' functions: With, Without, Has. -/
namespace Go.Proofs.YtnhddnldebdmbaaGreatDoor
open Go.RowKit
set_option linter.unusedVariables false

/-! ### Bits in the model's words -/
theorem i64_and_pow (n : Int) (m : Nat) (c : Int) (hc : (BitVec.ofInt 64 c).toNat = 2 ^ m - 1) (hm : m < 63) : bits .and .i64 n c = n % (2 ^ m : Nat) := by
  have key : (BitVec.ofInt 64 n &&& BitVec.ofInt 64 c).toNat = (n % ((2 ^ 64 : Nat) : Int)).toNat % 2 ^ m := by
    rw [BitVec.toNat_and, BitVec.toNat_ofInt, hc, Nat.and_two_pow_sub_one_eq_mod]
  show IntKind.i64.wrap ((BitVec.ofInt 64 n &&& BitVec.ofInt 64 c).toNat : Nat) = _
  rw [key, IntKind.wrap_i64]
  have hp : 2 ^ m < 2 ^ 63 := Nat.pow_lt_pow_right (by omega) hm
  have h0 : 0 < 2 ^ m := Nat.two_pow_pos m
  have hl : (n % ((2 ^ 64 : Nat) : Int)).toNat % 2 ^ m < 2 ^ m := Nat.mod_lt _ h0
  have hd : ((2 ^ m : Nat) : Int) ∣ ((2 ^ 64 : Nat) : Int) := Int.natCast_dvd_natCast.2 (Nat.pow_dvd_pow 2 (by omega))
  have e : ((((n % ((2 ^ 64 : Nat) : Int)).toNat % 2 ^ m : Nat) : Int)) = n % (2 ^ m : Nat) := by
    rw [Int.natCast_emod, Int.toNat_of_nonneg (Int.emod_nonneg _ (by omega)), Int.emod_emod_of_dvd _ hd]
  omega
theorem and63 (k : Nat) : bits .and .i64 (k : Int) 63 = ((k % 64 : Nat) : Int) := by
  rw [i64_and_pow _ 6 _ (by decide) (by decide)]; rfl
theorem and1023 (n : Int) : bits .and .i64 n 1023 = n % 1024 := i64_and_pow n 10 1023 (by decide) (by decide)
theorem shl1 (c : Nat) (h : c < 64) : Op.shift .shl .u64 1 .i64 (c : Int) = pure (.int .u64 ((2 ^ c : Nat) : Int)) := by
  rw [shift_shl .u64 .i64 1 (c : Int) (by omega) (by simp [IntKind.bits]; omega)]
  have hp : 2 ^ c < 2 ^ 64 := Nat.pow_lt_pow_right (by omega) h
  have e : (1 : Int) * 2 ^ (c : Int).toNat = ((2 ^ c : Nat) : Int) := by simp
  rw [e, IntKind.wrap_u64]
  generalize 2 ^ c = p at *
  have e2 : (p : Int) % 18446744073709551616 = (p : Int) := by omega
  rw [e2]
theorem shr6 (k : Nat) : Op.shift .shr .i64 (k : Int) .u64 6 = pure (.int .i64 ((k / 64 : Nat) : Int)) := by
  rw [shift_shr .i64 .u64 (k : Int) 6 (by omega) (by decide)]
  rfl

/-! ### may, bit -/
def mayB (n : Int) : Bool := decide (0 ≤ n ∧ n < 1024)
theorem may_any (n : Int) (w : World) (h0 : -9223372036854775808 ≤ n) (h1 : n ≤ 9223372036854775807) :
    Calls Tryz.prog 124 #[.int .i64 n] w fun e w' => e = .returned (.bool (mayB n)) ∧ w = w' := by
  by_cases hn : 0 ≤ n
  · by_cases hm : n < 1024
    · have e : mayB n = true := by simp [mayB, hn, hm]
      rw [e]
      clear e
      go_enter Tryz.func124, Tryz.ntmps124
      go_wp2
      go_ret
      exact ⟨rfl, rfl⟩
    · have e : mayB n = false := by simp [mayB, hn, hm]
      rw [e]
      clear e
      go_enter Tryz.func124, Tryz.ntmps124
      go_wp2
      go_ret
      exact ⟨by simp, rfl⟩
  · have e : mayB n = false := by simp [mayB, hn]
    rw [e]
    clear e
    go_enter Tryz.func124, Tryz.ntmps124
    go_wp2
    go_ret
    exact ⟨by simp, rfl⟩
theorem mayB_nat (k : Nat) (h : k < 1024) : mayB (k : Int) = true := by simp [mayB]; omega

theorem bit_any (k : Nat) (w : World) (h1 : k < 1024) :
    Calls Tryz.prog 125 #[.int .i64 (k : Int)] w fun e w' => e = .returned (.int .u64 ((2 ^ (k % 64) : Nat) : Int)) ∧ w = w' := by
  have a1 := and63 k
  have a2 := shl1 (k % 64) (by omega)
  generalize 2 ^ (k % 64) = p at *
  generalize k % 64 = c at *
  go_enter Tryz.func125, Tryz.ntmps125
  go_wp2
  go_ret
  exact ⟨rfl, rfl⟩

/-! ### With, Without -/
theorem zero_box (w : World) : Box (w.alloc (.cells #[.int .u64 0, .int .u64 0, .int .u64 0, .int .u64 0, .int .u64 0, .int .u64 0, .int .u64 0, .int .u64 0, .int .u64 0, .int .u64 0, .int .u64 0, .int .u64 0, .int .u64 0, .int .u64 0, .int .u64 0, .int .u64 0] 104)) w.heap.size noneF := by
  have h := Box.new w noneF
  rwa [cellsL_none] at h
theorem entry1 (w : World) (f : Nat → Bool) : ∃ W, (w.alloc (.cells (cellsL f).toArray 104)).alloc (.cells #[.int .u64 0, .int .u64 0, .int .u64 0, .int .u64 0, .int .u64 0, .int .u64 0, .int .u64 0, .int .u64 0, .int .u64 0, .int .u64 0, .int .u64 0, .int .u64 0, .int .u64 0, .int .u64 0, .int .u64 0, .int .u64 0] 104) = W ∧
    Box W w.heap.size f ∧ Box W (w.heap.size + 1) noneF ∧ Below w.heap.size w W := by
  have b2 := zero_box (w.alloc (.cells (cellsL f).toArray 104))
  rw [World.size_alloc] at b2
  exact ⟨_, rfl, (Box.new w f).alloc _, b2, ((Below.refl w.heap.size w).alloc (Nat.le_refl _) _).alloc (by simp) _⟩
theorem entry2 (w : World) (f g : Nat → Bool) : ∃ W, ((w.alloc (.cells (cellsL f).toArray 104)).alloc (.cells (cellsL g).toArray 104)).alloc (.cells #[.int .u64 0, .int .u64 0, .int .u64 0, .int .u64 0, .int .u64 0, .int .u64 0, .int .u64 0, .int .u64 0, .int .u64 0, .int .u64 0, .int .u64 0, .int .u64 0, .int .u64 0, .int .u64 0, .int .u64 0, .int .u64 0] 104) = W ∧
    Box W w.heap.size f ∧ Box W (w.heap.size + 1) g ∧ Box W (w.heap.size + 1 + 1) noneF ∧ Below w.heap.size w W := by
  obtain ⟨W, hW, b1, b2, hb⟩ := entry1 (w.alloc (.cells (cellsL f).toArray 104)) g
  rw [World.size_alloc] at b1 b2 hb
  refine ⟨_, hW, (Box.new w f).below hb (by omega), b1, b2, ((Below.refl w.heap.size w).alloc (Nat.le_refl _) _).trans (hb.mono (by omega))⟩

set_option maxHeartbeats 1000000 in
theorem with_any (f : Nat → Bool) (n : Int) (w : World) (h0 : -9223372036854775808 ≤ n) (h1 : n ≤ 9223372036854775807) :
    Calls Tryz.prog 102 #[setV f, .int .i64 n] w fun e w' => e = .returned (setV (insMM f n)) ∧ Below w.heap.size w w' := by
  have M := Lib.hid (may_any n)
  obtain ⟨W, hW, b1, b2, hb⟩ := entry1 w f
  have HW := Lib.hid hW
  clear hW
  by_cases hn : 0 ≤ n ∧ n < 1024
  · obtain ⟨k, rfl⟩ := Int.eq_ofNat_of_zero_le hn.1
    have hk : k < 1024 := by omega
    rw [mayB_nat k hk] at M
    have B := Lib.hid (fun w => bit_any k w hk)
    go_enter Tryz.func102, Tryz.ntmps102
    go_wp2_with (go_at_call 124; refine (M.out _ h0 h1).mono ?_; rintro e w' ⟨rfl, rfl⟩)
    rw [HW.out]
    have c1 := b1.cell (k / 64) (by omega)
    have c2 := b1.frozen (k / 64)
    have a1 := shr6 k
    have hq : k / 64 < 16 := by omega
    have hx := word_le f (k / 64)
    have hp : 2 ^ (k % 64) < 18446744073709551616 := Nat.pow_lt_pow_right (a := 2) (n := 64) (by omega) (by omega)
    have a2 := u64_or_nat (word f (k / 64)) (2 ^ (k % 64)) (by omega) hp
    generalize hX : word f (k / 64) = x at *
    generalize hP : 2 ^ (k % 64) = p at *
    generalize hQ : k / 64 = q at *
    have HX := Lib.hid hX
    have HP := Lib.hid hP
    have HQ := Lib.hid hQ
    clear hX hP hQ
    generalize hV : x ||| p = v at *
    have HV := Lib.hid hV
    clear hV
    go_region_with (go_at_call 125; refine (B.out _).mono ?_; rintro e w' ⟨rfl, rfl⟩)
    all_goals
      have b3 : Box ((W.setCell ⟨w.heap.size, q, none⟩ (.int .u64 (v : Int))).drew) w.heap.size (insMM f k) :=
        (b1.set q v (by rw [← HV.out, ← HX.out, ← HP.out, ← HQ.out]; exact word_ins f k) (fun j hj hne => (word_ins_other f k j (by rw [HQ.out]; exact hne)).symm)).drew
      have b4 : Box ((W.setCell ⟨w.heap.size, q, none⟩ (.int .u64 (v : Int))).drew) (w.heap.size + 1) noneF := (b2.setCell _ _ (by simp)).drew
      have hb2 : Below w.heap.size w ((W.setCell ⟨w.heap.size, q, none⟩ (.int .u64 (v : Int))).drew) := (hb.setCell (p := ⟨w.heap.size, q, none⟩) (Nat.le_refl _) _).drew
      generalize (W.setCell ⟨w.heap.size, q, none⟩ (.int .u64 (v : Int))).drew = W2 at *
      clear b1 b2 hb c1 c2
      go_wp2_with (first
        | ((with_reducible show wpList _ _ _ (⟨some 15, _, _, _, _, _⟩ :: _) _ _); refine wpList_load_mid rfl 104 _ rfl _ _ rfl _ _ b3.range Tryz.underlying104 rfl (info26 _) ?_)
        | ((with_reducible show wpList _ _ _ (⟨none, _, _, _, _, _⟩ :: _) _ _); refine wpList_store_mid rfl 104 _ _ rfl _ _ (cellsL (insMM f k)).toArray rfl rfl (b4.there _) (info26' _) (cellsL_all _) ?_)
        | ((with_reducible show bodyPost _ _ _ _ _ _); exact bodyPost_ret (results_box rfl _ _ _ _ rfl (b4.setCells _)) rfl ⟨rfl, below_setCells hb2 b4 _ (by simp)⟩))
  · have e : mayB n = false := by simpa [mayB] using hn
    rw [e] at M
    clear e
    have e2 : setV (insMM f n) = setV f := by rw [setV, (cellsL_ext fun i hi => word_ins_far f n i hi (by omega) : cellsL (insMM f n) = cellsL f)]
    rw [e2]
    clear e2 hn
    go_enter Tryz.func102, Tryz.ntmps102
    go_wp2_with (first
      | (go_at_call 124; refine (M.out _ h0 h1).mono ?_; rintro e w' ⟨rfl, rfl⟩)
      | ((with_reducible show wpList _ _ _ (⟨some 15, _, _, _, _, _⟩ :: _) _ _); rw [HW.out]; refine wpList_load_mid rfl 104 _ rfl _ _ rfl _ _ b1.range Tryz.underlying104 rfl (info26 _) ?_)
      | ((with_reducible show wpList _ _ _ (⟨none, _, _, _, _, _⟩ :: _) _ _); refine wpList_store_mid rfl 104 _ _ rfl _ _ (cellsL f).toArray rfl rfl (b2.there _) (info26' _) (cellsL_all _) ?_)
      | ((with_reducible show bodyPost _ _ _ _ _ _); exact bodyPost_ret (results_box rfl _ _ _ _ rfl (b2.setCells _)) rfl ⟨rfl, below_setCells hb b2 _ (by simp)⟩))

end Go.Proofs.YtnhddnldebdmbaaGreatDoor
/- Contracts of package marks' functions: Has, Or, Minus, Below. -/
namespace Go.Proofs.YtnhddnldebdmbaaGreatDoor
open Go.RowKit
set_option linter.unusedVariables false

def hasB (f : Nat → Bool) (n : Int) : Bool := mayB n && f n.toNat
theorem hasB_nat (f : Nat → Bool) (k : Nat) (h : k < 1024) : hasB f (k : Int) = f k := by simp [hasB, mayB_nat k h]

theorem and_ne_zero (f : Nat → Bool) (k : Nat) : ((((word f (k / 64) &&& 2 ^ (k % 64) : Nat)) : Int) != 0) = f k := by
  rw [word_has]
  have := Nat.two_pow_pos (k % 64)
  generalize 2 ^ (k % 64) = p at *
  cases f k
  · simp
  · simp; omega

/-! ### Or -/
/-- f up to word i is as g, and behind it as f. -/
def mixF (h f : Nat → Bool) (i : Nat) : Nat → Bool := fun k => if k < 64 * i then h k else f k
theorem word_mix_lt (h f : Nat → Bool) (i j : Nat) (hj : j < i) : word (mixF h f i) j = word h j :=
  word_ext fun k hk => by simp only [mixF]; rw [if_pos (by omega)]
theorem word_mix_ge (h f : Nat → Bool) (i j : Nat) (hj : i ≤ j) : word (mixF h f i) j = word f j :=
  word_ext fun k hk => by simp only [mixF]; rw [if_neg (by omega)]
theorem cells_mix_0 (h f : Nat → Bool) : cellsL (mixF h f 0) = cellsL f := cellsL_ext fun i _ => word_mix_ge h f 0 i (by omega)
theorem cells_mix_16 (h f : Nat → Bool) : cellsL (mixF h f 16) = cellsL h := cellsL_ext fun i hi => word_mix_lt h f 16 i hi
theorem Box.mixStep {w : World} {b : Nat} {h f : Nat → Bool} {i : Nat} (hb : Box w b (mixF h f i)) (v : Nat) (hv : v = word h i) : Box (w.setCell ⟨b, i, none⟩ (.int .u64 v)) b (mixF h f (i + 1)) :=
  hb.set i v (by rw [hv, word_mix_lt h f (i + 1) i (by omega)]) fun j _ hne => by
    by_cases hlt : j < i
    · rw [word_mix_lt _ _ _ _ hlt, word_mix_lt _ _ _ _ (by omega)]
    · rw [word_mix_ge _ _ _ _ (by omega), word_mix_ge _ _ _ _ (by omega)]
theorem Box.of_eq {w : World} {b : Nat} {f g : Nat → Bool} (h : Box w b f) (e : cellsL f = cellsL g) : Box w b g := ⟨by rw [← e]; exact h.is⟩

theorem run_idx (g : Nat → Bool) (k : Nat) (hk : k < 16) (w : World) : (Instr.index 104 (.agg (cellsL g).toArray) (.int .i64 (k : Int))).run Tryz.prog w = .ok (.int .u64 (word g k : Int)) w := by
  have hn : (0 : Int) ≤ (k : Int) ∧ (k : Int) < (16 : Nat) := by omega
  have hg := cellsL_get g k hk
  have hlt : k < (cellsL g).length := by rw [cellsL_length]; exact hk
  simp [Instr.index, run_underlying Tryz.underlying104, asIntOf, hn, go_sem, hg]
  intro h
  omega

/-! ### Below -/
theorem belowF_congr {a b : Int} (h : ∀ k : Nat, k < 1024 → ((k : Int) < a ↔ (k : Int) < b)) : cellsL (belowF a) = cellsL (belowF b) :=
  cellsL_ext fun i hi => word_ext fun j hj => by
    have := h (64 * i + j) (by omega)
    simp only [belowF, this]
theorem zero_entry (w : World) : ∃ W, (w.alloc (.cells #[.int .u64 0, .int .u64 0, .int .u64 0, .int .u64 0, .int .u64 0, .int .u64 0, .int .u64 0, .int .u64 0, .int .u64 0, .int .u64 0, .int .u64 0, .int .u64 0, .int .u64 0, .int .u64 0, .int .u64 0, .int .u64 0] 104)).alloc (.cells #[.int .u64 0, .int .u64 0, .int .u64 0, .int .u64 0, .int .u64 0, .int .u64 0, .int .u64 0, .int .u64 0, .int .u64 0, .int .u64 0, .int .u64 0, .int .u64 0, .int .u64 0, .int .u64 0, .int .u64 0, .int .u64 0] 104) = W ∧
    Box W w.heap.size noneF ∧ Box W (w.heap.size + 1) noneF ∧ Below w.heap.size w W := by
  obtain ⟨W, hW, h⟩ := entry1 w noneF
  rw [cellsL_none] at hW
  exact ⟨W, hW, h⟩
/-- All below word k, nothing from it on. -/
def fillF (k : Nat) : Nat → Bool := mixF (fun _ => true) noneF k
theorem word_true (i : Nat) : word (fun _ => true) i = 18446744073709551615 :=
  (eq_word (by omega) (fun j hj => by rw [show (18446744073709551615 : Nat) = 2 ^ 64 - (0 + 1) from rfl, Nat.testBit_two_pow_sub_succ (by omega)]; simp [hj])).symm
theorem fill_0 : cellsL (fillF 0) = cellsL noneF := cells_mix_0 _ _
theorem fill_all : cellsL (fillF 16) = cellsL (belowF 1024) := cellsL_ext fun i hi => word_ext fun j hj => by
  have h1 : 64 * i + j < 64 * 16 := by omega
  have h2 : ((64 * i + j : Nat) : Int) < 1024 := by omega
  simp only [fillF, mixF, belowF, h1, h2, if_true, decide_true]
theorem Box.fillStep {w : World} {b k : Nat} (h : Box w b (fillF k)) : Box (w.setCell ⟨b, k, none⟩ (.int .u64 18446744073709551615)) b (fillF (k + 1)) :=
  Box.mixStep h 18446744073709551615 (word_true k).symm
theorem Box.fillEnd {w : World} {b n : Nat} (h : Box w b (fillF (n / 64))) (hn : n < 1024) : Box (w.setCell ⟨b, n / 64, none⟩ (.int .u64 ((2 ^ (n % 64) - 1 : Nat) : Int))) b (belowF n) :=
  h.set (n / 64) (2 ^ (n % 64) - 1) (by
    rw [word_below, if_neg (by omega)]
    by_cases hh : n ≤ 64 * (n / 64)
    · rw [if_pos hh, show n % 64 = 0 by omega]
    · rw [if_neg hh, show n % 64 = n - 64 * (n / 64) by omega]) fun j hj hne => by
    by_cases hlt : j < n / 64
    · rw [fillF, word_mix_lt _ _ _ _ hlt, word_true, word_below, if_pos (by omega)]
    · rw [fillF, word_mix_ge _ _ _ _ (by omega), word_below, if_neg (by omega), if_pos (by omega)]
      exact (eq_word (by omega) (by simp [noneF])).symm

end Go.Proofs.YtnhddnldebdmbaaGreatDoor
/- Contracts of math/bits' two functions, and of Len. -/
namespace Go.Proofs.YtnhddnldebdmbaaGreatDoor
open Go.RowKit
set_option linter.unusedVariables false

theorem shr_lit (x m : Nat) (M : Int) (d : Nat) (hM : M = (m : Int)) (hd : d = 2 ^ m) (hm : m ≤ 64) : Op.shift .shr .u64 (x : Int) .u64 M = pure (.int .u64 ((x / d : Nat) : Int)) := by
  subst hM hd
  rw [shift_shr .u64 .u64 (x : Int) (m : Int) (by omega) (by simp [IntKind.bits]; omega)]
  simp

end Go.Proofs.YtnhddnldebdmbaaGreatDoor
/- The contract of math/bits.TrailingZeros64, where its table reads as it is laid. -/
namespace Go.Proofs.YtnhddnldebdmbaaGreatDoor
open Go.RowKit
set_option linter.unusedVariables false

/-- The table of math/bits reads as the program's text lays it. -/
def Tab (w : World) : Prop := ∀ i v : Nat, deB[i]? = some v → w.cell? ⟨0, i, none⟩ = some (.int .u8 (v : Int))
theorem Tab.pos {w : World} (h : Tab w) : 0 < w.heap.size := World.block_lt_of_cell? w _ (h 0 0 rfl)
theorem Tab.below {w w' : World} (h : Tab w) (hb : Below w.heap.size w w') : Tab w' := fun i v hv => by
  rw [hb.cell (p := ⟨0, i, none⟩) h.pos]; exact h i v hv

theorem pow_lt_lit (t : Nat) (ht : t < 64) : 2 ^ t < 18446744073709551616 := by
  have := Nat.pow_lt_pow_right (a := 2) (by omega) ht
  have e : (18446744073709551616 : Nat) = 2 ^ 64 := by decide
  rw [e]; exact this

theorem tz_mul (p y : Nat) (hy : p * 285870213051353865 % 18446744073709551616 = y) : IntKind.u64.wrap ((p : Int) * 285870213051353865) = (y : Int) := by
  rw [IntKind.wrap_u64]
  subst hy
  rw [Int.natCast_emod, Int.natCast_mul]
  rfl
theorem tz_neg (x : Nat) (h0 : 0 < x) (hx : x < 18446744073709551616) : IntKind.u64.wrap (-(x : Int)) = ((18446744073709551616 - x : Nat) : Int) := by rw [IntKind.wrap_u64]; omega

set_option maxRecDepth 100000 in
set_option maxHeartbeats 1000000 in
/-- The walk, over plain facts. -/
theorem tz_walk (t x y i p nx : Nat) (w : World) (hx : x < 18446744073709551616) (h0 : 0 < x) (hi : i < 64) (ht : t < 64)
    (hz : ((x : Int) == 0) = false) (hc : w.cell? ⟨0, i, none⟩ = some (.int .u8 (t : Int)))
    (s1 : Op.shift .shr .u64 (y : Int) .u64 58 = pure (.int .u64 (i : Int)))
    (m1 : IntKind.u64.wrap ((p : Int) * 285870213051353865) = (y : Int)) (c1 : bits .and .u64 (x : Int) (nx : Int) = (p : Int)) (n1 : IntKind.u64.wrap (-(x : Int)) = (nx : Int)) :
    Calls Tryz.prog 80 #[.int .u64 (x : Int)] w fun e w' => e = .returned (.int .i64 (t : Int)) ∧ w = w' := by
  go_enter Tryz.func80, Tryz.ntmps80
  go_wp2
  go_ret
  exact ⟨rfl, rfl⟩

theorem shr58 (y i : Nat) (h : y / 288230376151711744 = i) : Op.shift .shr .u64 (y : Int) .u64 58 = pure (.int .u64 (i : Int)) := by
  subst h
  exact shr_lit y 58 58 288230376151711744 rfl (by decide) (by omega)
theorem tz_any (t m x : Nat) (w : World) (ht : t < 64) (hxe : x = 2 ^ t * (2 * m + 1)) (hx : x < 18446744073709551616) (hT : Tab w) :
    Calls Tryz.prog 80 #[.int .u64 (x : Int)] w fun e w' => e = .returned (.int .i64 (t : Int)) ∧ w = w' := by
  have h0 : 0 < x := by subst hxe; exact Nat.mul_pos (Nat.two_pow_pos t) (by omega)
  have hd := deB_tz t ht
  have hl := low_and_lit t m x ht hx hxe
  have hp := pow_lt_lit t ht
  have c1 := u64_and_nat x (18446744073709551616 - x) hx (by omega)
  rw [hl] at c1
  clear hl hxe
  generalize 2 ^ t = p at *
  generalize hy : p * 285870213051353865 % 18446744073709551616 = y at *
  generalize hi : y / 288230376151711744 = i at *
  exact tz_walk t x y i p _ w hx h0 hd.1 ht (by simp; omega) (hT _ _ hd.2) (shr58 y i hi) (tz_mul p y hy) c1 (tz_neg x h0 hx)

/-! ### Len -/
/-- How many of the first i words' numbers f holds of. -/
def cnt (f : Nat → Bool) : Nat → Nat
  | 0 => 0
  | i + 1 => cnt f i + pc (word f i) 64
theorem cnt_le (f : Nat → Bool) (i : Nat) : cnt f i ≤ 64 * i := by
  induction i with
  | zero => simp [cnt]
  | succ i ih => have := pc_le (word f i) 64; simp only [cnt]; omega

end Go.Proofs.YtnhddnldebdmbaaGreatDoor
