/- Texts about the program, one after the other: JPure, EPure, EMany, JOps, JSoon, JArr, JCut. -/
import Derived.WalkKit
import Derived.ProofKit
import Derived.Handy
import Derived.Lib.Hide
import Derived.Deep.MidRow
import Derived.Deep.QuietTactic
import Derived.BigQuiet
import Derived.Deep.RegionHeld3
import Derived.Laws.Externs
import Derived.RangeFuncBox
import Derived.Deep.CutBlock
import Derived.Deep.LoopGhost
import Derived.WalkMore
import Derived.Laws.OwnMore
import Derived.Laws.BytesString
import Derived.Laws.AppendOwn
import Derived.RangeFuncRecord
import Derived.MapKept
import Derived.RangeFuncNested
import Derived.RangeFuncBound
import Derived.RangeFuncCalls
import Derived.RangeFuncLeaves
import Derived.RangeFuncWrites
import Derived.Shelf.Abstract
import Derived.OwnWalkIn
import Derived.TacticsInMore
import Derived.LoopNIn
import Derived.LoopIn
import Derived.Deep.Quiet
import Derived.Shelf.Small.Bits
import Derived.Shelf.Small.Strs
import Derived.Shelf.Small.Wraps
import Derived.Shelf.Strconv.Itoa0
import Derived.Shelf.LaysM
import Derived.Shelf.Strconv.Clone
import Derived.Shelf.Strings.Search1
import Derived.Shelf.Bits.Mul64
import Derived.Ground.Names2Prog
import Derived.Shelf.Slices.SearchI
import Derived.Below
import Derived.ChangeOld
import Derived.OpenShut
import Derived.LaidMore
import Derived.Maps.AppendAt
import Derived.Test.YthfkbbiaemmndaaGreatDoorRows
import Derived.Test.YthfkbbiaemmndaaGreatDoorProg
import Derived.Sort.LoopGhostIn
import Derived.Deep.RegionHeldLaw
import Derived.StillTailTactics
import Derived.Test.YthfkbbiaemmndaaGreatDoorG4
import Derived.Test.YthfkbbiaemmndaaGreatDoorG5
import Derived.Test.YthfkbbiaemmndaaGreatDoorG6
set_option linter.unusedVariables false
set_option linter.unusedSimpArgs false
set_option maxRecDepth 100000
set_option maxHeartbeats 16000000
namespace Go.Proofs.YthfkbbiaemmndaaGreatDoor
section
open Go.RowKit
structure TsOk (x : Ts) : Prop where
 c0 : 1 ≤ x.c
 c1 : x.c ≤ 2147483647
 t0 : 1 ≤ x.t
 t1 : x.t ≤ 2147483647
 j0 : 0 ≤ x.j
 j1 : x.j ≤ 2147483647
 q0 : 1 ≤ x.q
 q1 : x.q ≤ 2147483647
structure Vs (ts : List Ts) : Prop where
 n0 : 1 ≤ ts.length
 n1 : ts.length ≤ 1024
 all : ∀ x ∈ ts, TsOk x
theorem tsOk_of {x : Ts} (h : checkE x = 0) : TsOk x := by
 have hr : rangedB x = true := by
  by_cases h1 : (namedB x && rangedB x) = true
  ·simp only [Bool.and_eq_true] at h1; exact h1.2
  ·rw [checkE, if_neg h1] at h; omega
 obtain ⟨⟨c1, c2⟩, ⟨t1, t2⟩, ⟨d1, d2⟩, ⟨q1, q2⟩, ⟨j1, j2⟩, -⟩ := rangedB_parts hr
 exact ⟨c1, c2, t1, t2, j1, j2, q1, q2⟩
theorem chkFrom_ok : ∀ (l pre : List Ts), (chkFrom pre l).2 = 0 → ∀ x ∈ l, checkE x = 0
 | [], _, _ => by simp
 | a :: r, pre, h => by
   rw [chkFrom] at h
   by_cases h1 : checkE a ≠ 0
   ·rw [if_pos h1] at h; exact absurd h h1
   ·rw [if_neg h1] at h
    split at h
    ·cases h
    ·intro x hx
     rcases List.mem_cons.1 hx with rfl | hx
     ·omega
     ·exact chkFrom_ok r _ h x hx
theorem vs_of {ts : List Ts} (h : (chkAll ts).2 = 0) : Vs ts := by
 rw [chkAll] at h
 split at h
 ·cases h
 ·exact ⟨by omega, by omega, fun x hx => tsOk_of (chkFrom_ok ts [] h x hx)⟩
def tk (ts : List Ts) (p : Int) : Ts := ts.getD p.toNat ⟨ByteArray.empty, 1, 1, 1, 0, 1, 1⟩
theorem tk_get {ts : List Ts} {k : Nat} {x : Ts} (h : ts[k]? = some x) : tk ts (k : Int) = x := by
 rw [tk, Int.toNat_natCast, List.getD_eq_getElem?_getD, h]; rfl
theorem Vs.tk {ts : List Ts} (h : Vs ts) (p : Int) : TsOk (tk ts p) := by
 unfold Go.Proofs.YthfkbbiaemmndaaGreatDoor.tk
 rw [List.getD_eq_getElem?_getD]
 cases hp : ts[p.toNat]? with
 | none => exact ⟨by decide, by decide, by decide, by decide, by decide, by decide, by decide, by decide⟩
 | some x => exact h.all x (List.mem_of_getElem? hp)
def lastT (js : List Fv) (t : Int) : Option Fv := js.reverse.find? fun j => decide (j.t = t)
theorem lastT_nil (t : Int) : lastT [] t = none := rfl
theorem lastT_snoc (js : List Fv) (j : Fv) (t : Int) : lastT (js ++ [j]) t = if j.t = t then some j else lastT js t := by
 rw [lastT, List.reverse_append, List.reverse_singleton, List.singleton_append, List.find?_cons]
 by_cases h : j.t = t <;> simp [h, lastT]
theorem lastT_mem {js : List Fv} {t : Int} {j : Fv} (h : lastT js t = some j) : j ∈ js ∧ j.t = t := by
 have h1 := List.mem_of_find?_eq_some h
 have h2 := List.find?_some h
 exact ⟨by simpa using h1, by simpa using h2⟩
def soonI (ts : List Ts) (js : List Fv) (p : Int) : Int := match lastT js p with | none => 0 | some j => j.a + (tk ts p).t
def fitB (q : Int) : Int → List Int → Bool
 | _, [] => true
 | left, c :: r => decide (1 ≤ c ∧ c ≤ min q left) && fitB q (left - c) r
def legJ (ts : List Ts) (js : List Fv) (j : Fv) : Bool :=
 inB j.t 0 (ts.length - 1) && (inB j.a (soonI ts js j.t) 17592186044416 && (inB j.r j.a (j.a + (tk ts j.t).j) && (inB j.k 1 (tk ts j.t).c && fitB (tk ts j.t).q j.k j.c)))
def legF (ts : List Ts) (js : List Fv) : List Fv → Bool
 | [] => true
 | j :: r => legJ ts js j && legF ts (js ++ [j]) r
def legS (ts : List Ts) (js : List Fv) : Bool := decide ((chkAll ts).2 = 0 ∧ js.length ≤ 4096) && legF ts [] js
theorem legF_app (ts : List Ts) : ∀ (a b js : List Fv), legF ts js (a ++ b) = (legF ts js a && legF ts (js ++ a) b)
 | [], b, js => by simp [legF]
 | x :: a, b, js => by
   rw [List.cons_append, legF, legF, legF_app ts a b, Bool.and_assoc]
   simp
theorem snoc_ind {α : Type} {P : List α → Prop} (h0 : P []) (hs : ∀ l x, P l → P (l ++ [x])) (l : List α) : P l := by
 have h : ∀ l : List α, P l.reverse := by
  intro l
  induction l with
  | nil => exact h0
  | cons a r ih => rw [List.reverse_cons]; exact hs _ _ ih
 have := h l.reverse
 rwa [List.reverse_reverse] at this
theorem legJ_parts {ts : List Ts} {js : List Fv} {j : Fv} (h : legJ ts js j = true) : (0 ≤ j.t ∧ j.t ≤ ts.length - 1) ∧ (soonI ts js j.t ≤ j.a ∧ j.a ≤ 17592186044416) ∧ (j.a ≤ j.r ∧ j.r ≤ j.a + (tk ts j.t).j) ∧ (1 ≤ j.k ∧ j.k ≤ (tk ts j.t).c) ∧ fitB (tk ts j.t).q j.k j.c = true := by
 simp only [legJ, Bool.and_eq_true, inB_iff] at h
 exact h
end
section
def wthS : List Int → Int → Bool
 | [], _ => false
 | a :: cs, d => (decide (0 < d) && decide (d < a)) || wthS cs (d - a)
def cl : List Int → Int → List Int
 | [], _ => []
 | a :: cs, d => if a ≤ d then cl cs (d - a) else a :: cs
def Pos1 (c : List Int) : Prop := ∀ x ∈ c, 1 ≤ x
theorem Pos1.tail {a : Int} {c : List Int} (h : Pos1 (a :: c)) : Pos1 c := fun x hx => h x (List.mem_cons_of_mem _ hx)
theorem Pos1.head {a : Int} {c : List Int} (h : Pos1 (a :: c)) : 1 ≤ a := h a (by simp)
theorem Pos1.sum : ∀ {c : List Int}, Pos1 c → 0 ≤ c.sum
 | [], _ => by simp
 | a :: c, h => by have := h.head; have := Pos1.sum h.tail; rw [List.sum_cons]; omega
theorem wthS_neg : ∀ (c : List Int) (d : Int), Pos1 c → d ≤ 0 → wthS c d = false
 | [], _, _, _ => rfl
 | a :: c, d, h, hd => by
   have := h.head
   rw [wthS, wthS_neg c (d - a) h.tail (by omega), decide_eq_false (by omega)]; rfl
theorem wthS_sum : ∀ (c : List Int) (d : Int), Pos1 c → c.sum ≤ d → wthS c d = false
 | [], _, _, _ => rfl
 | a :: c, d, h, hd => by
   rw [List.sum_cons] at hd
   have := h.tail.sum
   rw [wthS, wthS_sum c (d - a) h.tail (by omega), decide_eq_false (show ¬ d < a by omega)]; simp
theorem wthS_lt {c : List Int} {d : Int} (h : Pos1 c) (hw : wthS c d = true) : 0 < d ∧ d < c.sum := by
 refine ⟨?_, ?_⟩
 ·rcases Int.lt_or_le 0 d with h1 | h1
  ·exact h1
  ·rw [wthS_neg c d h h1] at hw; cases hw
 ·rcases Int.lt_or_le d c.sum with h1 | h1
  ·exact h1
  ·rw [wthS_sum c d h h1] at hw; cases hw
theorem cl_zero : ∀ (c : List Int), Pos1 c → cl c 0 = c
 | [], _ => rfl
 | a :: c, h => by have := h.head; rw [cl, if_neg (by omega)]
theorem cl_step : ∀ (c : List Int) (d a : Int) (r : List Int), Pos1 c → 0 ≤ d → wthS c d = false → cl c d = a :: r →
  1 ≤ a ∧ d + a ≤ c.sum ∧ (∀ u, 0 < u → u < a → wthS c (d + u) = true) ∧ wthS c (d + a) = false ∧ cl c (d + a) = r
 | [], d, a, r, _, _, _, h => by simp [cl] at h
 | b :: c, d, a, r, hp, hd, hw, h => by
   have hb := hp.head
   rw [wthS, Bool.or_eq_false_iff] at hw
   rw [List.sum_cons]
   rw [cl] at h
   by_cases hbd : b ≤ d
   ·rw [if_pos hbd] at h
    obtain ⟨h1, h1', h2, h3, h4⟩ := cl_step c (d - b) a r hp.tail (by omega) hw.2 h
    refine ⟨h1, by omega, fun u hu hua => ?_, ?_, ?_⟩
    ·rw [wthS, show d + u - b = d - b + u by omega, h2 u hu hua, Bool.or_true]
    ·rw [wthS, show d + a - b = d - b + a by omega, h3, decide_eq_false (show ¬ d + a < b by omega)]; simp
    ·rw [cl, if_pos (by omega), show d + a - b = d - b + a by omega, h4]
   ·rw [if_neg hbd] at h
    injection h with e1 e2
    subst e1; subst e2
    have hd0 : d = 0 := by
     rcases Int.lt_or_le 0 d with h1 | h1
     ·have := hw.1
      rw [decide_eq_true h1, decide_eq_true (show d < b by omega)] at this
      cases this
     ·omega
    subst hd0
    have := hp.tail.sum
    refine ⟨hb, by omega, fun u hu hua => ?_, ?_, ?_⟩
    ·rw [wthS, Int.zero_add, decide_eq_true hu, decide_eq_true hua]; rfl
    ·rw [wthS, Int.zero_add, Int.sub_self, wthS_neg c 0 hp.tail (Int.le_refl _), decide_eq_false (show ¬ b < b by omega)]; simp
    ·rw [cl, if_pos (by omega), Int.zero_add, Int.sub_self, cl_zero c hp.tail]
theorem cl_none : ∀ (c : List Int) (d : Int), cl c d = [] → ∀ u, 0 ≤ u → wthS c (d + u) = false ∧ cl c (d + u) = []
 | [], d, _, u, _ => ⟨rfl, rfl⟩
 | b :: c, d, h, u, hu => by
   rw [cl] at h
   by_cases hbd : b ≤ d
   ·rw [if_pos hbd] at h
    obtain ⟨h1, h2⟩ := cl_none c (d - b) h u hu
    refine ⟨?_, ?_⟩
    ·rw [wthS, show d + u - b = d - b + u by omega, h1, decide_eq_false (show ¬ d + u < b by omega)]; simp
    ·rw [cl, if_pos (by omega), show d + u - b = d - b + u by omega, h2]
   ·rw [if_neg hbd] at h; cases h
def jb (js : List Fv) (i : Nat) : Fv := (js[i]?).getD ⟨0, 0, 0, 1, []⟩
theorem jb_get {js : List Fv} {i : Nat} {x : Fv} (h : js[i]? = some x) : jb js i = x := by rw [jb, h]; rfl
def prO (ts : List Ts) (js : List Fv) (i : Nat) : Int := (tk ts (jb js i).t).p
def rdy (js : List Fv) (dn : List Int) (t : Int) (i : Nat) : Bool := decide ((jb js i).r ≤ t) && decide (kO dn i < (jb js i).k)
theorem rdy_iff {js : List Fv} {dn : List Int} {t : Int} {i : Nat} : rdy js dn t i = true ↔ (jb js i).r ≤ t ∧ kO dn i < (jb js i).k := by simp [rdy]
def pk1 (ts : List Ts) (js : List Fv) (dn : List Int) (t : Int) (best : Option Nat) (i : Nat) : Option Nat :=
 if rdy js dn t i && (match best with | none => true | some b => decide (prO ts js i < prO ts js b)) then some i else best
def pkN (ts : List Ts) (js : List Fv) (dn : List Int) (t : Int) (n : Nat) : Option Nat := (List.range n).foldl (pk1 ts js dn t) none
section
variable {ts : List Ts} {js : List Fv} {dn : List Int} {t : Int}
theorem pkN_succ (n : Nat) : pkN ts js dn t (n + 1) = pk1 ts js dn t (pkN ts js dn t n) n := by simp [pkN, List.range_succ]
def Best (ts : List Ts) (js : List Fv) (dn : List Int) (t : Int) (n b : Nat) : Prop := b < n ∧ rdy js dn t b = true ∧ ∀ i, i < n → rdy js dn t i = true → prO ts js b < prO ts js i ∨ (prO ts js b = prO ts js i ∧ b ≤ i)
theorem pkN_spec : ∀ n, (pkN ts js dn t n = none → ∀ i, i < n → rdy js dn t i = false) ∧ (∀ b, pkN ts js dn t n = some b → Best ts js dn t n b)
 | 0 => ⟨fun _ i hi => by omega, fun b hb => by simp [pkN] at hb⟩
 | n + 1 => by
   obtain ⟨h1, h2⟩ := pkN_spec n
   rw [pkN_succ]
   unfold pk1
   by_cases hr : rdy js dn t n = true
   ·cases hp : pkN ts js dn t n with
    | none =>
      simp only [hr, Bool.and_self, if_true]
      refine ⟨fun h => (by cases h), fun b hb => ?_⟩
      injection hb with hb
      subst hb
      refine ⟨by omega, hr, fun i hi hir => ?_⟩
      rcases Nat.lt_or_ge i n with h | h
      ·rw [h1 hp i h] at hir; cases hir
      ·obtain rfl : i = n := by omega
       exact .inr ⟨rfl, Nat.le_refl _⟩
    | some c =>
      obtain ⟨c1, c2, c3⟩ := h2 c hp
      simp only [hr, Bool.true_and, decide_eq_true_eq]
      refine ⟨fun h => (by split at h <;> cases h), fun b hb => ?_⟩
      split at hb
      ·rename_i hlt
       injection hb with hb
       subst hb
       refine ⟨by omega, hr, fun i hi hir => ?_⟩
       rcases Nat.lt_or_ge i n with h | h
       ·rcases c3 i h hir with h | h <;> (left; omega)
       ·obtain rfl : i = n := by omega
        exact .inr ⟨rfl, Nat.le_refl _⟩
      ·rename_i hlt
       injection hb with hb
       subst hb
       refine ⟨by omega, c2, fun i hi hir => ?_⟩
       rcases Nat.lt_or_ge i n with h | h
       ·exact c3 i h hir
       ·obtain rfl : i = n := by omega
        omega
   ·simp only [Bool.not_eq_true] at hr
    simp only [hr, Bool.false_and, Bool.false_eq_true, if_false]
    refine ⟨fun h i hi => ?_, fun b hb => ?_⟩
    ·rcases Nat.lt_or_ge i n with hl | hl
     ·exact h1 h i hl
     ·obtain rfl : i = n := by omega
      exact hr
    ·obtain ⟨c1, c2, c3⟩ := h2 b hb
     refine ⟨by omega, c2, fun i hi hir => ?_⟩
     rcases Nat.lt_or_ge i n with h | h
     ·exact c3 i h hir
     ·obtain rfl : i = n := by omega
      rw [hr] at hir; cases hir
theorem pkN_best {n b : Nat} (h : Best ts js dn t n b) : pkN ts js dn t n = some b := by
 obtain ⟨h1, h2⟩ := pkN_spec (ts := ts) (js := js) (dn := dn) (t := t) n
 cases hp : pkN ts js dn t n with
 | none => have := h1 hp b h.1; rw [h.2.1] at this; cases this
 | some c =>
   have hc := h2 c hp
   have a1 := hc.2.2 b h.1 h.2.1
   have a2 := h.2.2 c hc.1 hc.2.1
   congr 1
   omega
theorem pkN_no {n : Nat} (h : ∀ i, i < n → rdy js dn t i = false) : pkN ts js dn t n = none := by
 cases hp : pkN ts js dn t n with
 | none => rfl
 | some c =>
   have h2 := ((pkN_spec n).2 c hp)
   have h3 := h c h2.1
   rw [h2.2.1] at h3; cases h3
end
structure Spn where
 j : Nat
 f : Int
 t : Int
deriving DecidableEq
def addN (sp : List Spn) (i : Nat) (t m : Int) : List Spn :=
 match sp.getLast? with
 | some x => if x.j = i ∧ x.t = t then sp.dropLast ++ [⟨i, x.f, t + m⟩] else sp ++ [⟨i, t, t + m⟩]
 | none => sp ++ [⟨i, t, t + m⟩]
structure TSt where
 dn : List Int
 ru : Option Nat
 sp : List Spn
 en : List Int
def whoS (ts : List Ts) (js : List Fv) (s : TSt) (t : Int) : Option Nat :=
 match s.ru with
 | some i => if wthS (jb js i).c (kO s.dn i) then some i else pkN ts js s.dn t js.length
 | none => pkN ts js s.dn t js.length
def runM (js : List Fv) (s : TSt) (t : Int) (i : Nat) (m : Int) : TSt :=
 { dn := s.dn.set i (kO s.dn i + m), ru := some i, sp := addN s.sp i t m, en := if kO s.dn i + m = (jb js i).k then s.en.set i (t + m) else s.en }
def tstep (ts : List Ts) (js : List Fv) (s : TSt) (t : Int) : TSt :=
 match whoS ts js s t with
 | none => { s with ru := none }
 | some i => runM js s t i 1
def tst (ts : List Ts) (js : List Fv) : Nat → TSt
 | 0 => ⟨List.replicate js.length 0, none, [], List.replicate js.length (-1)⟩
 | n + 1 => tstep ts js (tst ts js n) n
def who (ts : List Ts) (js : List Fv) (n : Nat) : Option Nat := whoS ts js (tst ts js n) n
theorem kO_set {l : List Int} {i : Nat} (j : Nat) (v : Int) (hi : i < l.length) : kO (l.set i v) j = if j = i then v else kO l j := by
 unfold kO
 by_cases h : j = i
 ·subst h; rw [if_pos rfl, List.getElem?_set_self hi]; rfl
 ·rw [if_neg h, List.getElem?_set_ne (Ne.symm h)]
structure Lg (js : List Fv) : Prop where
 r0 : ∀ i, i < js.length → 0 ≤ (jb js i).r
 k1 : ∀ i, i < js.length → 1 ≤ (jb js i).k
 pos : ∀ i, Pos1 (jb js i).c
 fit : ∀ i, i < js.length → (jb js i).c.sum ≤ (jb js i).k
structure TI (js : List Fv) (n : Int) (s : TSt) : Prop where
 ld : s.dn.length = js.length
 le : s.en.length = js.length
 d0 : ∀ i, i < js.length → 0 ≤ kO s.dn i ∧ kO s.dn i ≤ (jb js i).k
 dr : ∀ i, i < js.length → 0 < kO s.dn i → (jb js i).r < n
 ru : ∀ i, s.ru = some i → i < js.length ∧ 0 < kO s.dn i
 sp : ∀ x, s.sp.getLast? = some x → x.j < js.length ∧ x.t ≤ n ∧ 0 < kO s.dn x.j ∧ (x.t < n → kO s.dn x.j = (jb js x.j).k)
 en : ∀ i, i < js.length → (kO s.dn i < (jb js i).k ∧ kO s.en i = -1) ∨ (kO s.dn i = (jb js i).k ∧ 0 < kO s.en i ∧ kO s.en i ≤ n)
section
variable {ts : List Ts} {js : List Fv}
theorem TI.who_some {n : Int} {s : TSt} {i : Nat} (hl : Lg js) (h : TI js n s) (hw : whoS ts js s n = some i) : i < js.length ∧ (jb js i).r ≤ n ∧ kO s.dn i < (jb js i).k := by
 have key : ∀ {i}, pkN ts js s.dn n js.length = some i → i < js.length ∧ (jb js i).r ≤ n ∧ kO s.dn i < (jb js i).k := by
  intro i hp
  obtain ⟨h1, h2, _⟩ := (pkN_spec _).2 i hp
  rw [rdy_iff] at h2
  exact ⟨h1, h2⟩
 unfold whoS at hw
 cases hr : s.ru with
 | none => rw [hr] at hw; exact key hw
 | some c =>
   rw [hr] at hw
   simp only at hw
   split at hw
   ·rename_i hwt
    injection hw with hw
    subst hw
    obtain ⟨h1, h2⟩ := h.ru _ hr
    have := (wthS_lt (hl.pos c) hwt).2
    have := hl.fit c h1
    have := h.dr c h1 h2
    exact ⟨h1, by omega, by omega⟩
   ·exact key hw
theorem TI.who_none {n : Int} {s : TSt} (hl : Lg js) (h : TI js n s) (hw : whoS ts js s n = none) : ∀ i, i < js.length → rdy js s.dn n i = false := by
 unfold whoS at hw
 cases hr : s.ru with
 | none => rw [hr] at hw; exact (pkN_spec _).1 hw
 | some c =>
   rw [hr] at hw
   simp only at hw
   split at hw
   ·cases hw
   ·exact (pkN_spec _).1 hw
theorem addN_last (sp : List Spn) (i : Nat) (t m : Int) : ∃ f, (addN sp i t m).getLast? = some ⟨i, f, t + m⟩ := by
 unfold addN
 cases sp.getLast? with
 | none => exact ⟨t, by simp⟩
 | some x =>
   simp only
   split
   ·exact ⟨x.f, by simp⟩
   ·exact ⟨t, by simp⟩
theorem TI.run {n : Int} {s : TSt} {i : Nat} {m : Int} (hn : 0 ≤ n) (h : TI js n s) (hi : i < js.length) (hr : (jb js i).r ≤ n) (hm : 1 ≤ m) (hk : kO s.dn i + m ≤ (jb js i).k) : TI js (n + m) (runM js s n i m) := by
 have hid : i < s.dn.length := by rw [h.ld]; exact hi
 have hie : i < s.en.length := by rw [h.le]; exact hi
 have hd0 := h.d0 i hi
 refine ⟨by simp [runM, h.ld], by unfold runM; simp only; split <;> simp [h.le], fun j hj => ?_, fun j hj hp => ?_, fun j hj => ?_, fun x hx => ?_, fun j hj => ?_⟩
 ·simp only [runM]
  rw [kO_set _ _ hid]
  split
  ·subst j; omega
  ·exact h.d0 j hj
 ·simp only [runM] at hp
  rw [kO_set _ _ hid] at hp
  split at hp
  ·subst j; omega
  ·have := h.dr j hj hp; omega
 ·simp only [runM, Option.some.injEq] at hj ⊢
  subst hj
  rw [kO_set _ _ hid, if_pos rfl]
  exact ⟨hi, by omega⟩
 ·simp only [runM] at hx ⊢
  obtain ⟨f, hf⟩ := addN_last s.sp i n m
  rw [hf] at hx
  injection hx with hx
  subst hx
  simp only
  rw [kO_set _ _ hid, if_pos rfl]
  exact ⟨hi, Int.le_refl _, by omega, fun h => by omega⟩
 ·simp only [runM]
  rw [kO_set _ _ hid]
  by_cases he : j = i
  ·subst he
   rw [if_pos rfl]
   split
   ·rename_i hd
    rw [kO_set _ _ hie, if_pos rfl]
    exact .inr ⟨hd, by omega, Int.le_refl _⟩
   ·rename_i hd
    rcases h.en j hj with h1 | h1
    ·exact .inl ⟨by omega, h1.2⟩
    ·omega
  ·rw [if_neg he]
   have hen : kO (if kO s.dn i + m = (jb js i).k then s.en.set i (n + m) else s.en) j = kO s.en j := by
    split
    ·rw [kO_set _ _ hie, if_neg he]
    ·rfl
   rw [hen]
   rcases h.en j hj with h1 | h1
   ·exact .inl h1
   ·exact .inr ⟨h1.1, h1.2.1, by omega⟩
theorem TI.idle {n m : Int} {s : TSt} (h : TI js n s) (hm : 0 ≤ m) (hr : ∀ i, i < js.length → (jb js i).r ≤ n → kO s.dn i = (jb js i).k) : TI js (n + m) { s with ru := none } := by
 refine ⟨h.ld, h.le, h.d0, fun j hj hp => ?_, fun j hj => (by cases hj), fun x hx => ?_, fun j hj => ?_⟩
 ·have := h.dr j hj hp; omega
 ·obtain ⟨h1, h2, h3, h4⟩ := h.sp x hx
  refine ⟨h1, by omega, h3, fun _ => hr _ h1 ?_⟩
  have := h.dr _ h1 h3; omega
 ·rcases h.en j hj with h1 | h1
  ·exact .inl h1
  ·exact .inr ⟨h1.1, h1.2.1, by have := h1.2.2; show kO s.en j ≤ n + m; omega⟩
theorem not_rdy {dn : List Int} {t : Int} {i : Nat} (h0 : kO dn i ≤ (jb js i).k) (h : rdy js dn t i = false) (hr : (jb js i).r ≤ t) : kO dn i = (jb js i).k := by
 have : ¬ (kO dn i < (jb js i).k) := fun hlt => by
  rw [rdy, decide_eq_true hr, decide_eq_true hlt] at h; cases h
 omega
theorem TI.step {n : Int} {s : TSt} (hn : 0 ≤ n) (hl : Lg js) (h : TI js n s) : TI js (n + 1) (tstep ts js s n) := by
 unfold tstep
 cases hw : whoS ts js s n with
 | none => exact h.idle (by omega) fun i hi hr => not_rdy (h.d0 i hi).2 (h.who_none hl hw i hi) hr
 | some i =>
   obtain ⟨h1, h2, h3⟩ := h.who_some hl hw
   exact h.run hn h1 h2 (by omega) (by omega)
theorem kO_rep (n i : Nat) (v : Int) (hi : i < n) : kO (List.replicate n v) i = v := by simp [kO, hi]
theorem ti_all (hl : Lg js) : ∀ n : Nat, TI js n (tst ts js n)
 | 0 => by
   refine ⟨by simp [tst], by simp [tst], fun i hi => ?_, fun i hi hp => ?_, fun i hi => by simp [tst] at hi, fun x hx => by simp [tst] at hx, fun i hi => ?_⟩
   ·have := hl.k1 i hi
    simp only [tst]; rw [kO_rep _ _ _ hi]; omega
   ·simp only [tst] at hp; rw [kO_rep _ _ _ hi] at hp; omega
   ·have := hl.k1 i hi
    simp only [tst]; rw [kO_rep _ _ _ hi, kO_rep _ _ _ hi]; exact .inl ⟨by omega, rfl⟩
 | n + 1 => by
   have := (ti_all hl n).step (ts := ts) (by omega) hl
   rw [show ((n + 1 : Nat) : Int) = (n : Int) + 1 by omega]
   exact this
end
end
section
theorem addN_add (sp : List Spn) (i : Nat) (t u v : Int) : addN (addN sp i t u) i (t + u) v = addN sp i t (u + v) := by
 rcases List.eq_nil_or_concat sp with h | ⟨l, x, h⟩
 ·subst h
  simp [addN, Int.add_assoc]
 ·rw [List.concat_eq_append] at h
  subst h
  unfold addN
  simp only [List.getLast?_concat, List.dropLast_concat]
  by_cases hc : x.j = i ∧ x.t = t
  ·rw [if_pos hc, if_pos hc]
   simp [List.getLast?_concat, List.dropLast_concat, Int.add_assoc]
  ·rw [if_neg hc, if_neg hc]
   simp only [List.getLast?_concat, List.dropLast_concat]
   simp [Int.add_assoc]
section
variable {ts : List Ts} {js : List Fv}
theorem runM_add {s : TSt} {n u v : Int} {i : Nat} (hi : i < s.dn.length) (hk : kO s.dn i + u ≠ (jb js i).k) : runM js (runM js s n i u) (n + u) i v = runM js s n i (u + v) := by
 have h1 : kO (s.dn.set i (kO s.dn i + u)) i = kO s.dn i + u := by rw [kO_set _ _ hi, if_pos rfl]
 simp only [runM, h1, addN_add, if_neg hk, List.set_set, Int.add_assoc]
theorem tst_succ (n : Nat) : tst ts js (n + 1) = tstep ts js (tst ts js n) n := rfl
theorem tstep_some {s : TSt} {t : Int} {i : Nat} (h : whoS ts js s t = some i) : tstep ts js s t = runM js s t i 1 := by rw [tstep, h]
theorem tstep_none {s : TSt} {t : Int} (h : whoS ts js s t = none) : tstep ts js s t = { s with ru := none } := by rw [tstep, h]
theorem run_on {n : Nat} {i : Nat} {m : Nat} (hi : i < (tst ts js n).dn.length) (hw : who ts js n = some i) (hk : kO (tst ts js n).dn i + m ≤ (jb js i).k)
  (hgo : ∀ u : Nat, 1 ≤ u → u < m → whoS ts js (runM js (tst ts js n) n i u) ((n + u : Nat) : Int) = some i) :
  ∀ u : Nat, 1 ≤ u → u ≤ m → tst ts js (n + u) = runM js (tst ts js n) n i u := by
 intro u
 induction u with
 | zero => intro h; omega
 | succ u ih =>
   intro h1 h2
   by_cases hu : u = 0
   ·subst hu
    exact tstep_some hw
   ·have e := ih (by omega) (by omega)
    rw [← Nat.add_assoc, tst_succ, e, tstep_some (hgo u (by omega) (by omega))]
    rw [show ((n + u : Nat) : Int) = (n : Int) + (u : Int) by omega, runM_add hi (by omega), show ((u + 1 : Nat) : Int) = (u : Int) + 1 by omega]
def Dec (js : List Fv) (s : TSt) : Prop := ∀ i, s.ru = some i → wthS (jb js i).c (kO s.dn i) = false
theorem Dec.who {s : TSt} {t : Int} (h : Dec js s) : whoS ts js s t = pkN ts js s.dn t js.length := by
 unfold whoS
 cases hr : s.ru with
 | none => rfl
 | some i => simp only [h i hr, Bool.false_eq_true, if_false]
theorem run_sec {n i : Nat} {a : Int} {r : List Int} (hl : Lg js) (hw : who ts js n = some i) (hc : wthS (jb js i).c (kO (tst ts js n).dn i) = false) (he : cl (jb js i).c (kO (tst ts js n).dn i) = a :: r) :
  ∀ u : Nat, 1 ≤ u → (u : Int) ≤ a → tst ts js (n + u) = runM js (tst ts js n) n i u := by
 have hI := ti_all (ts := ts) hl n
 obtain ⟨h1, h2, h3⟩ := hI.who_some hl hw
 have hd := hI.d0 i h1
 obtain ⟨c1, c2, c3, c4, c5⟩ := cl_step _ _ _ _ (hl.pos i) hd.1 hc he
 have hf := hl.fit i h1
 intro u hu1 hu2
 have hil : i < (tst ts js n).dn.length := by rw [hI.ld]; exact h1
 refine run_on (m := u) hil hw (by omega) (fun v hv1 hv2 => ?_) u hu1 (Nat.le_refl _)
 unfold whoS
 have e1 : kO ((tst ts js n).dn.set i (kO (tst ts js n).dn i + (v : Int))) i = kO (tst ts js n).dn i + v := by rw [kO_set _ _ hil, if_pos rfl]
 simp only [runM, e1, c3 v (by omega) (by omega), if_true]
theorem run_free {n i m : Nat} (hl : Lg js) (hD : Dec js (tst ts js n)) (hw : who ts js n = some i) (he : cl (jb js i).c (kO (tst ts js n).dn i) = []) (hk : kO (tst ts js n).dn i + m ≤ (jb js i).k)
  (hr : ∀ j, j < js.length → (jb js j).r ≤ n ∨ (n : Int) + m ≤ (jb js j).r) : ∀ u : Nat, 1 ≤ u → u ≤ m → tst ts js (n + u) = runM js (tst ts js n) n i u := by
 have hI := ti_all (ts := ts) hl n
 obtain ⟨h1, h2, h3⟩ := hI.who_some hl hw
 have hil : i < (tst ts js n).dn.length := by rw [hI.ld]; exact h1
 have hd := hI.d0 i h1
 refine run_on hil hw hk (fun v hv1 hv2 => ?_)
 have hp : pkN ts js (tst ts js n).dn n js.length = some i := by rw [← hD.who]; exact hw
 have hB := (pkN_spec _).2 _ hp
 unfold whoS
 have e1 : kO ((tst ts js n).dn.set i (kO (tst ts js n).dn i + (v : Int))) i = kO (tst ts js n).dn i + v := by rw [kO_set _ _ hil, if_pos rfl]
 simp only [runM, e1, (cl_none _ _ he v (by omega)).1, Bool.false_eq_true, if_false]
 refine pkN_best ⟨h1, ?_, fun j hj hjr => ?_⟩
 ·rw [rdy_iff, kO_set _ _ hil, if_pos rfl]; omega
 ·rw [rdy_iff, kO_set _ _ hil] at hjr
  by_cases hji : j = i
  ·subst hji; exact .inr ⟨rfl, Nat.le_refl _⟩
  ·rw [if_neg hji] at hjr
   exact hB.2.2 j hj (rdy_iff.2 ⟨by rcases hr j hj with h | h <;> omega, hjr.2⟩)
theorem run_idle {n m : Nat} (hw : who ts js n = none) (hl : Lg js) (hr : ∀ j, j < js.length → (jb js j).r ≤ n ∨ (n : Int) + m ≤ (jb js j).r) :
  ∀ u : Nat, 1 ≤ u → u ≤ m → tst ts js (n + u) = { tst ts js n with ru := none } := by
 have hI := ti_all (ts := ts) hl n
 have hno := hI.who_none hl hw
 intro u
 induction u with
 | zero => intro h; omega
 | succ u ih =>
   intro h1 h2
   by_cases hu : u = 0
   ·subst hu
    exact tstep_none hw
   ·have e := ih (by omega) (by omega)
    have h3 : whoS ts js { tst ts js n with ru := none } ((n + u : Nat) : Int) = none := by
     unfold whoS
     refine pkN_no fun j hj => ?_
     have := hno j hj
     rw [← Bool.not_eq_true, rdy_iff] at this ⊢
     rcases hr j hj with h | h
     ·intro hh; exact this ⟨h, hh.2⟩
     ·omega
    rw [← Nat.add_assoc, tst_succ, e, tstep_none h3]
theorem run_done {n : Nat} (hl : Lg js) (hd : ∀ i, i < js.length → kO (tst ts js n).dn i = (jb js i).k) : ∀ u : Nat, (tst ts js (n + u)).dn = (tst ts js n).dn ∧ (tst ts js (n + u)).sp = (tst ts js n).sp ∧ (tst ts js (n + u)).en = (tst ts js n).en
 | 0 => ⟨rfl, rfl, rfl⟩
 | u + 1 => by
   obtain ⟨h1, h2, h3⟩ := run_done hl hd u
   have hI := ti_all (ts := ts) hl (n + u)
   have hw : whoS ts js (tst ts js (n + u)) ((n + u : Nat) : Int) = none := by
    cases hw : whoS ts js (tst ts js (n + u)) ((n + u : Nat) : Int) with
    | none => rfl
    | some i =>
      have := hI.who_some hl hw
      have e := hd i this.1
      rw [h1] at this
      omega
   rw [← Nat.add_assoc, tst_succ, tstep_none hw]
   exact ⟨h1, h2, h3⟩
def quS (js : List Fv) (dn : List Int) (l : List Nat) (τ : Nat) : List Nat := l.filter fun p => decide ((jb js p).t = (τ : Int)) && decide (kO dn p < (jb js p).k)
theorem quS_mem {dn : List Int} {l : List Nat} {τ p : Nat} : p ∈ quS js dn l τ ↔ p ∈ l ∧ (jb js p).t = (τ : Int) ∧ kO dn p < (jb js p).k := by simp [quS]
theorem quS_app {dn : List Int} {l : List Nat} {τ p : Nat} : quS js dn (l ++ [p]) τ = quS js dn l τ ++ (if (jb js p).t = (τ : Int) ∧ kO dn p < (jb js p).k then [p] else []) := by
 unfold quS
 rw [List.filter_append]
 congr 1
 by_cases h : (jb js p).t = (τ : Int) ∧ kO dn p < (jb js p).k
 ·rw [if_pos h, List.filter_cons_of_pos (by simp [h])]; rfl
 ·rw [if_neg h, List.filter_cons_of_neg (by simp only [Bool.and_eq_true, decide_eq_true_eq]; exact h)]; rfl
structure Seq (js : List Fv) : Prop where
 seq : ∀ i j, i < j → j < js.length → (jb js i).t = (jb js j).t → (jb js i).r < (jb js j).r
structure Hd (ts : List Ts) (js : List Fv) (dn : List Int) (l : List Nat) (L : List Int) : Prop where
 srt : L.Pairwise (fun a b => (tk ts a).p < (tk ts b).p)
 mem : ∀ τ : Nat, (τ : Int) ∈ L ↔ quS js dn l τ ≠ []
 nat : ∀ x ∈ L, ∃ τ : Nat, x = (τ : Int) ∧ τ < ts.length
structure Rel (js : List Fv) (o : List Nat) (m : Nat) (n : Int) : Prop where
 le : m ≤ o.length
 lo : ∀ p ∈ o.take m, (jb js p).r ≤ n
 hi : ∀ p ∈ o.drop m, n < (jb js p).r
theorem kO_rls {p : Nat} (h : p < js.length) : kO (js.map (·.r)) p = (jb js p).r := by
 simp [kO, jb, h]
theorem ord_seq {o : List Nat} {m : Nat} {dn : List Int} {τ p q : Nat} {r : List Nat} (hO : IsOrd (js.map (·.r)) o) (hS : Seq js) (hq : quS js dn (o.take m) τ = p :: r) (h : q ∈ quS js dn (o.take m) τ) : p ≤ q := by
 rcases Nat.lt_or_ge q p with hlt | hge
 ·exfalso
  have hp : p ∈ quS js dn (o.take m) τ := by rw [hq]; simp
  obtain ⟨a1, a2, a3⟩ := quS_mem.1 hp
  obtain ⟨b1, b2, b3⟩ := quS_mem.1 h
  have hpl : p < js.length := by have := hO.mem.1 (List.mem_of_mem_take a1); simpa using this
  have h1 := hS.seq q p hlt hpl (by rw [a2, b2])
  have hs : (quS js dn (o.take m) τ).Pairwise (Ahead (js.map (·.r))) := (hO.srt.sublist (List.take_sublist _ _)).sublist List.filter_sublist
  rw [hq] at hs h
  rcases List.mem_cons.1 h with rfl | h
  ·omega
  ·have := (List.pairwise_cons.1 hs).1 q h
   unfold Ahead at this
   rw [kO_rls hpl, kO_rls (by omega)] at this
   omega
 ·exact hge
theorem pick_some {o : List Nat} {m p : Nat} {dn : List Int} {n x : Int} {L r : List Int} {rest : List Nat} (hlen : ∀ i, i < js.length → 0 ≤ (jb js i).t) (hO : IsOrd (js.map (·.r)) o) (hS : Seq js)
  (hR : Rel js o m n) (hH : Hd ts js dn (o.take m) (x :: r)) (hD : Dist ts) (ht : ∀ i, i < js.length → (jb js i).t < ts.length) {τ : Nat} (hx : x = (τ : Int)) (hq : quS js dn (o.take m) τ = p :: rest) : pkN ts js dn n js.length = some p := by
 subst hx
 have hp : p ∈ quS js dn (o.take m) τ := by rw [hq]; simp
 obtain ⟨a1, a2, a3⟩ := quS_mem.1 hp
 have hpl : p < js.length := by have := hO.mem.1 (List.mem_of_mem_take a1); simpa using this
 refine pkN_best ⟨hpl, rdy_iff.2 ⟨hR.lo p a1, a3⟩, fun i hi hir => ?_⟩
 rw [rdy_iff] at hir
 have hio : i ∈ o.take m := by
  have h1 : i ∈ o := hO.mem.2 (by simpa using hi)
  rw [← List.take_append_drop m o] at h1
  rcases List.mem_append.1 h1 with h | h
  ·exact h
  ·have := hR.hi i h; omega
 obtain ⟨σ, hσ⟩ : ∃ σ : Nat, (jb js i).t = (σ : Int) := ⟨(jb js i).t.toNat, by have := hlen i hi; omega⟩
 have hiq : i ∈ quS js dn (o.take m) σ := quS_mem.2 ⟨hio, hσ, hir.2⟩
 have hσL : (σ : Int) ∈ (τ : Int) :: r := (hH.mem σ).2 (fun e => by rw [e] at hiq; cases hiq)
 unfold prO
 rw [hσ, a2]
 rcases List.mem_cons.1 hσL with h | h
 ·obtain rfl : σ = τ := by omega
  exact .inr ⟨rfl, ord_seq hO hS hq hiq⟩
 ·exact .inl ((List.pairwise_cons.1 hH.srt).1 _ h)
theorem pick_none {o : List Nat} {m : Nat} {dn : List Int} {n : Int} (hlen : ∀ i, i < js.length → 0 ≤ (jb js i).t) (hO : IsOrd (js.map (·.r)) o)
  (hR : Rel js o m n) (hH : Hd ts js dn (o.take m) []) : pkN ts js dn n js.length = none := by
 refine pkN_no fun i hi => ?_
 rw [← Bool.not_eq_true, rdy_iff]
 intro hir
 have hio : i ∈ o.take m := by
  have h1 : i ∈ o := hO.mem.2 (by simpa using hi)
  rw [← List.take_append_drop m o] at h1
  rcases List.mem_append.1 h1 with h | h
  ·exact h
  ·have := hR.hi i h; omega
 obtain ⟨σ, hσ⟩ : ∃ σ : Nat, (jb js i).t = (σ : Int) := ⟨(jb js i).t.toNat, by have := hlen i hi; omega⟩
 have hiq : i ∈ quS js dn (o.take m) σ := quS_mem.2 ⟨hio, hσ, hir.2⟩
 have := (hH.mem σ).2 (fun e => by rw [e] at hiq; cases hiq)
 cases this
end
end
section
open Go.RowKit
theorem within_any (n lo hi : Int) (w : World) : Calls Tryz.prog 65 #[.int .i64 n, .int .i64 lo, .int .i64 hi] w fun e w' => e = .returned (.bool (inB n lo hi)) ∧ w = w' := by
 unfold inB
 go_enter Tryz.func65, Tryz.ntmps65
 by_cases h1 : lo ≤ n <;> by_cases h2 : n ≤ hi <;> (go_wp2; go_ret; simp [*])
theorem mayBe_any (A : Option Addr) (cap : Nat) (l : List Ts) (w : World) (hR : Row w A cap l) :
  Calls Tryz.prog 63 #[.slice A l.length cap] w fun e w' => e = .returned (.bool (decide ((chkAll l).2 = 0))) ∧ Below w.heap.size w w' := by
 have K := fun w hR => checkAll_any A cap l w hR
 have ROW := Lib.hid hR
 generalize (chkAll l).1 = a at *
 generalize (chkAll l).2 = c at *
 have K := Lib.hid K
 clear hR
 by_cases h : c = 0
 ·subst h
  go_enter Tryz.func63, Tryz.ntmps63
  go_wp2_with (go_at_call 42; (with_reducible refine (K.out _ ROW.out).mono ?_); rintro e1 w1 ⟨rfl, h1⟩)
  go_ret
  exact ⟨rfl, h1⟩
 ·have h' : (c == 0) = false := by simpa using h
  rw [decide_eq_false h]
  clear h
  go_enter Tryz.func63, Tryz.ntmps63
  go_wp2_with (go_at_call 42; (with_reducible refine (K.out _ ROW.out).mono ?_); rintro e1 w1 ⟨rfl, h1⟩)
  go_ret
  exact ⟨rfl, h1⟩
def miP (ps : List (Int × Int)) : List (Value × Value) := ps.map fun p => (.int .i64 p.1, .int .i64 p.2)
def MI (w : World) (r : Nat) (f : Int → Option Int) : Prop := ∃ (es : Array MapEntry) (c : Nat) (ps : List (Int × Int)), w.heap[r]? = some (.map es c) ∧ es.toList.map (fun e => (e.key, e.val)) = miP ps ∧ ∀ t, ps.lookup t = f t
theorem MI.is {w : World} {r : Nat} {f : Int → Option Int} (h : MI w r f) : ∃ es c, w.heap[r]? = some (.map es c) := by
 obtain ⟨es, c, _, h1, _⟩ := h
 exact ⟨es, c, h1⟩
theorem MI.lt {w : World} {r : Nat} {f : Int → Option Int} (h : MI w r f) : r < w.heap.size := by
 obtain ⟨es, c, _, h1, _⟩ := h
 exact (Array.getElem?_eq_some_iff.1 h1).1
theorem MI.later {w w' : World} {r : Nat} {f : Int → Option Int} (h : MI w r f) (hb : Below w.heap.size w w') : MI w' r f := by
 obtain ⟨es, c, ps, h1, h2⟩ := h
 exact ⟨es, c, ps, (hb.block r ((Array.getElem?_eq_some_iff.1 h1).1)).trans h1, h2⟩
theorem MI.new (w : World) : MI (w.alloc (.map #[] 0)) w.heap.size fun _ => none := ⟨#[], 0, [], heap_alloc_new w _, rfl, fun _ => rfl⟩
theorem find_mi (s : Int) (kk : IntKind) : ∀ (es : List MapEntry) (ps : List (Int × Int)) (i : Nat), es.map (fun e => (e.key, e.val)) = miP ps →
  (∃ j v, ps.lookup s = some v ∧ j < es.length ∧ (es[j]?.map (·.key)) = some (.int .i64 s) ∧ Instr.findNow (.int kk) (.int .i64 s) es i = some (some (i + j, .int .i64 v)) ∧ ∀ x t, (ps.modify j fun p => (p.1, x)).lookup t = if t = s then some x else ps.lookup t) ∨
  (ps.lookup s = none ∧ Instr.findNow (.int kk) (.int .i64 s) es i = some none)
 | [], ps, i, h => by
   cases ps with
   | nil => exact .inr ⟨rfl, rfl⟩
   | cons a r => simp [miP] at h
 | e :: es, ps, i, h => by
   cases ps with
   | nil => simp [miP] at h
   | cons a r =>
     simp only [miP, List.map_cons, List.cons.injEq, Prod.mk.injEq] at h
     obtain ⟨⟨h1, h3⟩, h2⟩ := h
     have ih := find_mi s kk es r (i + 1) h2
     unfold Instr.findNow
     rw [h1]
     simp only [Instr.sameNow, if_true]
     obtain ⟨ak, av⟩ := a
     by_cases hs : s = ak
     ·subst hs
      simp only [beq_self_eq_true]
      refine .inl ⟨0, av, by simp [List.lookup], by simp, by simp [h1], by simp [h3], fun x t => ?_⟩
      by_cases ht : t = s
      ·subst ht; simp [List.lookup]
      ·have : (t == s) = false := by simpa using ht
       simp [List.lookup, this, ht]
     ·have hb : (s == ak) = false := by simpa using hs
      simp only [hb]
      rcases ih with ⟨j, v, i1, i2, i3, i4, i5⟩ | ⟨i1, i2⟩
      ·refine .inl ⟨j + 1, v, by simp [List.lookup, hb, i1], by simp; exact i2, by simpa using i3, by rw [i4]; simp; omega, fun x t => ?_⟩
       rw [List.modify_succ_cons]
       by_cases ht : t = ak
       ·subst ht
        have : ¬ t = s := fun e => hs e.symm
        simp [List.lookup, this]
       ·have hb2 : (t == ak) = false := by simpa using ht
        simp only [List.lookup, hb2]
        exact i5 x t
      ·exact .inr ⟨by simp [List.lookup, hb, i1], i2⟩
theorem zero64 (w : World) : (zeroValue 2).run Tryz.prog w = .ok (.int .i64 0) w := by kernel_rfl
theorem look_mi {w : World} {r : Nat} {f : Int → Option Int} (h : MI w r f) (p : Int) :
  (Instr.lookup 86 (.map (some r)) (.int .i64 p) true).run Tryz.prog w = .ok (.tuple #[.int .i64 ((f p).getD 0), .bool (f p).isSome]) w := by
 obtain ⟨es, c, ps, h1, h2, h3⟩ := h
 have hg := getObj_map h1
 have hz := zero64 w
 have hf := fun k => find_mi p k es.toList ps 0 h2
 rcases hf .i64 with ⟨j, v, i1, i2, i3, i4, i5⟩ | ⟨i1, i2⟩
 ·rw [← h3 p, i1]
  simp [Instr.lookup, hg, checkKey_int, Instr.findKey, i4]
 ·rw [← h3 p, i1]
  simp [Instr.lookup, hg, checkKey_int, Instr.findKey, i2]
def updF (f : Int → Option Int) (p v : Int) : Int → Option Int := fun t => if t = p then some v else f t
theorem put_mi {w : World} {r : Nat} {f : Int → Option Int} (h : MI w r f) (p v : Int) :
  ∃ o, (Instr.mapUpdate 86 (.map (some r)) (.int .i64 p) (.int .i64 v)).run Tryz.prog w = .ok () (w.putObj r o) ∧ MI (w.putObj r o) r (updF f p v) := by
 have hlt := h.lt
 obtain ⟨es, c, ps, h1, h2, h3⟩ := h
 have hg := getObj_map h1
 have hs := setObj_map h1
 rcases find_mi p .i64 es.toList ps 0 h2 with ⟨j, v0, i1, i2, i3, i4, i5⟩ | ⟨i1, i2⟩
 ·rw [Nat.zero_add] at i4
  obtain ⟨e0, he0, hk0⟩ := Option.map_eq_some_iff.1 i3
  have he1 : es[j]? = some e0 := by rw [← Array.getElem?_toList]; exact he0
  refine ⟨.map (es.modify j fun e => { e with key := .int .i64 p, val := .int .i64 v }) c, ?_, _, _, ps.modify j (fun q => (q.1, v)), World.putObj_heap_same hlt, ?_, fun t => ?_⟩
  ·simp [Instr.mapUpdate, hg, checkKey_int, Instr.findKey, i4, hs, he1, hk0, Instr.keyThatStays, Instr.sameBits]
  ·apply List.ext_getElem?
   intro i
   have hi := congrArg (fun l => l[i]?) h2
   simp only [miP, List.getElem?_map] at hi
   simp only [miP, List.getElem?_map, Array.toList_modify, List.getElem?_modify]
   by_cases hij : j = i
   ·subst hij
    rw [he0] at hi ⊢
    cases hp : ps[j]? with
    | none => rw [hp] at hi; simp at hi
    | some q =>
      rw [hp] at hi
      simp at hi
      obtain ⟨hi1, hi2⟩ := hi
      rw [hk0] at hi1
      simpa using hi1
   ·simp only [hij, if_false]
    simpa using hi
  ·rw [i5 v t, updF, h3 t]
 ·refine ⟨.map (es.push { key := .int .i64 p, val := .int .i64 v, born := c }) (c + 1), ?_, _, _, ps ++ [(p, v)], World.putObj_heap_same hlt, ?_, fun t => ?_⟩
  ·simp [Instr.mapUpdate, hg, checkKey_int, Instr.findKey, i2, hs]
  ·simp [miP] at h2 ⊢
   exact h2
  ·have hla : ∀ (l : List (Int × Int)), l.lookup p = none → (l ++ [(p, v)]).lookup t = if t = p then some v else l.lookup t := by
    intro l
    induction l with
    | nil => intro _; by_cases ht : t = p <;> simp [List.lookup, ht]
    | cons a l ih =>
      obtain ⟨ak, av⟩ := a
      intro hn
      by_cases hpa : p = ak
      ·subst hpa; simp [List.lookup] at hn
      ·have hb : (p == ak) = false := by simpa using hpa
       simp only [List.lookup, hb] at hn
       by_cases hta : t = ak
       ·subst hta
        have : ¬ t = p := fun e => hpa e.symm
        simp [List.lookup, this]
       ·have hb2 : (t == ak) = false := by simpa using hta
        simp only [List.cons_append, List.lookup, hb2]
        exact ih hn
   rw [hla ps i1, updF, h3 t]
end
section
open Go.RowKit
def soonV (f : Int → Option Int) (ts : List Ts) (p : Int) : Int := match f p with | none => 0 | some a => a + (tk ts p).t
theorem soonest_any (A : Option Addr) (cap : Nat) (ts : List Ts) (r : Nat) (f : Int → Option Int) (p : Int) (w : World) (hR : Row w A cap ts) (hm : MI w r f)
  (hf : ∀ a, f p = some a → 0 ≤ p ∧ p < ts.length ∧ 0 ≤ a ∧ a ≤ 35184372088832) (ht : TsOk (tk ts p)) :
  Calls Tryz.prog 39 #[.agg #[.slice A ts.length cap, .map (some r)], .int .i64 p] w fun e w' => e = .returned (.int .i64 (soonV f ts p)) ∧ Below w.heap.size w w' := by
 have b0 : Below w.heap.size w (w.alloc (.cells #[.slice A ts.length cap, .map (some r)] 88)) := (Below.refl _ _).alloc (Nat.le_refl _) _
 have hlk := look_mi (hm.later b0) p
 have B0 := Lib.hid b0
 cases hfp : f p with
 | none =>
   rw [hfp] at hlk
   have e : soonV f ts p = 0 := by rw [soonV, hfp]
   rw [e]
   simp only [Option.getD_none, Option.isSome_none] at hlk
   clear e hf hfp ht
   go_enter Tryz.func39, Tryz.ntmps39
   go_wp2
   go_ret
   exact ⟨rfl, B0.out⟩
 | some a =>
   rw [hfp] at hlk
   have e : soonV f ts p = a + (tk ts p).t := by rw [soonV, hfp]
   rw [e]
   simp only [Option.getD_some, Option.isSome_some] at hlk
   obtain ⟨p0, p1, a0, a1⟩ := hf a hfp
   obtain ⟨k, rfl⟩ : ∃ k : Nat, p = (k : Int) := ⟨p.toNat, by omega⟩
   obtain ⟨b, o, x, rfl, hx, hw, hbl, hT⟩ := hR.get (k := k) (by omega)
   rw [tk_get hx] at ht ⊢
   have c2 := (hT.later b0).c2
   have t0 := ht.t0
   have t1 := ht.t1
   clear e hf hfp ht hx hw hT hR hm b0
   go_enter Tryz.func39, Tryz.ntmps39
   go_wp2
   go_ret
   exact ⟨rfl, B0.out⟩
theorem note_any (A C : Option Addr) (n cap cc : Nat) (r : Nat) (f : Int → Option Int) (x : Fv) (w : World) (hm : MI w r f) :
  Calls Tryz.prog 41 #[.agg #[.slice A n cap, .map (some r)], fvV x C cc] w fun e w' => e = .returned (.tuple #[]) ∧ MI w' r (updF f x.t x.a) ∧ Kept [r] w w' := by
 have b1 : Below w.heap.size w (w.alloc (.cells #[.slice A n cap, .map (some r)] 88)) := (Below.refl _ _).alloc (Nat.le_refl _) _
 have b2 := b1.alloc (by simp) (.cells #[.int .i64 x.t, .int .i64 x.a, .int .i64 x.r, .int .i64 x.k, .slice C x.c.length cc] 74)
 obtain ⟨o, hp, hm'⟩ := put_mi (hm.later b2) x.t x.a
 have HK := Lib.hid ((Kept.of [r] b2).put r o (by simp))
 have HM := Lib.hid hm'
 clear b1 b2 hm' hm
 go_enter Tryz.func41, Tryz.ntmps41
 go_wp2
 go_end0
 exact ⟨rfl, HM.out, HK.out⟩
end
section
open Go.RowKit
def lastF (js : List Fv) : Int → Option Int := fun t => (lastT js t).map (·.a)
theorem lastF_nil : lastF [] = fun _ => none := by funext t; rfl
theorem lastF_snoc (js : List Fv) (j : Fv) : lastF (js ++ [j]) = updF (lastF js) j.t j.a := by
 funext t
 simp only [lastF, updF, lastT_snoc]
 by_cases h : t = j.t
 ·rw [if_pos h.symm, if_pos h]; rfl
 ·rw [if_neg (fun e => h e.symm), if_neg h]
theorem soonV_last (ts : List Ts) (js : List Fv) (p : Int) : soonV (lastF js) ts p = soonI ts js p := by
 unfold soonV soonI lastF
 cases lastT js p <;> rfl
structure Arr (A : Option Addr) (n cap M : Nat) (wr : World) (js : List Fv) : Prop where
 map : MI wr M (lastF js)
 is : wr.heap[M + 1]? = some (.cells #[.slice A n cap, .map (some M)] 88 (0, 0))
theorem Arr.c0 {A : Option Addr} {n cap M : Nat} {w : World} {js : List Fv} (h : Arr A n cap M w js) : w.cell? ⟨M + 1, 0, none⟩ = some (.slice A n cap) := by rw [cell_of_row w (M + 1) 0 _ _ _ h.is]; rfl
theorem Arr.c1 {A : Option Addr} {n cap M : Nat} {w : World} {js : List Fv} (h : Arr A n cap M w js) : w.cell? ⟨M + 1, 1, none⟩ = some (.map (some M)) := by rw [cell_of_row w (M + 1) 1 _ _ _ h.is]; rfl
theorem Arr.lt {A : Option Addr} {n cap M : Nat} {w : World} {js : List Fv} (h : Arr A n cap M w js) : M + 1 < w.heap.size := (Array.getElem?_eq_some_iff.1 h.is).1
theorem Arr.later {A : Option Addr} {n cap M : Nat} {w w' : World} {js : List Fv} (h : Arr A n cap M w js) (hb : Below w.heap.size w w') : Arr A n cap M w' js :=
 ⟨h.map.later hb, (hb.block _ h.lt).trans h.is⟩
theorem Arr.note {A : Option Addr} {n cap M : Nat} {w w' : World} {js : List Fv} {j : Fv} (h : Arr A n cap M w js) (hm : MI w' M (updF (lastF js) j.t j.a)) (hk : Kept [M] w w') : Arr A n cap M w' (js ++ [j]) := by
 have hx : M + 1 ∉ [M] := by simp
 exact ⟨by rw [lastF_snoc]; exact hm, (hk.block _ h.lt hx).trans h.is⟩
theorem Arr.new (A : Option Addr) (n cap : Nat) (w : World) : Arr A n cap w.heap.size ((w.alloc (.map #[] 0)).alloc (.cells #[.slice A n cap, .map (some w.heap.size)] 88)) [] := by
 have hb : Below (w.alloc (.map #[] 0)).heap.size (w.alloc (.map #[] 0)) ((w.alloc (.map #[] 0)).alloc (.cells #[.slice A n cap, .map (some w.heap.size)] 88)) := (Below.refl _ _).alloc (Nat.le_refl _) _
 exact ⟨by rw [lastF_nil]; exact (MI.new w).later hb, by have := heap_alloc_new (w.alloc (.map #[] 0)) (.cells #[.slice A n cap, .map (some w.heap.size)] 88); rwa [World.size_alloc] at this⟩
theorem Arr.soon {A : Option Addr} {cap M : Nat} {wr : World} {ts : List Ts} {js : List Fv} (h : Arr A ts.length cap M wr js) (hT : Row wr A cap ts) (hv : Vs ts) (p : Int)
  (hj : ∀ j ∈ js, 0 ≤ j.t ∧ j.t < ts.length ∧ 0 ≤ j.a ∧ j.a ≤ 35184372088832) :
  Calls Tryz.prog 39 #[.agg #[.slice A ts.length cap, .map (some M)], .int .i64 p] wr fun e w' => e = .returned (.int .i64 (soonI ts js p)) ∧ Below wr.heap.size wr w' := by
 rw [← soonV_last]
 refine soonest_any A cap ts M (lastF js) p wr hT h.map (fun a ha => ?_) (hv.tk p)
 obtain ⟨j, hl, rfl⟩ := Option.map_eq_some_iff.1 ha
 obtain ⟨hm, rfl⟩ := lastT_mem hl
 exact hj j hm
theorem take_one {α : Type} {l : List α} {k : Nat} {x : α} (h : l[k]? = some x) : l.take (k + 1) = l.take k ++ [x] := by
 rw [List.take_add_one, h]; rfl
end
section
open Go.RowKit
theorem fitB_cons (q left c : Int) (r : List Int) : fitB q left (c :: r) = (inB c 1 (min q left) && fitB q (left - c) r) := rfl
theorem cutsFit_any (A : Option Addr) (cap : Nat) (l : List Int) (q k : Int) (w : World) (hR : CRow w A cap l) (q1 : q ≤ 2147483647) (k0 : 0 ≤ k) (k1 : k ≤ 2147483647) :
  Calls Tryz.prog 70 #[.slice A l.length cap, .int .i64 q, .int .i64 k] w fun e w' => e = .returned (.bool (fitB q k l)) ∧ w' = w := by
 have hle := hR.le
 have hmx := hR.mx
 have ROW := Lib.hid hR
 clear hR
 go_enter Tryz.func70, Tryz.ntmps70
 go_wp2
 go_loopw [7, 13] (fun lf i wr => ∃ (m : Nat) (left : Int), m ≤ l.length ∧ i = .int .i64 m ∧ lf = .int .i64 left ∧ 0 ≤ left ∧ left ≤ k ∧ wr = w ∧ Hid (fitB q k l = fitB q left (l.drop m))) (fun _ i _ => l.length - (intOf i).toNat)
 case atStart => exact ⟨0, k, Nat.zero_le _, rfl, rfl, k0, by omega, rfl, Lib.hid rfl⟩
 case round =>
  obtain ⟨m, left, hm, rfl, rfl, l0, l1, rfl, hq⟩ := hrel
  by_cases hlt : m < l.length
  ·obtain ⟨b, o, c, rfl, hc, hcw, hbl, hcell⟩ := ROW.out.get hlt
   have hd : l.drop m = c :: l.drop (m + 1) := by
    obtain ⟨hlt', he⟩ := List.getElem?_eq_some_iff.1 hc
    rw [← he]
    exact (List.drop_eq_getElem_cons hlt')
   have HQ : Hid (fitB q k l = (inB c 1 (min q left) && fitB q (left - c) (l.drop (m + 1)))) := Lib.hid (by rw [hq.out, hd, fitB_cons])
   have m0 : (0 : Int) ≤ (m : Int) := by omega
   have m1 : (m : Int) < (l.length : Int) := by omega
   have K : Hid (∀ (W : World) (n' : Int), n' = min q left → Calls Tryz.prog 65 #[.int .i64 c, .int .i64 1, .int .i64 n'] W fun e w' => e = .returned (.bool (inB c 1 (min q left))) ∧ W = w') := Lib.hid (fun W n' hn => by subst hn; exact within_any c 1 (min q left) W)
   have hin := @inB_iff c 1 (min q left)
   cases hb : inB c 1 (min q left)
   ·rw [hb] at K HQ
    clear hd hc hq hin hb
    go_wp2_with (go_at_call 65; (with_reducible refine (K.out _ _ (by omega)).mono ?_); rintro e w1 ⟨rfl, rfl⟩)
    all_goals
     go_ret
     exact ⟨by rw [HQ.out]; rfl, rfl⟩
   ·have hcb := hin.1 hb
    rw [hb, Bool.true_and] at HQ
    rw [hb] at K
    clear hd hc hq hin hb
    go_wp2_with (go_at_call 65; (with_reducible refine (K.out _ _ (by omega)).mono ?_); rintro e w1 ⟨rfl, rfl⟩)
    all_goals
     go_roundw
     case rel => exact ⟨m + 1, left - c, by omega, by go_num, rfl, by omega, by omega, trivial, HQ⟩
     case measure => simp [intOf]; omega
  ·obtain rfl : m = l.length := by omega
   go_wp2
   go_ret
   exact ⟨by rw [hq.out, List.drop_length]; rfl, rfl⟩
end
end Go.Proofs.YthfkbbiaemmndaaGreatDoor
