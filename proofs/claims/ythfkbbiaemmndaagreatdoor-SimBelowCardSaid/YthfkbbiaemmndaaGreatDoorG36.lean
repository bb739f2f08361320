/- Texts about the program, one after the other: JBase, JPure, JOps, JSoon, JDec, JArr, JRead, FewT, ELaw. -/
import Derived.Laws.OwnMore
import Derived.WalkKit
import Derived.ProofKit
import Derived.Handy
import Derived.Lib.Hide
import Derived.Deep.MidRow
import Derived.Deep.QuietTactic
import Derived.BigQuiet
import Derived.Deep.RegionHeld3
import Derived.Laws.Externs
import Derived.RangeFuncBox
import Derived.Deep.CutBlock
import Derived.Deep.LoopGhost
import Derived.WalkMore
import Derived.Laws.BytesString
import Derived.Laws.AppendOwn
import Derived.RangeFuncRecord
import Derived.MapKept
import Derived.RangeFuncNested
import Derived.RangeFuncBound
import Derived.RangeFuncCalls
import Derived.RangeFuncLeaves
import Derived.RangeFuncWrites
import Derived.Shelf.Abstract
import Derived.OwnWalkIn
import Derived.TacticsInMore
import Derived.LoopNIn
import Derived.LoopIn
import Derived.Deep.Quiet
import Derived.Shelf.Small.Bits
import Derived.Shelf.Small.Strs
import Derived.Shelf.Small.Wraps
import Derived.Shelf.Strconv.Itoa0
import Derived.Shelf.LaysM
import Derived.Shelf.Strconv.Clone
import Derived.Shelf.Strings.Search1
import Derived.Shelf.Bits.Mul64
import Derived.Ground.Names2Prog
import Derived.Shelf.Slices.SearchI
import Derived.Below
import Derived.ChangeOld
import Derived.OpenShut
import Derived.LaidMore
import Derived.Maps.AppendAt
import Derived.Test.YthfkbbiaemmndaaGreatDoorRows
import Derived.Test.YthfkbbiaemmndaaGreatDoorProg
import Derived.Sort.LoopGhostIn
import Derived.Deep.RegionHeldLaw
import Derived.Laws.CopyOwn
import Derived.IntWalk
import Derived.OwnWalk
import Derived.Deep.RegionLaw
import Derived.BigRegion
import Derived.Deep.DrawnRows
import Derived.StillTailTactics
import Derived.Lib.SliceRun
import Derived.Deep.AppendSrc
import Derived.Deep.Upon
import Derived.Deep.DeepAppendWide
import Derived.OrdersIn
import Derived.Test.YthfkbbiaemmndaaGreatDoorG4
import Derived.Test.YthfkbbiaemmndaaGreatDoorG5
import Derived.Test.YthfkbbiaemmndaaGreatDoorG6
import Derived.Test.YthfkbbiaemmndaaGreatDoorG7
import Derived.Test.YthfkbbiaemmndaaGreatDoorG9
import Derived.Test.YthfkbbiaemmndaaGreatDoorG29
set_option linter.unusedVariables false
set_option linter.unusedSimpArgs false
set_option maxRecDepth 100000
set_option maxHeartbeats 16000000
namespace Go.Proofs.YthfkbbiaemmndaaGreatDoor
section
open Go.RowKit
theorem cells_kept {X : List Nat} {w w' : World} (h : Kept X w w') (hX : ∀ k ∈ X, ∀ o, w.cell? ⟨k, o, none⟩ = none) : Cells w w' := fun b o v hv => by
 rw [h.cell (World.block_lt_of_cell? w _ hv) (fun hm => by rw [hX b hm o] at hv; cases hv)]
 exact hv
theorem cell_of_map {w : World} {r : Nat} {es : Array MapEntry} {c : Nat} (h : w.heap[r]? = some (.map es c)) (o : Nat) : w.cell? ⟨r, o, none⟩ = none := by simp [World.cell?, h]
theorem CRow.take {w : World} {A : Option Addr} {cap : Nat} {l : List Int} (h : CRow w A cap l) (n : Nat) : CRow w A cap (l.take n) :=
 ⟨by have := h.le; rw [List.length_take]; omega, h.mx, fun x hx => h.wf x (List.mem_of_mem_take hx), fun i x hx => by
  rw [List.getElem?_take] at hx
  split at hx
  ·exact h.at_ i x hx
  ·cases hx⟩
theorem infoR : (Tryz.prog.info? 71).map (·.size) = some 5 := by kernel_rfl
theorem infoRs : (Tryz.prog.info? 71).map (fun i => (i.zero, i.size, i.bytes)) = some (some (.agg #[.int .i64 0, .int .i64 0, .int .i64 0, .int .i64 0, .slice none 0 0]), 5, 56) := by kernel_rfl
theorem info64 : (Tryz.prog.info? 2).map (fun i => (i.zero, i.size, i.bytes)) = some (some (.int .i64 0), 1, 8) := by kernel_rfl
theorem FRow.nil {w : World} (A : Option Addr) (cap : Nat) (h : cap ≤ 9223372036854775807) : FRow w A cap [] := ⟨by simp, h, by simp⟩
theorem FOwn.map {e : TypeId} {B : Nat} {w w' : World} {v : Value} {gs : List Gv} {r : Nat} {es : Array MapEntry} {c : Nat} (h : FOwn e B w v gs) (hk : Kept [r] w w') (hm : w.heap[r]? = some (.map es c)) (hr : B ≤ r) : FOwn e B w' v gs :=
 ⟨hk.row h.row (fun g hg => by
   rcases h.row.2 with ⟨rfl, _⟩ | ⟨g', cap, cur, rfl, _, hh, _⟩
   ·simp [Value.ownBlock] at hg
   ·simp only [Value.ownBlock, Option.some.injEq] at hg
    subst hg
    intro hx
    rw [List.mem_singleton] at hx
    subst hx
    rw [hm] at hh
    cases hh),
  fun g hg => (h.each g hg).kept fun b hl hs => hk.block b hl (fun hx => by
   rw [List.mem_singleton] at hx
   subst hx
   rcases hs with hs | ⟨cs, T, fr, hs, _⟩
   ·omega
   ·rw [hm] at hs; cases hs)⟩
end
section
open Go.RowKit
theorem tmod_bd (x n : Int) (hn : 0 < n) : -n < x.tmod n ∧ x.tmod n < n := by
 rcases Int.le_total 0 x with h | h
 ·rw [Int.tmod_eq_emod_of_nonneg h]
  have := Int.emod_nonneg x (show n ≠ 0 by omega)
  have := Int.emod_lt_of_pos x hn
  omega
 ·obtain ⟨m, rfl⟩ : ∃ m, x = -m := ⟨-x, by omega⟩
  rw [Int.neg_tmod, Int.tmod_eq_emod_of_nonneg (by omega)]
  have := Int.emod_nonneg m (show n ≠ 0 by omega)
  have := Int.emod_lt_of_pos m hn
  omega
theorem emod_tmod (x n : Int) (hn : 0 < n) : x % n = if x.tmod n < 0 then x.tmod n + n else x.tmod n := by
 have hb := tmod_bd x n hn
 have h2 : x.tmod n % n = x % n := by
  rcases Int.le_total 0 x with h | h
  ·rw [Int.tmod_eq_emod_of_nonneg h, Int.emod_emod]
  ·obtain ⟨m, rfl⟩ : ∃ m, x = -m := ⟨-x, by omega⟩
   rw [Int.neg_tmod, Int.tmod_eq_emod_of_nonneg (by omega)]
   conv => rhs; rw [← Int.mul_ediv_add_emod m n, Int.neg_add, ← Int.mul_neg, Int.mul_add_emod_self_left]
 rw [← h2]
 split
 ·rw [← Int.add_emod_right, Int.emod_eq_of_lt (by omega) (by omega)]
 ·exact Int.emod_eq_of_lt (by omega) (by omega)
theorem twice_tmod (x n : Int) (hn : 0 < n) : (x.tmod n + n).tmod n = x % n := by
 have hb := tmod_bd x n hn
 rw [Int.tmod_eq_emod_of_nonneg (by omega), Int.add_emod_right]
 rw [emod_tmod x n hn]
 split
 ·rw [← Int.add_emod_right, Int.emod_eq_of_lt (by omega) (by omega)]
 ·exact Int.emod_eq_of_lt (by omega) (by omega)
theorem emod_bd (x n : Int) (hn : 0 < n) : 0 ≤ x % n ∧ x % n < n := ⟨Int.emod_nonneg x (by omega), Int.emod_lt_of_pos x hn⟩
def secs (q : Int) : Int → List Int → List Int
 | _, [] => []
 | left, c :: r => if left = 0 then [] else (1 + c % min q left) :: secs q (left - (1 + c % min q left)) r
theorem min_bd (q left : Int) (hq : 1 ≤ q) (hl : 1 ≤ left) : 1 ≤ min q left ∧ min q left ≤ q ∧ min q left ≤ left := by omega
def decJ (ts : List Ts) (js : List Fv) (r : Fv) : Fv :=
 let p := r.t % (ts.length : Int)
 let x := tk ts p
 let a := soonI ts js p + r.a % 1048576
 let k := 1 + r.k % x.c
 ⟨p, a, a + r.r % (x.j + 1), k, secs x.q k r.c⟩
def decF (ts : List Ts) (js : List Fv) : List Fv → List Fv
 | [] => js
 | r :: rs => decF ts (js ++ [decJ ts js r]) rs
def decS (ts : List Ts) (rs : List Fv) : List Fv := decF ts [] (rs.take 4096)
theorem decF_len (ts : List Ts) : ∀ (rs js : List Fv), (decF ts js rs).length = js.length + rs.length
 | [], js => by simp [decF]
 | r :: rs, js => by rw [decF, decF_len ts rs]; simp; omega
theorem decF_snoc (ts : List Ts) : ∀ (rs js : List Fv) (r : Fv), decF ts js (rs ++ [r]) = decF ts js rs ++ [decJ ts (decF ts js rs) r]
 | [], js, r => by simp [decF]
 | a :: rs, js, r => by rw [List.cons_append, decF, decF, decF_snoc ts rs]
def Bd (js : List Fv) : Prop := ∀ j ∈ js, 0 ≤ j.a ∧ j.a ≤ js.length * 4294967296
theorem Bd.nil : Bd [] := by intro j h; simp at h
theorem soon_bd {ts : List Ts} (hv : Vs ts) {js : List Fv} (h : Bd js) (p : Int) : 0 ≤ soonI ts js p ∧ soonI ts js p ≤ js.length * 4294967296 + 2147483647 := by
 have hx := hv.tk p
 obtain ⟨c0, c1, t0, t1, j0, j1, q0, q1⟩ := hx
 unfold soonI
 cases hl : lastT js p with
 | none => simp only; omega
 | some j =>
   have := h j (lastT_mem hl).1
   simp only
   omega
theorem dec_bd {ts : List Ts} (hv : Vs ts) {js : List Fv} (h : Bd js) (r : Fv) : soonI ts js (r.t % (ts.length : Int)) ≤ (decJ ts js r).a ∧ (decJ ts js r).a ≤ (js.length + 1) * 4294967296 - 2000000000 := by
 have := soon_bd hv h (r.t % (ts.length : Int))
 have := emod_bd r.a 1048576 (by omega)
 simp only [decJ]
 omega
theorem Bd.snoc {ts : List Ts} (hv : Vs ts) {js : List Fv} (h : Bd js) (r : Fv) : Bd (js ++ [decJ ts js r]) := by
 have h1 := dec_bd hv h r
 have h2 := soon_bd hv h (r.t % (ts.length : Int))
 intro j hj
 rw [List.length_append, List.length_singleton]
 rcases List.mem_append.1 hj with hj | hj
 ·have := h j hj
  omega
 ·rw [List.mem_singleton] at hj
  subst hj
  omega
theorem decF_bd {ts : List Ts} (hv : Vs ts) : ∀ (rs js : List Fv), Bd js → Bd (decF ts js rs)
 | [], js, h => h
 | r :: rs, js, h => decF_bd hv rs _ (h.snoc hv r)
theorem dec_parts {ts : List Ts} (hv : Vs ts) (js : List Fv) (r : Fv) : 0 ≤ (decJ ts js r).t ∧ (decJ ts js r).t < ts.length ∧ (decJ ts js r).a ≤ (decJ ts js r).r ∧ (decJ ts js r).r ≤ (decJ ts js r).a + (tk ts (decJ ts js r).t).j ∧ 1 ≤ (decJ ts js r).k ∧ (decJ ts js r).k ≤ (tk ts (decJ ts js r).t).c := by
 have hn := hv.n0
 have h1 := emod_bd r.t (ts.length : Int) (by omega)
 have hx := hv.tk (r.t % (ts.length : Int))
 have h2 := emod_bd r.r ((tk ts (r.t % (ts.length : Int))).j + 1) (by have := hx.j0; omega)
 have h3 := emod_bd r.k ((tk ts (r.t % (ts.length : Int))).c) (by have := hx.c0; omega)
 simp only [decJ]
 omega
theorem secs_fitB (q : Int) (hq : 1 ≤ q) : ∀ (l : List Int) (left : Int), 0 ≤ left → fitB q left (secs q left l) = true
 | [], left, _ => rfl
 | c :: r, left, h => by
   rw [secs]
   by_cases h0 : left = 0
   ·rw [if_pos h0]; rfl
   ·rw [if_neg h0]
    have hb := min_bd q left hq (by omega)
    have he := emod_bd c (min q left) (by omega)
    rw [fitB, secs_fitB q hq r _ (by omega), decide_eq_true (by omega)]
    rfl
theorem dec_legal {ts : List Ts} (hv : Vs ts) {js : List Fv} (h : Bd js) (hl : js.length < 4096) (r : Fv) : legJ ts js (decJ ts js r) = true := by
 obtain ⟨p1, p2, p3, p4, p5, p6⟩ := dec_parts hv js r
 obtain ⟨a1, a2⟩ := dec_bd hv h r
 have hx := hv.tk (decJ ts js r).t
 have e : (decJ ts js r).t = r.t % (ts.length : Int) := rfl
 have ec : (decJ ts js r).c = secs (tk ts (decJ ts js r).t).q (decJ ts js r).k r.c := rfl
 rw [legJ, inB_yes ⟨p1, by omega⟩, inB_yes ⟨by rw [e]; exact a1, by omega⟩, inB_yes ⟨p3, p4⟩, inB_yes ⟨p5, p6⟩, ec, secs_fitB _ hx.q0 _ _ (by omega)]
 rfl
theorem decF_legal {ts : List Ts} (hv : Vs ts) : ∀ (rs : List Fv), rs.length ≤ 4096 → legF ts [] (decF ts [] rs) = true := by
 refine snoc_ind (fun _ => rfl) fun rs r ih hl => ?_
 ·rw [List.length_append, List.length_singleton] at hl
  rw [decF_snoc, legF_app, ih (by omega), legF, List.nil_append, dec_legal hv (decF_bd hv rs [] Bd.nil) (by rw [decF_len]; simp; omega)]
  rfl
theorem decS_legal {ts : List Ts} (hv : (chkAll ts).2 = 0) (rs : List Fv) : legS ts (decS ts rs) = true := by
 have hl : (rs.take 4096).length ≤ 4096 := by rw [List.length_take]; omega
 rw [legS, decS, decF_legal (vs_of hv) _ hl, decide_eq_true ⟨hv, by rw [decF_len]; simp; omega⟩]
 rfl
def encJ (g : Int) (j : Fv) : Fv := ⟨j.t, g, j.r - j.a, j.k - 1, j.c.map (· - 1)⟩
def encF (ts : List Ts) (js : List Fv) : List Fv → Option (List Fv)
 | [] => some []
 | j :: r => if j.a - soonI ts js j.t ≥ 1048576 then none else (encF ts (js ++ [j]) r).map (encJ (j.a - soonI ts js j.t) j :: ·)
def encS (ts : List Ts) (js : List Fv) : Option (List Fv) := if legS ts js then encF ts [] js else none
theorem secs_back (q : Int) (hq : 1 ≤ q) : ∀ (l : List Int) (left : Int), 0 ≤ left → fitB q left l = true → secs q left (l.map (· - 1)) = l
 | [], left, _, _ => rfl
 | c :: r, left, h0, h => by
   simp only [fitB, Bool.and_eq_true, decide_eq_true_eq] at h
   obtain ⟨⟨h1, h2⟩, h3⟩ := h
   rw [List.map_cons, secs, if_neg (by omega)]
   have e : 1 + (c - 1) % min q left = c := by rw [Int.emod_eq_of_lt (by omega) (by omega)]; omega
   rw [e, secs_back q hq r (left - c) (by omega) h3]
theorem dec_enc {ts : List Ts} (hv : Vs ts) {js : List Fv} {j : Fv} (h : legJ ts js j = true) (hg : j.a - soonI ts js j.t < 1048576) : decJ ts js (encJ (j.a - soonI ts js j.t) j) = j := by
 obtain ⟨⟨t0, t1⟩, ⟨a0, a1⟩, ⟨r0, r1⟩, ⟨k0, k1⟩, hf⟩ := legJ_parts h
 have hx := hv.tk j.t
 have e1 : j.t % (ts.length : Int) = j.t := Int.emod_eq_of_lt t0 (by omega)
 have e2 : (j.a - soonI ts js j.t) % 1048576 = j.a - soonI ts js j.t := Int.emod_eq_of_lt (by omega) (by omega)
 have e3 : (j.r - j.a) % ((tk ts j.t).j + 1) = j.r - j.a := Int.emod_eq_of_lt (by omega) (by omega)
 have e4 : (j.k - 1) % (tk ts j.t).c = j.k - 1 := Int.emod_eq_of_lt (by omega) (by omega)
 have e5 : 1 + (j.k - 1) = j.k := by omega
 have e6 : soonI ts js j.t + (j.a - soonI ts js j.t) = j.a := by omega
 have e7 : j.a + (j.r - j.a) = j.r := by omega
 simp only [decJ, encJ, e1, e2, e3, e4, e5, e6, e7, secs_back _ hx.q0 _ _ (by omega) hf]
theorem encF_len (ts : List Ts) : ∀ (l js : List Fv) (rs : List Fv), encF ts js l = some rs → rs.length = l.length
 | [], js, rs, h => by simp [encF] at h; simp [h]
 | j :: r, js, rs, h => by
   rw [encF] at h
   split at h
   ·cases h
   ·obtain ⟨qs, hq, rfl⟩ := Option.map_eq_some_iff.1 h
    simp [encF_len ts r _ qs hq]
theorem decF_enc {ts : List Ts} (hv : Vs ts) : ∀ (l js : List Fv) (rs : List Fv), legF ts js l = true → encF ts js l = some rs → decF ts js rs = js ++ l
 | [], js, rs, _, h => by simp [encF] at h; subst h; simp [decF]
 | j :: r, js, rs, hl, h => by
   rw [legF, Bool.and_eq_true] at hl
   rw [encF] at h
   split at h
   ·cases h
   ·obtain ⟨qs, hq, rfl⟩ := Option.map_eq_some_iff.1 h
    rw [decF, dec_enc hv hl.1 (by omega), decF_enc hv r _ qs hl.2 hq]
    simp
theorem decS_enc {ts : List Ts} {js rs : List Fv} (h : encS ts js = some rs) : decS ts rs = js := by
 rw [encS] at h
 split at h
 ·rename_i hl
  rw [legS, Bool.and_eq_true, decide_eq_true_eq] at hl
  have hlen := encF_len ts js [] rs h
  rw [decS, List.take_of_length_le (by omega), decF_enc (vs_of hl.1.1) js [] rs hl.2 h]
  rfl
 ·cases h
end
section
open Go.RowKit
theorem r8rest_any (x n : Int) (w : World) (hx : in64 x) (hn : 0 < n) (hn2 : n ≤ 4294967296) : Calls Tryz.prog 31 #[.int .i64 x, .int .i64 n] w fun e w' => e = .returned (.int .i64 (x % n)) ∧ w = w' := by
 have e : x % n = (wrap64 (x.tmod n + n)).tmod n := by
  have hb := tmod_bd x n hn
  rw [IntWalk.wrap64_in _ (by omega), twice_tmod x n hn]
 rw [e]
 obtain ⟨h1, h2⟩ := hx
 clear e
 go_enter Tryz.func31, Tryz.ntmps31
 go_wp2
 go_ret
 exact ⟨rfl, rfl⟩
theorem MI.kept {X : List Nat} {w w' : World} {r : Nat} {f : Int → Option Int} (h : MI w r f) (hk : Kept X w w') (hx : r ∉ X) : MI w' r f := by
 obtain ⟨es, c, ps, h1, h2⟩ := h
 exact ⟨es, c, ps, (hk.block r ((Array.getElem?_eq_some_iff.1 h1).1) hx).trans h1, h2⟩
end
section
open Go.RowKit
def SecPost (sl : List Int) (w : World) (e : Ending) (w' : World) : Prop :=
 ∃ C cc, e = .returned (.slice C sl.length cc) ∧ CRow w' C cc sl ∧ (sl ≠ [] → ∀ a, C = some a → w.heap.size ≤ a.block ∧ ∃ cs fr, w'.heap[a.block]? = some (.cells cs 2 fr)) ∧ Below w.heap.size w w'
structure SecIn (B : Nat) (w : World) (v : Value) (pre : List Int) : Prop where
 row : w.ownsRow B 2 1 v pre.length (numL pre)
 wf : ∀ x ∈ pre, in64 x
theorem numL_snoc (l : List Int) (x : Int) : numL (l ++ [x]) = numL l ++ [.int .i64 x] := by simp [numL]
theorem secs_post {q k : Int} {l pre : List Int} {v : Value} {w w1 : World} (h : SecIn w.heap.size w1 v pre) (hq : secs q k l = pre) (hL : Below w.heap.size w w1) : SecPost (secs q k l) w (.returned v) w1 := by
 obtain ⟨C, cc, hv, _, hC, hs⟩ := crow_own h.row h.wf
 rw [SecPost, hq]
 exact ⟨C, cc, by rw [hv], hC, hs, hL⟩
end
section
open Go.RowKit
structure FB (w : World) (b : Nat) (T : TypeId) (v0 v1 v2 v3 v4 : Value) : Prop where
 is : w.heap[b]? = some (.cells #[v0, v1, v2, v3, v4] T (0, 0))
theorem FB.lt {w : World} {b : Nat} {T : TypeId} {v0 v1 v2 v3 v4 : Value} (h : FB w b T v0 v1 v2 v3 v4) : b < w.heap.size := (Array.getElem?_eq_some_iff.1 h.is).1
theorem FB.z {w : World} {b : Nat} {T : TypeId} {v0 v1 v2 v3 v4 : Value} (h : FB w b T v0 v1 v2 v3 v4) : w.cell? ⟨b, 0, none⟩ = some v0 ∧ w.cell? ⟨b, 1, none⟩ = some v1 ∧ w.cell? ⟨b, 2, none⟩ = some v2 ∧ w.cell? ⟨b, 3, none⟩ = some v3 ∧ w.cell? ⟨b, 4, none⟩ = some v4 := by
 refine ⟨?_, ?_, ?_, ?_, ?_⟩ <;> (rw [cell_of_row w b _ _ _ _ h.is]; rfl)
theorem FB.fz {w : World} {b : Nat} {T : TypeId} {v0 v1 v2 v3 v4 : Value} (h : FB w b T v0 v1 v2 v3 v4) (i : Nat) : w.frozen? ⟨b, i, none⟩ = false := frozen_of_row w b i _ _ h.is
theorem FB.later {w w' : World} {b : Nat} {T : TypeId} {v0 v1 v2 v3 v4 : Value} (h : FB w b T v0 v1 v2 v3 v4) (hb : Below w.heap.size w w') : FB w' b T v0 v1 v2 v3 v4 := ⟨(hb.block b h.lt).trans h.is⟩
theorem FB.kept {X : List Nat} {w w' : World} {b : Nat} {T : TypeId} {v0 v1 v2 v3 v4 : Value} (h : FB w b T v0 v1 v2 v3 v4) (hb : Kept X w w') (hx : b ∉ X) : FB w' b T v0 v1 v2 v3 v4 := ⟨(hb.block b h.lt hx).trans h.is⟩
theorem FB.new (w : World) (T : TypeId) (v0 v1 v2 v3 v4 : Value) : FB (w.alloc (.cells #[v0, v1, v2, v3, v4] T)) w.heap.size T v0 v1 v2 v3 v4 := ⟨heap_alloc_new w _⟩
theorem FB.set {w : World} {b i : Nat} {T : TypeId} {v0 v1 v2 v3 v4 u0 u1 u2 u3 u4 : Value} (h : FB w b T v0 v1 v2 v3 v4) (u : Value) (he : (#[v0, v1, v2, v3, v4].setIfInBounds i u) = #[u0, u1, u2, u3, u4]) : FB (w.setCell ⟨b, i, none⟩ u) b T u0 u1 u2 u3 u4 := ⟨by
 rw [heap_setCell_same _ b i _ _ u h.is, he]⟩
theorem results_job {fn : Func} {p : Tmp} (h : fn.results = #[.cell p 74]) (tmps : Array Value) (w : World) (b : Nat) (v0 v1 v2 v3 v4 : Value) (hp : tmps.getD p undef = .pointer (some ⟨b, 0, none⟩)) (hb : FB w b 74 v0 v1 v2 v3 v4) :
  (results fn tmps).run Tryz.prog w = .ok (.agg #[v0, v1, v2, v3, v4]) w :=
 results_cell_row h tmps w b _ _ _ _ hp hb.is Tryz.underlying74 rfl infoJ
theorem results_raw {fn : Func} {p : Tmp} (h : fn.results = #[.cell p 71]) (tmps : Array Value) (w : World) (b : Nat) (v0 v1 v2 v3 v4 : Value) (hp : tmps.getD p undef = .pointer (some ⟨b, 0, none⟩)) (hb : FB w b 71 v0 v1 v2 v3 v4) :
  (results fn tmps).run Tryz.prog w = .ok (.agg #[v0, v1, v2, v3, v4]) w :=
 results_cell_row h tmps w b _ _ _ _ hp hb.is Tryz.underlying71 rfl infoR
theorem CRow.kept {X : List Nat} {w w' : World} {A : Option Addr} {cap : Nat} {l : List Int} (h : CRow w A cap l) (hk : Kept X w w') (hx : l ≠ [] → ∀ a, A = some a → a.block ∉ X) : CRow w' A cap l :=
 ⟨h.le, h.mx, h.wf, fun i x hi => by
  obtain ⟨b, o, e, hc⟩ := h.at_ i x hi
  exact ⟨b, o, e, (hk.cell (World.block_lt_of_cell? w _ hc) (hx (by intro h0; rw [h0] at hi; simp at hi) ⟨b, o, none⟩ e)).trans hc⟩⟩
abbrev D4 (N b1 b2 : Nat) (xj xq rr : Int) (V : Value) (W : World) : Prop := W.cell? ⟨N, 4, none⟩ = some (.int .i64 xj) ∧ W.cell? ⟨N, 5, none⟩ = some (.int .i64 xq) ∧ W.cell? ⟨b1, 2, none⟩ = some (.int .i64 rr) ∧ W.cell? ⟨b1, 4, none⟩ = some V ∧ (N ≠ b2 ∧ b1 ≠ b2)
theorem D4.step {W W' : World} {N b1 b2 : Nat} {xj xq rr : Int} {V : Value} (h : D4 N b1 b2 xj xq rr V W) (hb : Below W.heap.size W W') : D4 N b1 b2 xj xq rr V W' := by
 obtain ⟨h1, h2, h3, h4, h5⟩ := h
 have hc := cells_below hb
 exact ⟨hc _ _ _ h1, hc _ _ _ h2, hc _ _ _ h3, hc _ _ _ h4, h5⟩
theorem D4.set {W : World} {N b1 b2 : Nat} {xj xq rr : Int} {V : Value} (h : D4 N b1 b2 xj xq rr V W) (i : Nat) (u : Value) : D4 N b1 b2 xj xq rr V (W.setCell ⟨b2, i, none⟩ u) := by
 obtain ⟨h1, h2, h3, h4, h5, h6⟩ := h
 have hc : ∀ b o, b ≠ b2 → (W.setCell ⟨b2, i, none⟩ u).cell? ⟨b, o, none⟩ = W.cell? ⟨b, o, none⟩ := fun b o hb => World.cell?_setCell_other _ _ _ _ (by intro e; exact hb (congrArg Addr.block e).symm)
 exact ⟨(hc _ _ h5).trans h1, (hc _ _ h5).trans h2, (hc _ _ h6).trans h3, (hc _ _ h6).trans h4, h5, h6⟩
theorem D4.set5 {W : World} {N b1 b2 : Nat} {xj xq rr : Int} {V : Value} (h : D4 N b1 b2 xj xq rr V W) (u0 u1 u2 u3 u4 : Value) : D4 N b1 b2 xj xq rr V (((((W.setCell ⟨b2, 0, none⟩ u0).setCell ⟨b2, 1, none⟩ u1).setCell ⟨b2, 2, none⟩ u2).setCell ⟨b2, 3, none⟩ u3).setCell ⟨b2, 4, none⟩ u4) := ((((h.set 0 u0).set 1 u1).set 2 u2).set 3 u3).set 4 u4
def DecPost (x : Fv) (w : World) (e : Ending) (w' : World) : Prop :=
 ∃ C cc, e = .returned (fvV x C cc) ∧ CRow w' C cc x.c ∧ (x.c ≠ [] → ∀ a, C = some a → w.heap.size ≤ a.block ∧ ∃ cs fr, w'.heap[a.block]? = some (.cells cs 2 fr)) ∧ Below w.heap.size w w'
end
section
open Go.RowKit
theorem Arr.kept {X : List Nat} {A : Option Addr} {n cap M : Nat} {w w' : World} {js : List Fv} (h : Arr A n cap M w js) (hb : Kept X w w') (h1 : M ∉ X) (h2 : M + 1 ∉ X) : Arr A n cap M w' js :=
 ⟨h.map.kept hb h1, (hb.block _ h.lt h2).trans h.is⟩
theorem Arr.grown {A : Option Addr} {n cap M : Nat} {w w' : World} {js : List Fv} (h : Arr A n cap M w js) {B e size k : Nat} {v : Value} {xs : List Value} (hr : w.ownsRow B e size v k xs) (he : 88 ≠ e) (hg : w.grownBy w' v.ownBlock) : Arr A n cap M w' js := by
 refine h.kept (X := v.ownBlock.toList) (kept_grown hg (fun k hk => by rw [hk]; simp)) (fun hm => ?_) (fun hm => ?_)
 ·rw [Option.mem_toList] at hm
  rcases hr.2 with ⟨rfl, _⟩ | ⟨g, c, cur, rfl, _, hh, _⟩
  ·simp [Value.ownBlock] at hm
  ·simp only [Value.ownBlock, Option.some.injEq] at hm
   obtain ⟨es, c', hm'⟩ := h.map.is
   have hm2 : g = M := by simpa using hm
   rw [hm2, hm'] at hh
   cases hh
 ·rw [Option.mem_toList] at hm
  exact own_ne hr h.is he hm
structure JB (W1 w : World) (b : Nat) (x : Fv) (C : Option Addr) (cc : Nat) : Prop where
 fb : FB w b 74 (.int .i64 x.t) (.int .i64 x.a) (.int .i64 x.r) (.int .i64 x.k) (.slice C x.c.length cc)
 wf : FvW x
 s : CRow w C cc x.c
 ty : x.c ≠ [] → ∀ a, C = some a → ∃ cs fr, w.heap[a.block]? = some (.cells cs 2 fr)
 bel : Below W1.heap.size W1 w
 ge : W1.heap.size ≤ b
theorem JB.ofSet {W1 w : World} {b : Nat} {x : Fv} {C : Option Addr} {cc : Nat} {v0 v1 v2 v3 v4 : Value} (h : FB w b 74 v0 v1 v2 v3 v4) (hw : FvW x) (hs : CRow w C cc x.c)
  (ty : x.c ≠ [] → ∀ a, C = some a → ∃ cs fr, w.heap[a.block]? = some (.cells cs 2 fr)) (hb : Below W1.heap.size W1 w) (hg : W1.heap.size ≤ b) :
  JB W1 (((((w.setCell ⟨b, 0, none⟩ (.int .i64 x.t)).setCell ⟨b, 1, none⟩ (.int .i64 x.a)).setCell ⟨b, 2, none⟩ (.int .i64 x.r)).setCell ⟨b, 3, none⟩ (.int .i64 x.k)).setCell ⟨b, 4, none⟩ (.slice C x.c.length cc)) b x C cc := by
 have hk := ((((((Kept.refl [b] w).set b 0 (.int .i64 x.t) (by simp)).set b 1 (.int .i64 x.a) (by simp)).set b 2 (.int .i64 x.r) (by simp)).set b 3 (.int .i64 x.k) (by simp)).set b 4 (.slice C x.c.length cc) (by simp))
 have hne : x.c ≠ [] → ∀ a, C = some a → a.block ∉ [b] := fun hc a ha hm => by
  rw [List.mem_singleton] at hm
  obtain ⟨cs, fr, ht⟩ := ty hc a ha
  rw [hm, h.is] at ht
  cases ht
 refine ⟨((((h.set (i := 0) (.int .i64 x.t) rfl).set (i := 1) (.int .i64 x.a) rfl).set (i := 2) (.int .i64 x.r) rfl).set (i := 3) (.int .i64 x.k) rfl).set (i := 4) (.slice C x.c.length cc) rfl, hw, hs.kept hk hne, fun hc a ha => ?_, hb.trans (hk.below hb.size (by simp; exact hg)), hg⟩
 obtain ⟨cs, fr, ht⟩ := ty hc a ha
 exact ⟨cs, fr, (hk.block a.block (Array.getElem?_eq_some_iff.1 ht).1 (hne hc a ha)).trans ht⟩
theorem JB.ofAlloc {W1 w : World} {x : Fv} {C : Option Addr} {cc : Nat} (hw : FvW x) (hs : CRow w C cc x.c)
  (ty : x.c ≠ [] → ∀ a, C = some a → ∃ cs fr, w.heap[a.block]? = some (.cells cs 2 fr)) (hb : Below W1.heap.size W1 w) :
  JB W1 (w.alloc (.cells #[.int .i64 x.t, .int .i64 x.a, .int .i64 x.r, .int .i64 x.k, .slice C x.c.length cc] 74)) w.heap.size x C cc := by
 have hb2 : Below w.heap.size w (w.alloc (.cells #[.int .i64 x.t, .int .i64 x.a, .int .i64 x.r, .int .i64 x.k, .slice C x.c.length cc] 74)) := (Below.refl _ _).alloc (Nat.le_refl _) _
 refine ⟨FB.new _ _ _ _ _ _ _, hw, hs.later hb2, fun hc a ha => ?_, hb.trans (hb2.mono hb.size), hb.size⟩
 obtain ⟨cs, fr, ht⟩ := ty hc a ha
 exact ⟨cs, fr, (hb2.block a.block (Array.getElem?_eq_some_iff.1 ht).1).trans ht⟩
theorem JB.setT {W1 w : World} {b : Nat} {x : Fv} {C : Option Addr} {cc : Nat} (h : JB W1 w b x C cc) (p : Int) (hp : in64 p) : JB W1 (w.setCell ⟨b, 0, none⟩ (.int .i64 p)) b { x with t := p } C cc := by
 have hk := (Kept.refl [b] w).set b 0 (.int .i64 p) (by simp)
 have hne : x.c ≠ [] → ∀ a, C = some a → a.block ∉ [b] := fun hc a ha hm => by
  rw [List.mem_singleton] at hm
  obtain ⟨cs, fr, ht⟩ := h.ty hc a ha
  rw [hm, h.fb.is] at ht
  cases ht
 refine ⟨h.fb.set (i := 0) (.int .i64 p) rfl, ⟨hp, h.wf.a, h.wf.r, h.wf.k⟩, h.s.kept hk hne, fun hc a ha => ?_, h.bel.trans (hk.below h.bel.size (by simp; exact h.ge)), h.ge⟩
 obtain ⟨cs, fr, ht⟩ := h.ty hc a ha
 exact ⟨cs, fr, (hk.block a.block (Array.getElem?_eq_some_iff.1 ht).1 (hne hc a ha)).trans ht⟩
def LtW (W1 : World) (tb b8 M : Nat) (W : World) : Prop := Below W1.heap.size W1 W ∧ tb < W1.heap.size ∧ b8 < W1.heap.size ∧ M + 1 < W1.heap.size
abbrev D9 (W1 : World) (tb o b8 M : Nat) (y : Ts) (x : Fv) (C : Option Addr) (cc : Nat) (A : Option Addr) (n cap : Nat) (W : World) : Prop :=
 W.cell? ⟨tb, o, none⟩ = some (.string y.n) ∧ W.cell? ⟨tb, o + 1, none⟩ = some (.int .i64 y.c) ∧ W.cell? ⟨tb, o + 2, none⟩ = some (.int .i64 y.t) ∧ W.cell? ⟨tb, o + 3, none⟩ = some (.int .i64 y.d) ∧ W.cell? ⟨tb, o + 4, none⟩ = some (.int .i64 y.j) ∧ W.cell? ⟨tb, o + 5, none⟩ = some (.int .i64 y.q) ∧ W.cell? ⟨tb, o + 6, none⟩ = some (.int .i64 y.p) ∧
 W.cell? ⟨b8, 0, none⟩ = some (.int .i64 x.t) ∧ W.cell? ⟨b8, 1, none⟩ = some (.int .i64 x.a) ∧ W.cell? ⟨b8, 2, none⟩ = some (.int .i64 x.r) ∧ W.cell? ⟨b8, 3, none⟩ = some (.int .i64 x.k) ∧ W.cell? ⟨b8, 4, none⟩ = some (.slice C x.c.length cc) ∧
 W.cell? ⟨M + 1, 0, none⟩ = some (.slice A n cap) ∧ W.cell? ⟨M + 1, 1, none⟩ = some (.map (some M)) ∧ LtW W1 tb b8 M W
theorem D9.step {W1 : World} {tb o b8 M : Nat} {y : Ts} {x : Fv} {C : Option Addr} {cc : Nat} {A : Option Addr} {n cap : Nat} {W W' : World} (h : D9 W1 tb o b8 M y x C cc A n cap W) (hb : Below W.heap.size W W') : D9 W1 tb o b8 M y x C cc A n cap W' := by
 obtain ⟨h0, h1, h2, h3, h4, h5, h6, g0, g1, g2, g3, g4, m0, m1, hl⟩ := h
 have hc := cells_below hb
 exact ⟨hc _ _ _ h0, hc _ _ _ h1, hc _ _ _ h2, hc _ _ _ h3, hc _ _ _ h4, hc _ _ _ h5, hc _ _ _ h6, hc _ _ _ g0, hc _ _ _ g1, hc _ _ _ g2, hc _ _ _ g3, hc _ _ _ g4, hc _ _ _ m0, hc _ _ _ m1, Below.trans hl.1 (hb.mono (Below.size hl.1)), hl.2⟩
theorem D9.lt {W1 : World} {tb o b8 M : Nat} {y : Ts} {x : Fv} {C : Option Addr} {cc : Nat} {A : Option Addr} {n cap : Nat} {W : World} (h : D9 W1 tb o b8 M y x C cc A n cap W) : Below W1.heap.size W1 W := h.2.2.2.2.2.2.2.2.2.2.2.2.2.2.1
theorem D9.set {W1 : World} {tb o b8 M b : Nat} {y : Ts} {x : Fv} {C : Option Addr} {cc : Nat} {A : Option Addr} {n cap : Nat} {W : World} (h : D9 W1 tb o b8 M y x C cc A n cap W) (hb : W1.heap.size ≤ b) (i : Nat) (u : Value) : D9 W1 tb o b8 M y x C cc A n cap (W.setCell ⟨b, i, none⟩ u) := by
 obtain ⟨h0, h1, h2, h3, h4, h5, h6, g0, g1, g2, g3, g4, m0, m1, hl, l1, l2, l3⟩ := h
 have hc : ∀ q o v, q < W1.heap.size → W.cell? ⟨q, o, none⟩ = some v → (W.setCell ⟨b, i, none⟩ u).cell? ⟨q, o, none⟩ = some v := fun q o v hq hv => (World.cell?_setCell_other _ _ _ _ (by intro e; have := congrArg Addr.block e; simp only at this; omega)).trans hv
 exact ⟨hc _ _ _ l1 h0, hc _ _ _ l1 h1, hc _ _ _ l1 h2, hc _ _ _ l1 h3, hc _ _ _ l1 h4, hc _ _ _ l1 h5, hc _ _ _ l1 h6, hc _ _ _ l2 g0, hc _ _ _ l2 g1, hc _ _ _ l2 g2, hc _ _ _ l2 g3, hc _ _ _ l2 g4, hc _ _ _ l3 m0, hc _ _ _ l3 m1, hl.setCell (p := ⟨b, i, none⟩) hb u, l1, l2, l3⟩
theorem D9.set5 {W1 : World} {tb o b8 M b : Nat} {y : Ts} {x : Fv} {C : Option Addr} {cc : Nat} {A : Option Addr} {n cap : Nat} {W : World} (h : D9 W1 tb o b8 M y x C cc A n cap W) (hb : W1.heap.size ≤ b) (u0 u1 u2 u3 u4 : Value) :
  D9 W1 tb o b8 M y x C cc A n cap (((((W.setCell ⟨b, 0, none⟩ u0).setCell ⟨b, 1, none⟩ u1).setCell ⟨b, 2, none⟩ u2).setCell ⟨b, 3, none⟩ u3).setCell ⟨b, 4, none⟩ u4) := ((((h.set hb 0 u0).set hb 1 u1).set hb 2 u2).set hb 3 u3).set hb 4 u4
theorem D9.mk {W : World} {tb o b8 M : Nat} {y : Ts} {x : Fv} {C : Option Addr} {cc : Nat} {A : Option Addr} {n cap : Nat} {js : List Fv} (hT : TAt W tb o y) (hF : FAt W b8 0 x C cc) (hA : Arr A n cap M W js) : D9 W tb o b8 M y x C cc A n cap W := by
 obtain ⟨g0, g1, g2, g3, g4⟩ := hF.z
 exact ⟨hT.c0, hT.c1, hT.c2, hT.c3, hT.c4, hT.c5, hT.c6, g0, g1, g2, g3, g4, hA.c0, hA.c1, Below.refl _ _, hT.lt, hF.lt, hA.lt⟩
def DecodePost (js : List Fv) (w : World) (e : Ending) (w' : World) : Prop := ∃ v gs, e = .returned v ∧ FOwn 74 w.heap.size w' v gs ∧ gs.map (·.x) = js ∧ Below w.heap.size w w'
structure DIn (w : World) (A : Option Addr) (n cap M : Nat) (wr : World) (v : Value) (js : List Fv) : Prop where
 own : ∃ gs, FOwn 74 w.heap.size wr v gs ∧ gs.map (·.x) = js
 arr : Arr A n cap M wr js
 bel : Below w.heap.size w wr
 ge : w.heap.size ≤ M
theorem decF_task {ts : List Ts} (hv : Vs ts) (rs : List Fv) : ∀ j ∈ decF ts [] rs, 0 ≤ j.t ∧ j.t < ts.length := by
 refine snoc_ind (P := fun rs => ∀ j ∈ decF ts [] rs, 0 ≤ j.t ∧ j.t < ts.length) (by intro j hj; simp [decF] at hj) (fun l r ih j hj => ?_) rs
 rw [decF_snoc] at hj
 rcases List.mem_append.1 hj with hj | hj
 ·exact ih j hj
 ·rw [List.mem_singleton] at hj
  subst hj
  have := dec_parts hv (decF ts [] l) r
  omega
theorem decF_good {ts : List Ts} (hv : Vs ts) (rs : List Fv) (hl : rs.length ≤ 4096) : ∀ j ∈ decF ts [] rs, 0 ≤ j.t ∧ j.t < ts.length ∧ 0 ≤ j.a ∧ j.a ≤ 35184372088832 := fun j hj => by
 have h1 := decF_task hv rs j hj
 have h2 := decF_bd hv rs [] Bd.nil j hj
 rw [decF_len] at h2
 simp only [List.length_nil] at h2
 omega
end
section
open Go.RowKit
section
open Go.ChangeShapes Go.WideShapes Go.ChangeAt
variable {H : Type} {enc : TypeId × Value → H} {W : World} {base : Nat} {sp : Nat → Bool} {hd : Bool}
theorem read_cuts {fuel : Nat} {v : Value} {y : DataW H × List MemPlace} (h : DataW.trod enc Tryz.prog W base sp hd fuel 51 [v] = some y) :
  ∃ A cap l, v = .slice A l.length cap ∧ CRow W A cap l := by
 rcases DataW.trod_slice Tryz.underlying51 h with ⟨hcs, _⟩ | ⟨a, len, cap, elems, rest, n, _, hcs, _, _, hl', hm, hlen, hel, _, _⟩
 ·obtain rfl : v = .slice none 0 0 := by simpa using hcs
  exact ⟨none, 0, [], rfl, CRow.nil _ _ (by omega)⟩
 ·obtain rfl : v = .slice (some a) len cap := by simpa using hcs
  have c1 : Tryz.prog.cellsOf 3 = 1 := by kernel_rfl
  rw [c1] at hel
  unfold maxLen at hm
  rcases Nat.eq_zero_or_pos len with h0 | h0
  ·subst h0
   exact ⟨_, cap, [], rfl, CRow.nil _ _ hm⟩
  have hsp := slice_spot hlen h0 (by omega) hel
  obtain ⟨ab, ao, asp⟩ := a
  obtain rfl : asp = none := by injection hsp
  clear hsp
  have key : ∀ i, i < len → ∃ x : Int, in64 x ∧ W.cell? ⟨ab, ao + i, none⟩ = some (.int .i64 x) := by
   intro i hi
   have h1 := hel i hi
   rw [List.getElem?_eq_getElem (by omega)] at h1
   obtain ⟨cl, hcs2, ht⟩ := Option.bind_eq_some_iff.1 h1
   obtain ⟨_, hcl, hat⟩ := World.cells?_some hcs2
   match cl, hcl, hat, ht with
   | [v0], _, hat, ht =>
     obtain ⟨z0, e0, _, w0⟩ := DataW.trod_int Tryz.underlying3 ht
     obtain rfl : v0 = .int .i64 z0 := by simpa using e0
     have := hat 0 (by simp)
     simp only [add_none, Nat.mul_one, Nat.add_zero] at this
     exact ⟨z0, in64_of w0, by simpa using this⟩
  obtain ⟨l, hl, hp⟩ := list_of len key
  subst hl
  refine ⟨some ⟨ab, ao, none⟩, cap, l, rfl, ⟨hl', hm, fun x hx => ?_, fun i x hx => ⟨ab, ao, rfl, (hp i x hx).2⟩⟩⟩
  obtain ⟨i, hi, rfl⟩ := List.getElem_of_mem hx
  exact (hp i _ (List.getElem?_eq_getElem hi)).1
theorem read_raws {fuel : Nat} {v : Value} {y : DataW H × List MemPlace} (h : DataW.trod enc Tryz.prog W base sp hd fuel 35 [v] = some y) :
  ∃ A cap l, v = .slice A l.length cap ∧ FRow W A cap l := by
 rcases DataW.trod_slice Tryz.underlying35 h with ⟨hcs, _⟩ | ⟨a, len, cap, elems, rest, n, _, hcs, _, _, hl', hm, hlen, hel, _, _⟩
 ·obtain rfl : v = .slice none 0 0 := by simpa using hcs
  exact ⟨none, 0, [], rfl, FRow.nil _ _ (by omega)⟩
 ·obtain rfl : v = .slice (some a) len cap := by simpa using hcs
  have c5 : Tryz.prog.cellsOf 71 = 5 := by kernel_rfl
  rw [c5] at hel
  unfold maxLen at hm
  rcases Nat.eq_zero_or_pos len with h0 | h0
  ·subst h0
   exact ⟨_, cap, [], rfl, FRow.nil _ _ hm⟩
  have hsp := slice_spot hlen h0 (by omega) hel
  obtain ⟨ab, ao, asp⟩ := a
  obtain rfl : asp = none := by injection hsp
  clear hsp
  have key : ∀ i, i < len → ∃ x : Fv, ∃ C cc, FAt W ab (ao + i * 5) x C cc := by
   intro i hi
   have h1 := hel i hi
   have ci : Tryz.prog.cellsOf 3 = 1 := by kernel_rfl
   have cs : Tryz.prog.cellsOf 51 = 1 := by kernel_rfl
   rw [List.getElem?_eq_getElem (by omega)] at h1
   obtain ⟨cl, hcs2, ht⟩ := Option.bind_eq_some_iff.1 h1
   obtain ⟨_, hcl, hat⟩ := World.cells?_some hcs2
   obtain ⟨ys, n', _, _, _, hyl, hf⟩ := DataW.trod_struct Tryz.underlying71 ht
   match cl, hcl, hat, hf with
   | [v0, v1, v2, v3, v4], _, hat, hf =>
     have g0 : DataW.trod enc Tryz.prog W base sp hd n' 3 [v0] = ys[0]? := by
      have e : DataW.trod enc Tryz.prog W base sp hd n' 3 (([v0, v1, v2, v3, v4].drop 0).take (Tryz.prog.cellsOf 3)) = ys[0]? := hf 0 _ rfl
      rw [ci] at e
      exact e
     have g1 : DataW.trod enc Tryz.prog W base sp hd n' 3 [v1] = ys[1]? := by
      have e : DataW.trod enc Tryz.prog W base sp hd n' 3 (([v0, v1, v2, v3, v4].drop 1).take (Tryz.prog.cellsOf 3)) = ys[1]? := hf 1 _ rfl
      rw [ci] at e
      exact e
     have g2 : DataW.trod enc Tryz.prog W base sp hd n' 3 [v2] = ys[2]? := by
      have e : DataW.trod enc Tryz.prog W base sp hd n' 3 (([v0, v1, v2, v3, v4].drop 2).take (Tryz.prog.cellsOf 3)) = ys[2]? := hf 2 _ rfl
      rw [ci] at e
      exact e
     have g3 : DataW.trod enc Tryz.prog W base sp hd n' 3 [v3] = ys[3]? := by
      have e : DataW.trod enc Tryz.prog W base sp hd n' 3 (([v0, v1, v2, v3, v4].drop 3).take (Tryz.prog.cellsOf 3)) = ys[3]? := hf 3 _ rfl
      rw [ci] at e
      exact e
     have g4 : DataW.trod enc Tryz.prog W base sp hd n' 51 [v4] = ys[4]? := by
      have e : DataW.trod enc Tryz.prog W base sp hd n' 51 (([v0, v1, v2, v3, v4].drop 4).take (Tryz.prog.cellsOf 51)) = ys[4]? := hf 4 _ rfl
      rw [cs] at e
      exact e
     have hy5 : ys.length = 5 := hyl
     rw [List.getElem?_eq_getElem (by omega)] at g0 g1 g2 g3 g4
     obtain ⟨z0, e0, _, w0⟩ := DataW.trod_int Tryz.underlying3 g0
     obtain ⟨z1, e1, _, w1⟩ := DataW.trod_int Tryz.underlying3 g1
     obtain ⟨z2, e2, _, w2⟩ := DataW.trod_int Tryz.underlying3 g2
     obtain ⟨z3, e3, _, w3⟩ := DataW.trod_int Tryz.underlying3 g3
     obtain ⟨C, cc, cl, e4, w4⟩ := read_cuts g4
     obtain rfl : v0 = .int .i64 z0 := by simpa using e0
     obtain rfl : v1 = .int .i64 z1 := by simpa using e1
     obtain rfl : v2 = .int .i64 z2 := by simpa using e2
     obtain rfl : v3 = .int .i64 z3 := by simpa using e3
     obtain rfl : v4 = .slice C cl.length cc := e4
     refine ⟨⟨z0, z1, z2, z3, cl⟩, C, cc, ⟨fun j u hu => ?_, ⟨in64_of w0, in64_of w1, in64_of w2, in64_of w3⟩, w4⟩⟩
     have hj : j < 5 := by
      rcases Nat.lt_or_ge j 5 with h | h
      ·exact h
      ·rw [List.getElem?_eq_none (by simp [fvL]; omega)] at hu; cases hu
     have := hat j (by simpa using hj)
     simp only [add_none] at this
     rw [this]
     rw [← hu]
     rfl
  obtain ⟨l, hl, hp⟩ := list_of len key
  subst hl
  refine ⟨some ⟨ab, ao, none⟩, cap, l, rfl, ⟨hl', hm, fun i x hx => ?_⟩⟩
  obtain ⟨C, cc, hF⟩ := hp i x hx
  exact ⟨ab, ao, C, cc, rfl, hF⟩
end
end
section
open Go.RowKit
def fewTS1 (r : Fv) : Fv := { r with a := r.a % 12, c := r.c.take 5 }
def fewTS (rs : List Fv) : List Fv := (rs.take 10).map fewTS1
def fewTSPost (rs : List Fv) (w : World) (e : Ending) (w' : World) : Prop := ∃ v gs, e = .returned v ∧ FOwn 71 w.heap.size w' v gs ∧ gs.map (·.x) = fewTS rs ∧ Below w.heap.size w w'
structure fewTSIn (w wr : World) (v : Value) (rs : List Fv) : Prop where
 own : ∃ gs, FOwn 71 w.heap.size wr v gs ∧ gs.map (·.x) = rs.map fewTS1
 bel : Below w.heap.size w wr
theorem fewT_any (R : Option Addr) (rc : Nat) (rs : List Fv) (w : World) (hR : FRow w R rc rs) :
  Calls Tryz.prog 13 #[.slice R rs.length rc, .int .i64 10] w (fewTSPost rs w) := by
 obtain ⟨i0, hi, hz0, hz1, hz2⟩ := info_parts infoRs
 have hle := hR.le
 have hmx := hR.mx
 have RAW := Lib.hid hR
 clear hR
 go_enter Tryz.func13, Tryz.ntmps13
 go_wp2
 go_loopw [5, 6] (fun v i wr => ∃ k : Nat, k ≤ min rs.length 10 ∧ i = .int .i64 k ∧ Hid (fewTSIn w wr v (rs.take k))) (fun _ i _ => 10 - (intOf i).toNat)
 case atStart => exact ⟨0, Nat.zero_le _, rfl, Lib.hid ⟨⟨[], FOwn.nil _ _ _, rfl⟩, Below.refl _ _⟩⟩
 case round =>
  obtain ⟨k, hk, rfl, hI⟩ := hrel
  have hk1 : k ≤ rs.length := by omega
  have hk2 : k ≤ 10 := by omega
  by_cases hlt : k < rs.length ∧ k < 10
  ·obtain ⟨hl1, hl2⟩ := hlt
   obtain ⟨rb, ro, x, C, cc, rfl, hx, hrb, hF0⟩ := RAW.out.get (k := k) (by omega)
   have hF := hF0.later hI.out.bel
   have c0 := hF.c0
   have c1 := hF.c1
   have c2 := hF.c2
   have c3 := hF.c3
   have c4 := hF.c4
   have g1 : decide ((k : Int) < (rs.length : Int)) = true := decide_eq_true (by omega)
   have g2 : decide ((k : Int) < 10) = true := decide_eq_true (by omega)
   have g2' : decide (k < 10) = true := decide_eq_true (by omega)
   have hi0 : (0 : Int) ≤ (k : Int) := by omega
   have hi1 : (k : Int) < (rs.length : Int) := by omega
   obtain ⟨gs, hG, hgs⟩ := hI.out.own
   have hgl : gs.length = k := by
    have := congrArg List.length hgs
    rw [List.length_map, List.length_map, List.length_take] at this
    omega
   have hlc := hF.s.le
   have hmc := hF.s.mx
   have HSF : Hid (Safe 71 w.heap.size w C x.c) := Lib.hid (fun hne a ha => by
    obtain ⟨b, o, n, hA, _, _, hbl, _⟩ := hF0.s.get (k := 0) (by rcases Nat.eq_zero_or_pos x.c.length with h0 | h0; exact absurd (List.length_eq_zero_iff.1 h0) hne; exact h0)
    rw [ha] at hA
    cases hA
    exact .inl hbl)
   have hgb := emod_bd x.a 12 (by omega)
   have HGB := Lib.hid hgb
   have KR0 := fun W => r8rest_any x.a 12 W hF.wf.a (by omega) (by omega)
   obtain ⟨ga, hga⟩ : ∃ ga, x.a % 12 = ga := ⟨_, rfl⟩
   have KR1 := KR0
   rw [hga] at KR1
   have KR := Lib.hid KR1
   have HGA0 := Lib.hid hga
   clear hgb KR0 KR1 hga
   have HX := Lib.hid hx
   have HF := Lib.hid hF
   have HG := Lib.hid hG
   have HGA := Lib.hid hG
   have HGS := Lib.hid hgs
   have HGL := Lib.hid hgl
   have HBW := Lib.hid hI.out.bel
   clear hF hF0 hx hG hgs hgl hI
   go_upto_region 6 with (fail)
   have F1 := Lib.hid (FB.new wr 71 (.int .i64 x.t) (.int .i64 x.a) (.int .i64 x.r) (.int .i64 x.k) (.slice C x.c.length cc))
   have B1 : Hid (Below wr.heap.size wr (wr.alloc (.cells #[.int .i64 x.t, .int .i64 x.a, .int .i64 x.r, .int .i64 x.k, .slice C x.c.length cc] 71))) := Lib.hid ((Below.refl _ _).alloc (Nat.le_refl _) _)
   generalize (wr.alloc (.cells #[.int .i64 x.t, .int .i64 x.a, .int .i64 x.r, .int .i64 x.k, .slice C x.c.length cc] 71)) = W1 at *
   obtain ⟨bx, hbx⟩ : ∃ bx, bx = wr.heap.size := ⟨_, rfl⟩
   have F1 : Hid (FB W1 bx 71 (.int .i64 x.t) (.int .i64 x.a) (.int .i64 x.r) (.int .i64 x.k) (.slice C x.c.length cc)) := by rw [hbx]; exact F1
   have HBX : Hid (wr.heap.size ≤ bx) := Lib.hid (by rw [hbx]; exact Nat.le_refl _)
   rw [← hbx]
   clear c0 c1 c2 c3 c4 hbx
   obtain ⟨z0, z1, z2, z3, z4⟩ := F1.out.z
   have y1 := F1.out.fz 1
   go_upto_region 7 with (go_at_call 31; (with_reducible refine (KR.out _).mono ?_); rintro e w2 ⟨rfl, rfl⟩)
   have F2 := Lib.hid (F1.out.set (i := 1) (.int .i64 ga) rfl)
   have B2 : Hid (Below wr.heap.size wr (W1.setCell ⟨bx, 1, none⟩ (.int .i64 ga))) := Lib.hid (B1.out.setCell (p := ⟨bx, 1, none⟩) HBX.out _)
   generalize W1.setCell ⟨bx, 1, none⟩ (.int .i64 ga) = W2 at *
   clear z0 z1 z2 z3 z4 y1
   obtain ⟨z0, z1, z2, z3, z4⟩ := F2.out.z
   have y1 := F2.out.fz 1
   by_cases hlong : 5 < x.c.length
   ·have g5 : decide ((x.c.length : Int) > 5) = true := decide_eq_true (by omega)
    have g5' : decide (5 < x.c.length) = true := decide_eq_true hlong
    have hc6 : (5 : Int) ≤ (cc : Int) := by omega
    have hcz : cc ≠ 0 := by omega
    have y4 := F2.out.fz 4
    have HCL : Hid (x.c.take 5 = x.c.take 5) := Lib.hid rfl
    have hc66 : (x.c.take 5).length = 5 := by rw [List.length_take]; omega
    have HC66 := Lib.hid hc66
    clear hc66
    go_upto_region 9 with (fail)
    have F3 := Lib.hid (F2.out.set (i := 4) (.slice C 5 cc) rfl)
    have B3 : Hid (Below wr.heap.size wr (W2.setCell ⟨bx, 4, none⟩ (.slice C 5 cc))) := Lib.hid (B2.out.setCell (p := ⟨bx, 4, none⟩) HBX.out _)
    generalize W2.setCell ⟨bx, 4, none⟩ (.slice C 5 cc) = W3 at *
    clear z0 z1 z2 z3 z4 y1 y4
    have G3 : Hid (GOk 71 w.heap.size W3 ⟨⟨x.t, ga, x.r, x.k, x.c.take 5⟩, C, cc⟩) := Lib.hid ⟨⟨HF.out.wf.t, ⟨by show _ ≤ ga; have := HGB.out; have := HGA0.out; omega, by show ga ≤ _; have := HGB.out; have := HGA0.out; omega⟩, HF.out.wf.r, HF.out.wf.k⟩, (HF.out.s.later B3.out).take 5, fun hne a ha => by
     rcases HSF.out (by intro h0; rw [h0] at hne; exact hne (by simp)) a ha with h1 | ⟨cs, T, fr, h1, h2⟩
     ·exact .inl h1
     ·exact .inl (by have := (Array.getElem?_eq_some_iff.1 h1).1; exact this)⟩
    obtain ⟨z0, z1, z2, z3, z4⟩ := F3.out.z
    have hO := G3.out
    have HFA := Lib.hid (fun j u hu => by
     have := (FAt.new W3 ⟨x.t, ga, x.r, x.k, x.c.take 5⟩ C cc 71 hO.wf hO.s).r j u hu
     rw [Nat.zero_add] at this
     rw [add_none, Nat.zero_add]
     simp only [HC66.out] at this
     exact this : ∀ j u, (fvL ⟨x.t, ga, x.r, x.k, x.c.take 5⟩ C cc)[j]? = some u → (W3.alloc (.cells #[.int .i64 x.t, .int .i64 ga, .int .i64 x.r, .int .i64 x.k, .slice C 5 cc] 71)).cell? ((⟨W3.heap.size, 0, none⟩ : Addr).add j) = some u)
    have HG2 := Lib.hid (HGA.out.later B3.out)
    clear hO
    go_wp2_with (refine wpList_append_own _ rfl _ _ 35 rfl w.heap.size 71 i0 _ 5 56 Tryz.underlying35 hi hz0 hz1 hz2 rfl (by decide) _ gs.length (gvC gs) rfl (HG2.out.row.alloc _) ⟨W3.heap.size, 0, none⟩ 1 1 (fvL ⟨x.t, ga, x.r, x.k, x.c.take 5⟩ C cc) rfl rfl HFA.out (fvL_one _ _ _) (by have := HGL.out; unfold maxLen; omega) (by have := HGL.out; omega) (by have := HBW.out.size; have := B3.out.size; simp; omega) ?_; intro v' w8 hown' hgrow hnil')
    go_roundw
    case rel =>
     have ba : Below W3.heap.size W3 (W3.alloc (.cells #[.int .i64 x.t, .int .i64 ga, .int .i64 x.r, .int .i64 x.k, .slice C 5 cc] 71)) := (Below.refl _ _).alloc (Nat.le_refl _) _
     have hG8 := (HG2.out.later ba).push (G3.out.kept fun b hl _ => ba.block b hl) hown' hgrow
     have hB2 := HBW.out.trans (B3.out.mono HBW.out.size)
     have hL8 : Below w.heap.size w w8 := (hB2.trans (ba.mono hB2.size)).grown hgrow (by have := hB2.size; simp; omega) (fun q hq => (HG2.out.row.lt q hq).1)
     refine ⟨k + 1, by omega, by go_num, Lib.hid ⟨⟨_, hG8, ?_⟩, hL8⟩⟩
     rw [take_one HX.out, List.map_append, List.map_append, HGS.out]
     simp [fewTS1, HCL.out, HGA0.out]
    case measure => simp [intOf]; omega
   ·have g5 : decide ((x.c.length : Int) > 5) = false := decide_eq_false (by omega)
    have g5' : decide (5 < x.c.length) = false := decide_eq_false hlong
    have HCL : Hid (x.c.take 5 = x.c) := Lib.hid (List.take_of_length_le (by omega))
    go_upto_region 9 with (fail)
    have F3 := F2
    have B3 := B2
    clear z0 z1 z2 z3 z4 y1
    have G3 : Hid (GOk 71 w.heap.size W2 ⟨⟨x.t, ga, x.r, x.k, x.c⟩, C, cc⟩) := Lib.hid ⟨⟨HF.out.wf.t, ⟨by show _ ≤ ga; have := HGB.out; have := HGA0.out; omega, by show ga ≤ _; have := HGB.out; have := HGA0.out; omega⟩, HF.out.wf.r, HF.out.wf.k⟩, HF.out.s.later B3.out, fun hne a ha => by
     rcases HSF.out hne a ha with h1 | ⟨cs, T, fr, h1, h2⟩
     ·exact .inl h1
     ·exact .inl (by have := (Array.getElem?_eq_some_iff.1 h1).1; exact this)⟩
    obtain ⟨z0, z1, z2, z3, z4⟩ := F3.out.z
    have hO := G3.out
    have HFA := Lib.hid (fun j u hu => by
     have := (FAt.new W2 ⟨x.t, ga, x.r, x.k, x.c⟩ C cc 71 hO.wf hO.s).r j u hu
     rw [Nat.zero_add] at this
     rw [add_none, Nat.zero_add]
     exact this : ∀ j u, (fvL ⟨x.t, ga, x.r, x.k, x.c⟩ C cc)[j]? = some u → (W2.alloc (.cells #[.int .i64 x.t, .int .i64 ga, .int .i64 x.r, .int .i64 x.k, .slice C x.c.length cc] 71)).cell? ((⟨W2.heap.size, 0, none⟩ : Addr).add j) = some u)
    have HG2 := Lib.hid (HGA.out.later B3.out)
    clear hO
    go_wp2_with (refine wpList_append_own _ rfl _ _ 35 rfl w.heap.size 71 i0 _ 5 56 Tryz.underlying35 hi hz0 hz1 hz2 rfl (by decide) _ gs.length (gvC gs) rfl (HG2.out.row.alloc _) ⟨W2.heap.size, 0, none⟩ 1 1 (fvL ⟨x.t, ga, x.r, x.k, x.c⟩ C cc) rfl rfl HFA.out (fvL_one _ _ _) (by have := HGL.out; unfold maxLen; omega) (by have := HGL.out; omega) (by have := HBW.out.size; have := B3.out.size; simp; omega) ?_; intro v' w8 hown' hgrow hnil')
    go_roundw
    case rel =>
     have ba : Below W2.heap.size W2 (W2.alloc (.cells #[.int .i64 x.t, .int .i64 ga, .int .i64 x.r, .int .i64 x.k, .slice C x.c.length cc] 71)) := (Below.refl _ _).alloc (Nat.le_refl _) _
     have hG8 := (HG2.out.later ba).push (G3.out.kept fun b hl _ => ba.block b hl) hown' hgrow
     have hB2 := HBW.out.trans (B3.out.mono HBW.out.size)
     have hL8 : Below w.heap.size w w8 := (hB2.trans (ba.mono hB2.size)).grown hgrow (by have := hB2.size; simp; omega) (fun q hq => (HG2.out.row.lt q hq).1)
     refine ⟨k + 1, by omega, by go_num, Lib.hid ⟨⟨_, hG8, ?_⟩, hL8⟩⟩
     rw [take_one HX.out, List.map_append, List.map_append, HGS.out]
     simp [fewTS1, HCL.out, HGA0.out]
    case measure => simp [intOf]; omega
  ·obtain ⟨gs, hG, hgs⟩ := hI.out.own
   have HB := Lib.hid hI.out.bel
   have HG := Lib.hid hG
   have HGS := Lib.hid hgs
   clear hG hgs hI
   by_cases hkr : k < rs.length
   ·have g1 : decide ((k : Int) < (rs.length : Int)) = true := decide_eq_true (by omega)
    have g2 : decide ((k : Int) < 10) = false := decide_eq_false (by omega)
    have g2' : decide (k < 10) = false := decide_eq_false (by omega)
    have HK : Hid (k = 10) := Lib.hid (by omega)
    go_wp2
    go_ret
    refine ⟨_, gs, rfl, HG.out, ?_, HB.out⟩
    rw [HGS.out, fewTS, HK.out]
   ·have g1 : decide ((k : Int) < (rs.length : Int)) = false := decide_eq_false (by omega)
    have g1' : decide (k < rs.length) = false := decide_eq_false hkr
    have HK : Hid (rs.take 10 = rs.take k) := Lib.hid (by rw [List.take_of_length_le (by omega), List.take_of_length_le (by omega)])
    go_wp2
    go_ret
    refine ⟨_, gs, rfl, HG.out, ?_, HB.out⟩
    rw [HGS.out, fewTS, HK.out]
end
section
open Go.RowKit
structure TkS (x : Ts) : Prop where
 c0 : 1 ≤ x.c
 c1 : x.c ≤ 4
 t0 : 1 ≤ x.t
 t1 : x.t ≤ 20
 j0 : 0 ≤ x.j
 j1 : x.j ≤ 14
 q0 : 1 ≤ x.q
 q1 : x.q ≤ x.c
theorem tks_of {ss : List Ts} (h : SFs ss) (p : Int) : TkS (tk ss p) := by
 unfold tk
 rw [List.getD_eq_getElem?_getD]
 cases hp : ss[p.toNat]? with
 | none => exact ⟨by decide, by decide, by decide, by decide, by decide, by decide, by decide, by decide⟩
 | some x =>
   have s := h _ x hp
   have := s.c0; have := s.c1; have := s.d0; have := s.d1; have := s.j0; have := s.t0; have := s.t1; have := s.q0; have := s.q1
   exact ⟨by simp; omega, by simp; omega, by simp; omega, by simp; omega, by simp; omega, by simp; omega, by simp; omega, by simp; omega⟩
def Bs (js : List Fv) : Prop := ∀ j ∈ js, 0 ≤ j.a ∧ j.a ≤ js.length * 32
theorem Bs.snoc {ts : List Ts} (hs : SFs ts) {js : List Fv} (h : Bs js) {r : Fv} (hr : 0 ≤ r.a ∧ r.a < 12) : Bs (js ++ [decJ ts js r]) := by
 have hx := tks_of hs (r.t % (ts.length : Int))
 have h1 : 0 ≤ soonI ts js (r.t % (ts.length : Int)) ∧ soonI ts js (r.t % (ts.length : Int)) ≤ js.length * 32 + 20 := by
  unfold soonI
  cases hl : lastT js (r.t % (ts.length : Int)) with
  | none => simp only; omega
  | some j =>
    have := h j (lastT_mem hl).1
    have := hx.t0
    have := hx.t1
    simp only
    omega
 have e : r.a % 1048576 = r.a := Int.emod_eq_of_lt hr.1 (by omega)
 intro j hj
 rw [List.length_append, List.length_singleton]
 rcases List.mem_append.1 hj with hj | hj
 ·have := h j hj; omega
 ·rw [List.mem_singleton] at hj
  subst hj
  simp only [decJ, e]
  omega
theorem decF_bs {ts : List Ts} (hs : SFs ts) : ∀ (rs js : List Fv), (∀ r ∈ rs, 0 ≤ r.a ∧ r.a < 12) → Bs js → Bs (decF ts js rs)
 | [], js, _, h => h
 | r :: rs, js, hr, h => decF_bs hs rs _ (fun x hx => hr x (List.mem_cons_of_mem _ hx)) (h.snoc hs (hr r (by simp)))
structure Sm (ss : List Ts) (js : List Fv) (M n : Nat) : Prop where
 s1 : 1 ≤ ss.length
 sM : ss.length ≤ M
 M8 : M ≤ 8
 di : Dist ss
 sf : SFs ss
 pr : ∀ (i : Nat) (x : Ts), ss[i]? = some x → 1 ≤ x.p ∧ x.p ≤ 8
 lg : legS ss js = true
 le : js.length ≤ n
 bs : Bs js
theorem sm_of {ss : List Ts} {fs : List Fv} {M n : Nat} (s1 : 1 ≤ ss.length) (sM : ss.length ≤ M) (M8 : M ≤ 8) (di : Dist ss) (sf : SFs ss) (pr : ∀ (i : Nat) (x : Ts), ss[i]? = some x → 1 ≤ x.p ∧ x.p ≤ 8) (hf : fs.length ≤ n) (hn : n ≤ 10) (ha : ∀ r ∈ fs, 0 ≤ r.a ∧ r.a < 12) : Sm ss (decS ss fs) M n := by
 have hok := set_ok s1 (by omega) di sf pr
 have e : fs.take 4096 = fs := List.take_of_length_le (by omega)
 refine ⟨s1, sM, M8, di, sf, pr, decS_legal hok fs, ?_, ?_⟩
 ·rw [decS, e, decF_len]; simp; omega
 ·rw [decS, e]; exact decF_bs sf fs [] ha (fun j hj => by cases hj)
section
variable {ss : List Ts} {js : List Fv} {M n : Nat}
theorem Sm.ljs (h : Sm ss js M n) : LJs ss js := by
 obtain ⟨h1, h2, h3⟩ := legS_parts h.lg
 exact ljs_of (vs_of h1) js h3
theorem Sm.ar (h : Sm ss js M n) (hn : n ≤ 10) : ∀ j ∈ js, 0 ≤ j.a ∧ j.a ≤ 320 ∧ j.a ≤ j.r ∧ j.r ≤ 340 ∧ 1 ≤ j.k ∧ j.k ≤ 4 := fun j hj => by
 have h1 := h.bs j hj
 have h2 := h.ljs.all j hj
 have h3 := tks_of h.sf j.t
 have := h.le
 have := h2.r0; have := h2.r1; have := h2.k0; have := h2.k1; have := h3.j1; have := h3.c1
 omega
theorem sum_bd (f : Fv → Int) (b : Int) : ∀ l : List Fv, (∀ j ∈ l, f j ≤ b) → (l.map f).sum ≤ l.length * b
 | [], _ => by simp
 | a :: l, h => by
   have := sum_bd f b l (fun j hj => h j (List.mem_cons_of_mem _ hj))
   have := h a (by simp)
   rw [List.map_cons, List.sum_cons, List.length_cons, Int.natCast_add, Int.add_mul]
   omega
theorem Sm.tot (h : Sm ss js M n) (hn : n ≤ 10) : (js.map (·.k)).sum ≤ 40 := by
 have := sum_bd (·.k) 4 js (fun j hj => (h.ar hn j hj).2.2.2.2.2)
 have := h.le
 omega
end
end
end Go.Proofs.YthfkbbiaemmndaaGreatDoor
