/- Texts about the program, one after the other: DHi, DCon, DPst, RPure, QIn, RDiv, RDv2. -/
import Derived.WalkKit
import Derived.ProofKit
import Derived.Handy
import Derived.Lib.Hide
import Derived.Deep.MidRow
import Derived.Deep.QuietTactic
import Derived.BigQuiet
import Derived.Deep.RegionHeld3
import Derived.Laws.Externs
import Derived.RangeFuncBox
import Derived.Deep.CutBlock
import Derived.Deep.LoopGhost
import Derived.WalkMore
import Derived.OrdersIn
import Derived.Stop.RegionWithIn
import Derived.Deep.RegionLaw
import Derived.Laws.OwnMore
import Derived.Deep.CutRange
import Derived.Deep.Quiet
import Derived.Deep.RegionHeld
import Derived.Below
import Derived.LaidMore
import Derived.Laws.AppendOwn
import Derived.Laws.CopyOwn
import Derived.IntWalk
import Derived.OwnWalk
import Derived.BigRegion
import Derived.Deep.DrawnRows
import Derived.Deep.RegionHeldLaw
import Derived.LoopIn
import Derived.LoopNIn
import Derived.TacticsInMore
import Derived.OwnWalkIn
import Derived.RangeFuncNested
import Derived.RangeFuncBound
import Derived.RangeFuncCalls
import Derived.RangeFuncLeaves
import Derived.RangeFuncWrites
import Derived.Shelf.Abstract
import Derived.StillTailTactics
import Derived.Lib.SliceRun
import Derived.Deep.AppendSrc
import Derived.Deep.Upon
import Derived.Deep.DeepAppendWide
import Derived.Sort.LoopGhostIn
import Derived.Laws.ShiftsVarLaws
import Derived.Outline
import Derived.Laws.Bits128
import Derived.Deep.RegionWith
import Derived.Shelf.RegionOpen
import Derived.Laws.BytesString
import Derived.RangeFuncRecord
import Derived.MapKept
import Derived.Maps.AppendAt
import Derived.Laws.AppendOwnNone
import Derived.Shelf.Small.Bits
import Derived.Shelf.Small.Strs
import Derived.Shelf.Small.Wraps
import Derived.Shelf.Strconv.Itoa0
import Derived.Shelf.LaysM
import Derived.Shelf.Strconv.Clone
import Derived.Shelf.Strings.Search1
import Derived.Shelf.Bits.Mul64
import Derived.Ground.Names2Prog
import Derived.Shelf.Slices.SearchI
import Derived.ChangeOld
import Derived.OpenShut
import Derived.Test.YthfkbbiaemmndaaGreatDoorRows
import Derived.Test.YthfkbbiaemmndaaGreatDoorProg
import Derived.Laws.Bits64b
import Derived.Test.YthfkbbiaemmndaaGreatDoorG4
import Derived.Test.YthfkbbiaemmndaaGreatDoorG6
import Derived.Test.YthfkbbiaemmndaaGreatDoorG7
import Derived.Test.YthfkbbiaemmndaaGreatDoorG9
import Derived.Test.YthfkbbiaemmndaaGreatDoorG10
import Derived.Test.YthfkbbiaemmndaaGreatDoorG11
import Derived.Test.YthfkbbiaemmndaaGreatDoorG13
import Derived.Test.YthfkbbiaemmndaaGreatDoorG29
import Derived.Test.YthfkbbiaemmndaaGreatDoorG31
set_option linter.unusedVariables false
set_option linter.unusedSimpArgs false
set_option maxRecDepth 100000
set_option maxHeartbeats 16000000
namespace Go.Proofs.YthfkbbiaemmndaaGreatDoor
section
open Go.RowKit Go.Shelf
attribute [local go_sem] Oper.semAt_some
def hF (v s : Int) (x : Ts) : Int := satAdd s (satMul x.c (relSD x v))
theorem satMul_comm (a b : Int) : satMul a b = satMul b a := by unfold satMul mulB mulN; rw [Int.mul_comm]
theorem satMul_zero (a : Int) : satMul a 0 = 0 := by unfold satMul mulB mulN endN; simp
theorem hF_zero : ∀ (l : List Ts), l.foldl (hF 0) 0 = 0
 | [] => rfl
 | x :: l => by
   have e : hF 0 0 x = 0 := by
    unfold hF relSD
    rw [if_pos rfl, satMul_zero]
    rfl
   rw [List.foldl_cons, e, hF_zero l]
theorem higher_fold (p v : Int) (l : List Ts) : (l.filter (fun x => decide (x.p < p))).foldl (hF v) 0 = hiU p v l := by
 unfold hiU
 by_cases h0 : v = 0
 ·rw [if_pos h0, h0]
  exact hF_zero _
 ·rw [if_neg h0, List.foldl_filter]
  congr 1
  funext b x
  unfold hiUF hF relSD
  by_cases h : x.p < p
  ·rw [if_pos (by simpa using h), if_pos h, if_neg h0, satMul_comm]
  ·rw [if_neg (by simpa using h), if_neg h]
theorem hF_u {v s : Int} {x : Ts} (hx : TsOk x) (hv : U v) (hs : U s) : U (hF v s x) := by
 unfold hF
 exact satAdd_u hs.1 (satMul_u (by have := hx.c0; omega) (relS_u hx.rel hv).1).1
theorem hF_fold_u {v : Int} (hv : U v) : ∀ (l : List Ts) (s : Int), (∀ x ∈ l, TsOk x) → U s → U (l.foldl (hF v) s)
 | [], s, _, hs => hs
 | x :: l, s, h, hs => hF_fold_u hv l _ (fun y hy => h y (by simp [hy])) (hF_u (h x (by simp)) hv hs)
structure HiB (w : World) (m v : Int) (V : World) : Prop where
 s : Boxed V (w.heap.size + 1) 80 (.int .u64 m)
 v : Boxed V w.heap.size 80 (.int .u64 v)
 b : Below w.heap.size w V
theorem HiB.later {w V V' : World} {m v : Int} (h : HiB w m v V) (hb : Below V.heap.size V V') : HiB w m v V' := ⟨boxed_later2 h.s hb, boxed_later2 h.v hb, h.b.trans (hb.mono h.b.size)⟩
theorem HiB.own {w V V' : World} {m v : Int} {row : Option Nat} {D : Nat} (h : HiB w m v V) (hg : V.grownBy V' row) (hr : ∀ r, row = some r → D ≤ r ∧ ∃ o : Obj, V.heap[r]? = some o ∧ o.isCells = false) (hB : w.heap.size ≤ D) : HiB w m v V' :=
 ⟨boxed_kept h.s hg (fun r e => (hr r e).2), boxed_kept h.v hg (fun r e => (hr r e).2), h.b.grown hg h.b.size (fun k e => by have := (hr k e).1; omega)⟩
theorem HiB.set {w V : World} {m v : Int} (h : HiB w m v V) (u : Int) : HiB w u v (V.setCell ⟨w.heap.size + 1, 0, none⟩ (.int .u64 u)) :=
 ⟨Boxed.set _ h.s, Boxed.other h.v (by omega) _, h.b.setCell (p := ⟨w.heap.size + 1, 0, none⟩) (by show w.heap.size ≤ w.heap.size + 1; omega) _⟩
def HiC (bw Bt : Nat) (v : Int) (x : Ts) (W : World) : Prop :=
 W.cell? ⟨bw, 0, none⟩ = some (.int .u64 v) ∧ W.cell? ⟨Bt, 0, none⟩ = some (.string x.n) ∧ W.cell? ⟨Bt, 1, none⟩ = some (.int .i64 x.c) ∧ W.cell? ⟨Bt, 2, none⟩ = some (.int .i64 x.t) ∧ W.cell? ⟨Bt, 3, none⟩ = some (.int .i64 x.d) ∧ W.cell? ⟨Bt, 4, none⟩ = some (.int .i64 x.j) ∧ W.cell? ⟨Bt, 5, none⟩ = some (.int .i64 x.q) ∧ W.cell? ⟨Bt, 6, none⟩ = some (.int .i64 x.p)
theorem HiC.of {bw Bt : Nat} {v : Int} {x : Ts} {W : World} (h : Boxed W bw 80 (.int .u64 v)) (t : TAt W Bt 0 x) : HiC bw Bt v x W := by
 have c0 := t.c0; have c1 := t.c1; have c2 := t.c2; have c3 := t.c3; have c4 := t.c4; have c5 := t.c5; have c6 := t.c6
 exact ⟨h.cell, c0, by simpa using c1, by simpa using c2, by simpa using c3, by simpa using c4, by simpa using c5, by simpa using c6⟩
theorem TAt.aside {W : World} {B Bt : Nat} {x : Ts} (t : TAt W Bt 0 x) (u : Value) (h : Bt ≠ B) : TAt (W.setCell ⟨B, 0, none⟩ u) Bt 0 x := t.keep fun i => World.cell?_of_block (heap_setCell_other W ⟨B, 0, none⟩ Bt u h)
theorem higher_in (b o cap : Nat) (l : List Ts) (k : Nat) (y : Ts) (v : Int) (w : World) (hR : Row w (some ⟨b, o, none⟩) cap l) (hv : Vs l) (hy : l[k]? = some y) (hT : Tab w) (hu : U v) :
  Calls Tryz.prog 115 #[.slice (some ⟨b, o, none⟩) l.length cap, .int .i64 (k : Int), .int .u64 v] w fun e w' => e = .returned (.int .u64 (hiU y.p v l)) ∧ Below w.heap.size w w' := by
 have hk : k < l.length := (List.getElem?_eq_some_iff.1 hy).1
 have hvl := hv.n1
 have hbl : b < w.heap.size := by
  obtain ⟨b', o', x, e, _, _, h, _⟩ := hR.get hk
  cases e; exact h
 have htab := hT.pos
 have hb1 : Below w.heap.size w ((w.alloc (.cells #[.int .u64 v] 80)).alloc (.cells #[.int .u64 0] 80)) := ((Below.refl _ _).alloc (Nat.le_refl _) _).alloc (by simp) _
 obtain ⟨W1, hW1, X1, R1, T1, B1, s1⟩ : ∃ W1, (w.alloc (.cells #[.int .u64 v] 80)).alloc (.cells #[.int .u64 0] 80) = W1 ∧ HiB w 0 v W1 ∧ Row W1 (some ⟨b, o, none⟩) cap l ∧ Tab W1 ∧ Below w.heap.size w W1 ∧ W1.heap.size = w.heap.size + 2 :=
  ⟨_, rfl, ⟨by have := Boxed.new (w.alloc (.cells #[.int .u64 v] 80)) 80 (.int .u64 0); rwa [World.size_alloc] at this, Boxed.alloc (Boxed.new _ _ _) _, hb1⟩, hR.later hb1, hT.below hb1, hb1, by simp⟩
 have KL := Lib.hid (thigher_any (some ⟨b, o, none⟩) cap l (k : Int) W1 R1 ⟨by omega, by omega⟩)
 have KA := Lib.hid (fun W => at_any (some ⟨b, o, none⟩) l.length cap (higherF l (k : Int)) W)
 have HIN : Hid (∀ j, higherF l (k : Int) j = true → j < l.length) := Lib.hid (fun j hj => by
  rcases Nat.lt_or_ge j l.length with h | h
  ·exact h
  ·rw [higherF_far h] at hj; cases hj)
 have HLT := Lib.hid (higher_tks hv hy)
 have HF := Lib.hid (higher_fold y.p v l)
 have HOK : Hid (∀ x ∈ l.filter (fun x => decide (x.p < y.p)), TsOk x) := Lib.hid (fun x hx => hv.all x (List.mem_filter.1 hx).1)
 generalize l.filter (fun x => decide (x.p < y.p)) = L at *
 have HW1 := Lib.hid hW1
 rw [← HF.out]
 clear hR hT hb1 hv hy hvl HF hW1
 generalize higherF l (k : Int) = f at *
 refine (callsIn_wide (n := 5)).1 ?_
 refine callsIn_of_wp_marks Tryz.func115 rfl trivial ?_ rfl
 simp only [Tryz.ntmps115, List.size_toArray, List.length_cons, List.length_nil, Nat.reduceAdd, Nat.reduceSub, Array.replicate_succ, Array.replicate_zero, List.push_toArray, List.append_toArray, List.nil_append, List.cons_append]
 refine wpIn_wide.2 ?_
 go_upto_region 2 with (fail)
 rw [HW1.out]
 clear HW1
 go_upto_region 3 with (first
  | (go_at_call 36; (with_reducible refine KL.out.mono ?_); rintro e w2 ⟨rfl, h2⟩)
  | (go_at_call 134; (with_reducible refine (KA.out _).mono ?_); rintro e w3 ⟨rfl, rfl⟩)
  | fail)
 have X2 := X1.later h2
 have B2 := B1.trans (h2.mono B1.size)
 have R2 := R1.later h2
 have T2 := T1.below h2
 have s2 := h2.size
 obtain ⟨W3, hW3, S3, B3, s3⟩ := at_made R2 T2 HIN.out
 rw [hW3]
 have X3 := X2.later B3
 have B4 := B2.trans (B3.mono B2.size)
 clear hW3 X1 X2 R1 R2 T1 T2 B1 B2 h2 KL KA HIN
 have hws := B4.size
 have HP : Hid (AtP (P1 (w.heap.size + 1) 80) (some ⟨b, o, none⟩) w2.heap.size) := Lib.hid (p1_at (by decide) (by decide) (by omega) (by omega) (by rintro b' o' e; cases e; omega))
 have SQ := at1_seq (5 - 1) (by omega) (some ⟨b, o, none⟩) cap l f (w2.heap.size + 1) w2.heap.size (P1 (w.heap.size + 1) 80) W3 S3 HP.out
 rw [HLT.out] at SQ
 have SQ := Lib.hid SQ
 clear S3 HP HLT
 refine (wpIn_wide (n := 5)).1 ?_
 refine wpIn_named fun fr hfr => ?_
 refine rangeG (vals := tskV) (gf := 153) (lb := #[.pointer (some ⟨w2.heap.size + 1, 0, none⟩), .pointer (some ⟨w2.heap.size, 0, none⟩)]) (by rw [hfr]; rfl) (enters_of Tryz.func153 (by kernel_rfl) rfl)
  SQ.out (Below.refl _ _) (fun x => rfl)
  (fun pre V => HiB w (pre.foldl (hF v) 0) v V) (fun _ _ _ => False)
  (fun pre X Y row h hg hr => h.own hg hr hws) (fun c s X Y row h _ _ => h) X3
  (fun x a' V => ∃ Bt, TAt V Bt 0 x ∧ Bt ≠ w.heap.size + 1 ∧ a' = { tmps := (fr.tmps.setIfInBounds 14 (tsV x)).setIfInBounds 8 (.pointer (some ⟨Bt, 0, none⟩)), defers := [] })
  (fun x a' _ X Y row hs hg hr => hs.imp fun Bt h => ⟨h.1.keepG (keepG_grown hg (fun r e => (hr r e).2)), h.2⟩)
  ?assign ?body ?done ?stop
 case assign =>
  intro l2 pre x V K hi hK
  have hlt := hi.s.lt
  have hTn := TAt.new V x
  have hIn := hi.later ((Below.refl _ _).alloc (Nat.le_refl _) (.cells #[.string x.n, .int .i64 x.c, .int .i64 x.t, .int .i64 x.d, .int .i64 x.j, .int .i64 x.q, .int .i64 x.p] 26))
  subst hfr
  clear SQ
  gi_wp2
  exact hK _ _ ((KeepsOthers.alloc _ _).from _) (KeepG.below ((Below.refl _ _).alloc (Nat.le_refl _) _)) hIn ⟨V.heap.size, hTn, by omega, rfl⟩
 case body =>
  rintro l2 pre x a' V hi ⟨Bt, hT, hne, rfl⟩ ⟨r, hr⟩
  have hok := HOK.out x (by rw [hr]; simp)
  have hpu : U (pre.foldl (hF v) 0) := hF_fold_u hu pre 0 (fun z hz => HOK.out z (by rw [hr]; simp [hz])) ⟨by decide, by decide⟩
  have HFO : Hid ((pre ++ [x]).foldl (hF v) 0 = satSum (pre.foldl (hF v) 0) [satMul x.c (relSD x v)]) := Lib.hid (by rw [List.foldl_append]; rfl)
  generalize pre.foldl (hF v) 0 = m at *
  obtain ⟨c0', c1'⟩ : 1 ≤ x.c ∧ x.c ≤ 2147483647 := ⟨hok.c0, hok.c1⟩
  have e1 : IntKind.u64.wrap x.c = x.c := by rw [IntKind.wrap_u64]; omega
  have hru := relS_u hok.rel hu
  have hmu : U (satMul x.c (relSD x v)) := satMul_u (by omega) hru.1
  have KR := Lib.hid (fun W => rel_any x v W hok.rel hu)
  have KT := Lib.hid (fun W => times_any x.c (relSD x v) (by omega) (by omega) hru.1 hru.2 W)
  have KS := Lib.hid (fun W vv (hn : Nums W vv [satMul x.c (relSD x v)]) => sum_nums m vv [satMul x.c (relSD x v)] hpu.1 hpu.2 W hn (by intro n hn; obtain rfl := List.mem_singleton.1 hn; exact hmu))
  have eT : endN (mulB x.c (relSD x v)) (mulN x.c (relSD x v)) = satMul x.c (relSD x v) := rfl
  rw [eT] at KT
  have HN := Lib.hid (fun W => one_new W (satMul x.c (relSD x v)))
  have HI0 := Lib.hid (hi.later (below_drew V))
  have HT0 := Lib.hid (hT.later (below_drew V))
  generalize satMul x.c (relSD x v) = u at *
  generalize relSD x v = rl at *
  generalize satSum m [u] = m' at *
  have FIN : Hid (∀ (W : World), Hid (HiB w m v W) → Hid (Below V.heap.size V W) → KeepsFrom W3.heap.size V (W.setCell ⟨w.heap.size + 1, 0, none⟩ (.int .u64 m')) ∧ KeepG (P1 (w.heap.size + 1) 80) V (W.setCell ⟨w.heap.size + 1, 0, none⟩ (.int .u64 m')) ∧ HiB w ((pre ++ [x]).foldl (hF v) 0) v (W.setCell ⟨w.heap.size + 1, 0, none⟩ (.int .u64 m'))) := Lib.hid (fun W hi hb => by
   refine ⟨(keepsFrom_later hb.out).trans ((KeepsOthers.setCell _ _ _).from _), (KeepG.below hb.out).trans (p1_set hi.out.s _), ?_⟩
   rw [HFO.out]
   exact hi.out.set _)
  subst hfr
  clear SQ HOK hT hi hr hok hru hmu hpu eT hu
  dsimp only [List.setIfInBounds_toArray, List.set_cons_succ, List.set_cons_zero]
  gi_wp2
  have HC0 := HiC.of HI0.out.v HT0.out
  refine region_round_held (S := HiC w.heap.size Bt v x) (by rintro ⟨_, _, h⟩; exact h) (by kernel_rfl) (by kernel_rfl) HC0 (fun hHeld => ?_)
  clear HC0
  refine wpAnyH_take (i := 1) (oi := ⟨some 16, _, _, _, _, _⟩) (v := .pointer (some ⟨Bt, 1, none⟩)) rfl (by kernel_rfl) (by kernel_rfl) (by kernel_rfl) (fun _ _ _ h => h) (Or.inl ⟨by rfl, ?_⟩) (by assumption) ?_
  ·intro w0 hSw
   obtain ⟨sv, s0, s1, s2, s3, s4, s5, s6⟩ := hSw
   go_simp
   (try with_reducible rfl)
  (try simp only [Act.put, List.setIfInBounds_toArray, List.set_cons_zero, List.set_cons_succ])
  refine wpAnyH_take (i := 2) (oi := ⟨some 17, _, _, _, _, _⟩) (v := .int .i64 x.c) rfl (by kernel_rfl) (by kernel_rfl) (by kernel_rfl) (fun _ _ _ h => h) (Or.inl ⟨by rfl, ?_⟩) (by assumption) ?_
  ·intro w0 hSw
   obtain ⟨sv, s0, s1, s2, s3, s4, s5, s6⟩ := hSw
   go_simp
   (try with_reducible rfl)
  (try simp only [Act.put, List.setIfInBounds_toArray, List.set_cons_zero, List.set_cons_succ])
  refine wpAnyH_take (i := 3) (oi := ⟨some 18, _, _, _, _, _⟩) (v := .int .u64 x.c) rfl (by kernel_rfl) (by kernel_rfl) (by kernel_rfl) (fun _ _ _ h => h) (Or.inl ⟨by rfl, ?_⟩) (by assumption) ?_
  ·intro w0 hSw
   obtain ⟨sv, s0, s1, s2, s3, s4, s5, s6⟩ := hSw
   go_simp
   (try with_reducible rfl)
  (try simp only [Act.put, List.setIfInBounds_toArray, List.set_cons_zero, List.set_cons_succ])
  refine wpAnyH_take (i := 4) (oi := ⟨some 19, _, _, _, _, _⟩) (v := tsV x) rfl (by kernel_rfl) (by kernel_rfl) (by kernel_rfl) (fun _ _ _ h => h) (Or.inl ⟨by rfl, ?_⟩) (by assumption) ?_
  ·intro w0 hSw
   obtain ⟨sv, s0, s1, s2, s3, s4, s5, s6⟩ := hSw
   go_simp
   (try with_reducible rfl)
  (try simp only [Act.put, List.setIfInBounds_toArray, List.set_cons_zero, List.set_cons_succ])
  refine wpAnyH_take (i := 5) (oi := ⟨some 20, _, _, _, _, _⟩) (v := .int .u64 v) rfl (by kernel_rfl) (by kernel_rfl) (by kernel_rfl) (fun _ _ _ h => h) (Or.inl ⟨by rfl, ?_⟩) (by assumption) ?_
  ·intro w0 hSw
   obtain ⟨sv, s0, s1, s2, s3, s4, s5, s6⟩ := hSw
   go_simp
   (try with_reducible rfl)
  (try simp only [Act.put, List.setIfInBounds_toArray, List.set_cons_zero, List.set_cons_succ])
  have HI := HI0
  have HT := HT0
  have HB := Lib.hid (below_drew V)
  refine wpAnyH_ready (rs := [0, 6]) (by kernel_rfl) (by simp) ?_
  refine AllReadyH.cons (o := ⟨some 15, _, _, _, _, _⟩) rfl (fun K hK => ?_) (AllReadyH.cons (o := ⟨some 21, _, _, _, _, _⟩) rfl (fun K hK => ?_) AllReadyH.nil)
  ·have HI := HI
   have sc := HI.out.s.cell
   go_simp
   refine hK.out _ _ (by assumption) (fun hHeld => ?_)
   clear hK K
   (try simp only [Act.put, List.setIfInBounds_toArray, List.set_cons_zero, List.set_cons_succ])
   refine wpAnyH_ready (rs := [6]) (by kernel_rfl) (by simp) ?_
   refine AllReadyH.cons (o := ⟨some 21, _, _, _, _, _⟩) rfl (fun K hK => ?_) AllReadyH.nil
   go_simp
   go_at_call 136
   refine (KR.out _).mono ?_
   rintro e w5 ⟨rfl, h5⟩
   have HI := Lib.hid (HI.out.later h5)
   have HT := Lib.hid (HT.out.later h5)
   have HB := Lib.hid (Below.trans (below_drew V) h5)
   clear h5
   refine hK.out _ _ (HiC.of HI.out.v HT.out) (fun hHeld => ?_)
   clear hK K
   (try simp only [Act.put, List.setIfInBounds_toArray, List.set_cons_zero, List.set_cons_succ])
   refine wpAnyH_ready (rs := [7]) (by kernel_rfl) (by simp) ?_
   refine AllReadyH.cons (o := ⟨some 22, _, _, _, _, _⟩) rfl (fun K hK => ?_) AllReadyH.nil
   go_simp
   go_at_call 135
   refine (KT.out _).mono ?_
   rintro e w6 ⟨rfl, rfl⟩
   refine hK.out _ _ (by assumption) (fun hHeld => ?_)
   clear hK K
   (try simp only [Act.put, List.setIfInBounds_toArray, List.set_cons_zero, List.set_cons_succ])
   refine wpAnyH_ready (rs := [8]) (by kernel_rfl) (by simp) ?_
   refine AllReadyH.cons (o := ⟨some 23, _, _, _, _, _⟩) rfl (fun K hK => ?_) AllReadyH.nil
   go_simp
   have HI := Lib.hid (HI.out.later ((Below.refl _ _).alloc (Nat.le_refl _) (.cells #[.int .u64 u] 80)))
   have HT := Lib.hid (HT.out.later ((Below.refl _ _).alloc (Nat.le_refl _) (.cells #[.int .u64 u] 80)))
   have HB := Lib.hid (Below.alloc HB.out (Below.size HB.out) (.cells #[.int .u64 u] 80))
   refine hK.out _ _ (HiC.of HI.out.v HT.out) (fun hHeld => ?_)
   clear hK K
   (try simp only [Act.put, List.setIfInBounds_toArray, List.set_cons_zero, List.set_cons_succ])
   refine wpAnyH_ready (rs := [9]) (by kernel_rfl) (by simp) ?_
   refine AllReadyH.cons (o := ⟨some 24, _, _, _, _, _⟩) rfl (fun K hK => ?_) AllReadyH.nil
   go_simp
   go_at_call 113
   refine (KS.out _ _ (HN.out _)).mono ?_
   rintro e w7 ⟨rfl, rfl⟩
   refine hK.out _ _ (by assumption) (fun hHeld => ?_)
   clear hK K
   (try simp only [Act.put, List.setIfInBounds_toArray, List.set_cons_zero, List.set_cons_succ])
   refine wpAnyH_ready (rs := [10]) (by kernel_rfl) (by simp) ?_
   refine AllReadyH.cons (o := ⟨none, _, _, _, _, _⟩) rfl (fun K hK => ?_) AllReadyH.nil
   have sf := HI.out.s.frozen
   have sc := HI.out.s.cell
   go_simp
   refine hK.out _ _ (HiC.of (HI.out.set m').v (HT.out.aside _ hne)) (fun hHeld => ?_)
   clear hK K
   (try simp only [Act.put, List.setIfInBounds_toArray, List.set_cons_zero, List.set_cons_succ])
   refine wpAnyH_done (by kernel_rfl) ?_ _
   exact FIN.out _ HI HB
  ·have HI := HI
   go_simp
   go_at_call 136
   refine (KR.out _).mono ?_
   rintro e w5 ⟨rfl, h5⟩
   have HI := Lib.hid (HI.out.later h5)
   have HT := Lib.hid (HT.out.later h5)
   have HB := Lib.hid (Below.trans (below_drew V) h5)
   clear h5
   refine hK.out _ _ (HiC.of HI.out.v HT.out) (fun hHeld => ?_)
   clear hK K
   (try simp only [Act.put, List.setIfInBounds_toArray, List.set_cons_zero, List.set_cons_succ])
   refine wpAnyH_ready (rs := [0, 7]) (by kernel_rfl) (by simp) ?_
   refine AllReadyH.cons (o := ⟨some 15, _, _, _, _, _⟩) rfl (fun K hK => ?_) (AllReadyH.cons (o := ⟨some 22, _, _, _, _, _⟩) rfl (fun K hK => ?_) AllReadyH.nil)
   ·have HI := HI
    have sc := HI.out.s.cell
    go_simp
    refine hK.out _ _ (by assumption) (fun hHeld => ?_)
    clear hK K
    (try simp only [Act.put, List.setIfInBounds_toArray, List.set_cons_zero, List.set_cons_succ])
    refine wpAnyH_ready (rs := [7]) (by kernel_rfl) (by simp) ?_
    refine AllReadyH.cons (o := ⟨some 22, _, _, _, _, _⟩) rfl (fun K hK => ?_) AllReadyH.nil
    go_simp
    go_at_call 135
    refine (KT.out _).mono ?_
    rintro e w6 ⟨rfl, rfl⟩
    refine hK.out _ _ (by assumption) (fun hHeld => ?_)
    clear hK K
    (try simp only [Act.put, List.setIfInBounds_toArray, List.set_cons_zero, List.set_cons_succ])
    refine wpAnyH_ready (rs := [8]) (by kernel_rfl) (by simp) ?_
    refine AllReadyH.cons (o := ⟨some 23, _, _, _, _, _⟩) rfl (fun K hK => ?_) AllReadyH.nil
    go_simp
    have HI := Lib.hid (HI.out.later ((Below.refl _ _).alloc (Nat.le_refl _) (.cells #[.int .u64 u] 80)))
    have HT := Lib.hid (HT.out.later ((Below.refl _ _).alloc (Nat.le_refl _) (.cells #[.int .u64 u] 80)))
    have HB := Lib.hid (Below.alloc HB.out (Below.size HB.out) (.cells #[.int .u64 u] 80))
    refine hK.out _ _ (HiC.of HI.out.v HT.out) (fun hHeld => ?_)
    clear hK K
    (try simp only [Act.put, List.setIfInBounds_toArray, List.set_cons_zero, List.set_cons_succ])
    refine wpAnyH_ready (rs := [9]) (by kernel_rfl) (by simp) ?_
    refine AllReadyH.cons (o := ⟨some 24, _, _, _, _, _⟩) rfl (fun K hK => ?_) AllReadyH.nil
    go_simp
    go_at_call 113
    refine (KS.out _ _ (HN.out _)).mono ?_
    rintro e w7 ⟨rfl, rfl⟩
    refine hK.out _ _ (by assumption) (fun hHeld => ?_)
    clear hK K
    (try simp only [Act.put, List.setIfInBounds_toArray, List.set_cons_zero, List.set_cons_succ])
    refine wpAnyH_ready (rs := [10]) (by kernel_rfl) (by simp) ?_
    refine AllReadyH.cons (o := ⟨none, _, _, _, _, _⟩) rfl (fun K hK => ?_) AllReadyH.nil
    have sf := HI.out.s.frozen
    have sc := HI.out.s.cell
    go_simp
    refine hK.out _ _ (HiC.of (HI.out.set m').v (HT.out.aside _ hne)) (fun hHeld => ?_)
    clear hK K
    (try simp only [Act.put, List.setIfInBounds_toArray, List.set_cons_zero, List.set_cons_succ])
    refine wpAnyH_done (by kernel_rfl) ?_ _
    exact FIN.out _ HI HB
   ·have HI := HI
    go_simp
    go_at_call 135
    refine (KT.out _).mono ?_
    rintro e w6 ⟨rfl, rfl⟩
    refine hK.out _ _ (by assumption) (fun hHeld => ?_)
    clear hK K
    (try simp only [Act.put, List.setIfInBounds_toArray, List.set_cons_zero, List.set_cons_succ])
    refine wpAnyH_ready (rs := [0, 8]) (by kernel_rfl) (by simp) ?_
    refine AllReadyH.cons (o := ⟨some 15, _, _, _, _, _⟩) rfl (fun K hK => ?_) (AllReadyH.cons (o := ⟨some 23, _, _, _, _, _⟩) rfl (fun K hK => ?_) AllReadyH.nil)
    ·have HI := HI
     have sc := HI.out.s.cell
     go_simp
     refine hK.out _ _ (by assumption) (fun hHeld => ?_)
     clear hK K
     (try simp only [Act.put, List.setIfInBounds_toArray, List.set_cons_zero, List.set_cons_succ])
     refine wpAnyH_ready (rs := [8]) (by kernel_rfl) (by simp) ?_
     refine AllReadyH.cons (o := ⟨some 23, _, _, _, _, _⟩) rfl (fun K hK => ?_) AllReadyH.nil
     go_simp
     have HI := Lib.hid (HI.out.later ((Below.refl _ _).alloc (Nat.le_refl _) (.cells #[.int .u64 u] 80)))
     have HT := Lib.hid (HT.out.later ((Below.refl _ _).alloc (Nat.le_refl _) (.cells #[.int .u64 u] 80)))
     have HB := Lib.hid (Below.alloc HB.out (Below.size HB.out) (.cells #[.int .u64 u] 80))
     refine hK.out _ _ (HiC.of HI.out.v HT.out) (fun hHeld => ?_)
     clear hK K
     (try simp only [Act.put, List.setIfInBounds_toArray, List.set_cons_zero, List.set_cons_succ])
     refine wpAnyH_ready (rs := [9]) (by kernel_rfl) (by simp) ?_
     refine AllReadyH.cons (o := ⟨some 24, _, _, _, _, _⟩) rfl (fun K hK => ?_) AllReadyH.nil
     go_simp
     go_at_call 113
     refine (KS.out _ _ (HN.out _)).mono ?_
     rintro e w7 ⟨rfl, rfl⟩
     refine hK.out _ _ (by assumption) (fun hHeld => ?_)
     clear hK K
     (try simp only [Act.put, List.setIfInBounds_toArray, List.set_cons_zero, List.set_cons_succ])
     refine wpAnyH_ready (rs := [10]) (by kernel_rfl) (by simp) ?_
     refine AllReadyH.cons (o := ⟨none, _, _, _, _, _⟩) rfl (fun K hK => ?_) AllReadyH.nil
     have sf := HI.out.s.frozen
     have sc := HI.out.s.cell
     go_simp
     refine hK.out _ _ (HiC.of (HI.out.set m').v (HT.out.aside _ hne)) (fun hHeld => ?_)
     clear hK K
     (try simp only [Act.put, List.setIfInBounds_toArray, List.set_cons_zero, List.set_cons_succ])
     refine wpAnyH_done (by kernel_rfl) ?_ _
     exact FIN.out _ HI HB
    ·have HI := HI
     go_simp
     have HI := Lib.hid (HI.out.later ((Below.refl _ _).alloc (Nat.le_refl _) (.cells #[.int .u64 u] 80)))
     have HT := Lib.hid (HT.out.later ((Below.refl _ _).alloc (Nat.le_refl _) (.cells #[.int .u64 u] 80)))
     have HB := Lib.hid (Below.alloc HB.out (Below.size HB.out) (.cells #[.int .u64 u] 80))
     refine hK.out _ _ (HiC.of HI.out.v HT.out) (fun hHeld => ?_)
     clear hK K
     (try simp only [Act.put, List.setIfInBounds_toArray, List.set_cons_zero, List.set_cons_succ])
     refine wpAnyH_ready (rs := [0]) (by kernel_rfl) (by simp) ?_
     refine AllReadyH.cons (o := ⟨some 15, _, _, _, _, _⟩) rfl (fun K hK => ?_) AllReadyH.nil
     have sc := HI.out.s.cell
     go_simp
     refine hK.out _ _ (by assumption) (fun hHeld => ?_)
     clear hK K
     (try simp only [Act.put, List.setIfInBounds_toArray, List.set_cons_zero, List.set_cons_succ])
     refine wpAnyH_ready (rs := [9]) (by kernel_rfl) (by simp) ?_
     refine AllReadyH.cons (o := ⟨some 24, _, _, _, _, _⟩) rfl (fun K hK => ?_) AllReadyH.nil
     go_simp
     go_at_call 113
     refine (KS.out _ _ (HN.out _)).mono ?_
     rintro e w7 ⟨rfl, rfl⟩
     refine hK.out _ _ (by assumption) (fun hHeld => ?_)
     clear hK K
     (try simp only [Act.put, List.setIfInBounds_toArray, List.set_cons_zero, List.set_cons_succ])
     refine wpAnyH_ready (rs := [10]) (by kernel_rfl) (by simp) ?_
     refine AllReadyH.cons (o := ⟨none, _, _, _, _, _⟩) rfl (fun K hK => ?_) AllReadyH.nil
     have sf := HI.out.s.frozen
     have sc := HI.out.s.cell
     go_simp
     refine hK.out _ _ (HiC.of (HI.out.set m').v (HT.out.aside _ hne)) (fun hHeld => ?_)
     clear hK K
     (try simp only [Act.put, List.setIfInBounds_toArray, List.set_cons_zero, List.set_cons_succ])
     refine wpAnyH_done (by kernel_rfl) ?_ _
     exact FIN.out _ HI HB
 case done =>
  rintro D V hD hi hK
  have cb := hi.s.cell
  have HB := Lib.hid hi.b
  subst hfr
  clear SQ HOK hi
  go_wp2
  refine ⟨by simp, .inl ⟨_, _, rfl, run_takeDeferred hK, ?_⟩⟩
  exact ⟨.int .u64 (L.foldl (hF v) 0), by simp [results, Tryz.f115, go_sem], rfl, HB.out.trans (belowK_b (w := w) (Nat.le_refl _) V D _ _ (by omega) hK rfl rfl)⟩
 case stop =>
  rintro D c pre x V hD hr h hK
  exact h.elim
end
section
open Go.RowKit
theorem two_nums (W V : World) (a b : Int) (hc : ∀ i u, V.cell? ⟨W.heap.size, i, none⟩ = some u ↔ (#[Value.int .u64 a, .int .u64 b] : Array Value)[i]? = some u) : Nums V (.slice (some ⟨W.heap.size, 0, none⟩) 2 2) [a, b] := by
 refine .inr ⟨⟨W.heap.size, 0, none⟩, 2, rfl, by simp, by unfold maxLen; omega, fun i hi => ?_⟩
 rw [add_none, Nat.zero_add]
 match i, hi with
 | 0, _ => exact (hc 0 _).2 rfl
 | 1, _ => exact (hc 1 _).2 rfl
theorem two_new (W : World) (a b : Int) : Nums (W.alloc (.cells #[.int .u64 a, .int .u64 b] 80)) (.slice (some ⟨W.heap.size, 0, none⟩) 2 2) [a, b] :=
 two_nums W _ a b fun i u => by rw [cell_of_row _ _ i _ _ _ (heap_alloc_new W _)]
theorem satSum_need {c b h : Int} (hc : 0 ≤ c) (hc1 : c ≤ 18446744073709551615) : satSum 0 [c, b, h] = satSum c [b, h] := satSum_head c [b, h] hc1
theorem need_any (A : Option Addr) (cap : Nat) (l : List Ts) (i v : Int) (w : World) (hR : Row w A cap l) (hi : in64 i) (hv0 : U v) (hT : Tab w) :
  Calls Tryz.prog 88 #[.slice A l.length cap, .int .i64 i, .int .u64 v] w fun e w' => e = .returned (.int .u64 (needI l i v)) ∧ Below w.heap.size w w' := by
 have K := Lib.hid (dmay_any A cap l i w hR hi)
 cases hb : isB l i
 ·rw [hb] at K
  have e : needI l i v = 0 := by unfold needI; rw [hb]; rfl
  rw [e]
  clear hb e hR
  generalize l.length = N at *
  go_enter Tryz.func88, Tryz.ntmps88
  go_wp2_with (go_at_call 112; (with_reducible refine K.out.mono ?_); rintro e w1 ⟨rfl, h⟩)
  go_ret
  exact ⟨rfl, h⟩
 ·rw [hb] at K
  have hv := isB_vs hb
  obtain ⟨ki, y, rfl, hki, hy⟩ := isB_get hb
  have hok := hv.all y (List.mem_of_getElem? hy)
  have y0 : 0 ≤ y.c := by have := hok.c0; omega
  have y1 := hok.c1
  have hbb := blockI_bd l ki
  have hhu := higherI_u l ki v hv0
  have hE : needI l (ki : Int) v = satSum y.c [blockI l ki, higherI l ki v] := by unfold needI; rw [hb, if_pos rfl, (pOf_get hy).2, satSum_need y0 (by omega)]
  have hB : blockI l (ki : Int) = blkU y.p l := by unfold blockI; rw [hb, if_pos rfl, (pOf_get hy).1]
  have hH : higherI l (ki : Int) v = hiU y.p v l := by unfold higherI; rw [hb, if_pos rfl, (pOf_get hy).1]
  rw [hE]
  obtain ⟨b, o, x, rfl, hx, -, hbl, hTx⟩ := hR.get hki
  obtain rfl : y = x := by have := hy.symm.trans hx; simpa using this
  have KB := Lib.hid (fun W (h : Lt w W) => block_in b o cap l ki y W (hR.later h) hv hy (hT.below h))
  have KH := Lib.hid (fun W (h : Lt w W) => higher_in b o cap l ki y v W (hR.later h) hv hy (hT.below h) hv0)
  rw [← hB] at KB
  rw [← hH] at KH
  have hw1 : IntKind.u64.wrap y.c = y.c := by rw [IntKind.wrap_u64]; omega
  have hw2 : IntKind.u64.wrap (blockI l ki) = blockI l ki := by rw [IntKind.wrap_u64]; omega
  have KS := Lib.hid (fun V u (hu : Nums V u [blockI l ki, higherI l ki v]) => sum_nums y.c u [blockI l ki, higherI l ki v] y0 (by omega) V hu (by
   intro n hn
   simp only [List.mem_cons, List.not_mem_nil, or_false] at hn
   rcases hn with rfl | rfl
   ·omega
   ·exact hhu))
  have HN2 := Lib.hid (fun W => two_new W (blockI l ki) (higherI l ki v))
  have HTX := Lib.hid hTx
  have HLE := Lib.hid (show l.length ≤ cap ∧ cap ≤ 9223372036854775807 from ⟨hR.le, hR.mx⟩)
  generalize satSum y.c [blockI l ki, higherI l ki v] = r at *
  generalize blockI l ki = bk at *
  generalize higherI l ki v = hh at *
  clear hb hE hB hH hR hv hy hx hT hok hhu hTx
  generalize l.length = N at *
  obtain ⟨hle, hmx⟩ := HLE.out
  have hI0 : (0 : Int) ≤ (ki : Int) := by omega
  have hI1 : (ki : Int) < ((N : Nat) : Int) := by omega
  go_enter Tryz.func88, Tryz.ntmps88
  go_upto_region 3 with (go_at_call 112; (with_reducible refine K.out.mono ?_); rintro e w1 ⟨rfl, h⟩; have HL := Lib.hid (show Lt w w1 from h); have HT := Lib.hid (HTX.out.later h); have c1 := HT.out.c1; clear h)
  go_region_law (first
   | (go_simp; go_at_call 114; (with_reducible refine (KB.out _ (by first | exact HL.out | exact lt_step _ _ HL.out (below_drew _))).mono ?_); rintro e w2 ⟨rfl, h⟩; have HL2 := Lib.hid (lt_step _ _ (show Lt w _ by first | exact HL.out | exact lt_step _ _ HL.out (below_drew _)) h); have HT2 := Lib.hid ((HT.out.later (show Below w1.heap.size w1 _ by first | exact Below.refl _ _ | exact below_drew w1)).later h); have c1 := HT2.out.c1; clear h)
   | (go_simp; go_at_call 115; (with_reducible refine (KH.out _ (by first | exact HL2.out | exact lt_step _ _ HL2.out (below_drew _))).mono ?_); rintro e w3 ⟨rfl, h⟩; have HL3 := Lib.hid (lt_step _ _ (show Lt w _ by first | exact HL2.out | exact lt_step _ _ HL2.out (below_drew _)) h); have HT3 := Lib.hid ((HT2.out.later (show Below w2.heap.size w2 _ by first | exact Below.refl _ _ | exact below_drew w2)).later h); have c1 := HT3.out.c1; have c1a := (HT3.out.alloc (.cells #[.int .u64 bk, .int .u64 hh] 80)).c1; clear h)
   | (go_simp; go_at_call 113; (with_reducible refine (KS.out _ _ (HN2.out _)).mono ?_); rintro e w4 ⟨rfl, rfl⟩)
   | fail)
  all_goals
   go_wp2
   go_ret
   exact ⟨rfl, lt_step _ _ HL3.out ((Below.refl _ _).alloc (Nat.le_refl _) _)⟩
end
section
open Go.RowKit
theorem ceilI_bds {a t : Int} (ht : 1 ≤ t) : a ≤ ceilI a t * t ∧ ceilI a t * t ≤ a + t - 1 := by
 unfold ceilI
 have e := Int.emod_add_mul_ediv (a + t - 1) t
 have r0 := Int.emod_nonneg (a + t - 1) (show t ≠ 0 by omega)
 have r1 := Int.emod_lt_of_pos (a + t - 1) (show 0 < t by omega)
 rw [Int.mul_comm] at e
 omega
end
section
section
variable {N : Int → Int}
def eachF (N : Int → Int) (M : Int) : Nat → Int → List Int
 | 0, w => [w]
 | f + 1, w => if w > M ∨ N w = w then [w] else w :: eachF N M f (N w)
end
end
section
open Go.RowKit
structure Wv (v : World) where
 W : World
 lt : Lt v W
instance (v : World) : Nonempty (Wv v) := ⟨⟨v, Below.refl _ _⟩⟩
theorem wp_region_in {P : Program} {v0 : World} {id : Nat} {Q : Exit → Act → World → Prop} {a : Act} {w : World} {l : List Oper} (hw : Lt v0 w) (hm : P.follows .mixedOrders = true) (hB : Region.lexB .any l.toArray = true)
  (h : wpQuiet P l.toArray (fun W' => ∃ i : Wv v0, W' = i.W) (fun a' => ∀ W', (∃ i : Wv v0, W' = i.W) → Q .normal a' W') l a) : (Code.region id l.toArray true).wp P Q a w :=
 wp_region_quiet (C := fun W' => ∃ i : Wv v0, W' = i.W) hm hB ⟨⟨w.drew, lt_step _ _ hw (below_drew _)⟩, rfl⟩ (by simpa using h)
theorem calls_in {P : Program} {v0 : World} {f : FuncId} {args : Array Value} {i : Wv v0} {v : Value} (h : Calls P f args i.W fun e w' => e = .returned v ∧ Below i.W.heap.size i.W w') :
  Calls P f args i.W fun e w'' => e = .returned v ∧ ∃ j : Wv v0, w'' = j.W :=
 h.mono fun _ _ ⟨he, hb⟩ => ⟨he, ⟨⟨_, lt_step _ _ i.lt hb⟩, rfl⟩⟩
end
section
open Go.RowKit
structure Dig (y a b c d q r : Nat) : Prop where
 sum : q * a + r = c
 low : c * 4294967296 + d < (q + 1) * y
 top : q ≤ 4294967297
structure DigN (y a b c d : Nat) : Prop where
 ye : y = a * 4294967296 + b
 a0 : 2147483648 ≤ a
 a1 : a < 4294967296
 b1 : b < 4294967296
 c1 : c < y
 d1 : d < 4294967296
theorem dig_start {y a b c d : Nat} (h : DigN y a b c d) : Dig y a b c d (c / a) (c % a) ∧ c % a < 4294967296 := by
 have ha := h.a0; have ha1 := h.a1
 have hy := h.ye
 have hc := h.c1
 have hb := h.b1
 have hd := h.d1
 have e1 := Nat.div_add_mod c a
 have e2 := Nat.mod_lt c (show 0 < a by omega)
 have e3 : c / a ≤ 4294967297 := by
  rcases Nat.lt_or_ge 4294967297 (c / a) with h9 | h9
  ·have := Nat.mul_le_mul_right a (show 4294967298 ≤ c / a from h9)
   rw [Nat.mul_comm (c / a)] at this
   omega
  ·exact h9
 refine ⟨⟨by rw [Nat.mul_comm]; exact e1, ?_, e3⟩, by omega⟩
 have e4 : c + 1 ≤ (c / a + 1) * a := by rw [Nat.add_mul, Nat.one_mul, Nat.mul_comm]; omega
 have e5 := Nat.mul_le_mul_right 4294967296 e4
 have e6 : (c / a + 1) * y = (c / a + 1) * a * 4294967296 + (c / a + 1) * b := by rw [hy, Nat.mul_add, Nat.mul_assoc]
 omega
theorem dig_big {y a b c d q r : Nat} (h : DigN y a b c d) (g : Dig y a b c d q r) (hq : 4294967296 ≤ q ∨ 4294967296 * r + d < q * b) : 1 ≤ q ∧ c * 4294967296 + d < q * y := by
 have hy := h.ye
 have hc := h.c1
 have hd := h.d1
 rcases hq with hq | hq
 ·have e := Nat.mul_le_mul_right y hq
  omega
 ·have e1 : q * y = q * a * 4294967296 + q * b := by rw [hy, Nat.mul_add, Nat.mul_assoc]
  have e2 := g.sum
  rcases Nat.eq_zero_or_pos q with h0 | h0
  ·subst h0; omega
  ·omega
theorem dig_down {y a b c d q r : Nat} (h : DigN y a b c d) (g : Dig y a b c d q r) (hq : 4294967296 ≤ q ∨ 4294967296 * r + d < q * b) : Dig y a b c d (q - 1) (r + a) := by
 obtain ⟨h1, h2⟩ := dig_big h g hq
 obtain ⟨p, rfl⟩ : ∃ p, q = p + 1 := ⟨q - 1, by omega⟩
 have e := g.sum
 rw [Nat.add_mul, Nat.one_mul] at e
 exact ⟨by rw [Nat.add_sub_cancel]; omega, by rw [Nat.add_sub_cancel]; exact h2, by have := g.top; omega⟩
theorem dig_end {y a b c d q r : Nat} (h : DigN y a b c d) (g : Dig y a b c d q r) (hq : q * b ≤ 4294967296 * r + d) : q * y ≤ c * 4294967296 + d := by
 have e1 : q * y = q * a * 4294967296 + q * b := by rw [h.ye, Nat.mul_add, Nat.mul_assoc]
 have e2 := g.sum
 omega
theorem dig_far {y a b c d q r : Nat} (h : DigN y a b c d) (g : Dig y a b c d q r) (h0 : q ≤ 4294967296) (hr : 4294967296 ≤ r) : q * y ≤ c * 4294967296 + d := by
 refine dig_end h g ?_
 have hb := h.b1
 have e := Nat.mul_le_mul h0 (show b ≤ 4294967295 by omega)
 omega
theorem dig_qb {y a b c d q : Nat} (h : DigN y a b c d) (hq : q < 4294967296) : q * b < 18446744073709551616 := by
 have hb := h.b1
 have e := Nat.mul_le_mul (show q ≤ 4294967295 by omega) (show b ≤ 4294967295 by omega)
 omega
theorem bitLen_bds : ∀ (f x : Nat), x ≠ 0 → x < 2 ^ f → f ≤ 64 → 1 ≤ Lib.bitLen x ∧ Lib.bitLen x ≤ f ∧ x < 2 ^ Lib.bitLen x ∧ 2 ^ (Lib.bitLen x - 1) ≤ x
 | 0, x, h0, h, _ => by rw [Nat.pow_zero] at h; omega
 | f + 1, x, h0, h, hf => by
   have hx : x < 2 ^ 64 := Nat.lt_of_lt_of_le h (Nat.pow_le_pow_right (by omega) hf)
   have e := Lib.bitLen_half x h0 hx
   rw [Nat.pow_succ] at h
   by_cases h2 : x / 2 = 0
   ·have : x = 1 := by omega
    subst this
    have e1 : Lib.bitLen 1 = 1 := by decide
    rw [e1]
    exact ⟨by omega, by omega, by decide, by decide⟩
   ·obtain ⟨a1, a2, a3, a4⟩ := bitLen_bds f (x / 2) h2 (by omega) (by omega)
    obtain ⟨n, hn⟩ : ∃ n, Lib.bitLen (x / 2) = n + 1 := ⟨Lib.bitLen (x / 2) - 1, by omega⟩
    rw [hn, Nat.pow_succ] at a3
    rw [hn, Nat.add_sub_cancel] at a4
    rw [e, hn]
    refine ⟨by omega, by omega, ?_, ?_⟩
    ·rw [show 1 + (n + 1) = n + 1 + 1 by omega, Nat.pow_succ, Nat.pow_succ]; omega
    ·rw [show 1 + (n + 1) - 1 = n + 1 by omega, Nat.pow_succ]; omega
theorem lead (y : Nat) (h0 : y ≠ 0) (h1 : y < 18446744073709551616) : Lib.bitLen y ≤ 64 ∧ 9223372036854775808 ≤ y * 2 ^ (64 - Lib.bitLen y) ∧ y * 2 ^ (64 - Lib.bitLen y) < 18446744073709551616 := by
 obtain ⟨a1, a2, a3, a4⟩ := bitLen_bds 64 y h0 h1 (Nat.le_refl _)
 refine ⟨a2, ?_, ?_⟩
 ·have := Nat.mul_le_mul_right (2 ^ (64 - Lib.bitLen y)) a4
  rw [← Nat.pow_add, show Lib.bitLen y - 1 + (64 - Lib.bitLen y) = 63 by omega] at this
  exact this
 ·have := Nat.mul_lt_mul_of_pos_right a3 (Nat.two_pow_pos (64 - Lib.bitLen y))
  rw [← Nat.pow_add, show Lib.bitLen y + (64 - Lib.bitLen y) = 64 by omega] at this
  exact this
end
section
open Go.RowKit
theorem u64_of {z : Int} {n : Nat} (h : z % 18446744073709551616 = (n : Int)) : IntKind.u64.wrap z = (n : Int) := by rw [IntKind.wrap_u64]; exact h
theorem u64_in {z : Int} {n : Nat} (h : z = (n : Int)) (hn : n < 18446744073709551616) : IntKind.u64.wrap z = (n : Int) := by rw [IntKind.wrap_u64]; omega
def DigE (y c d q : Nat) : Prop := q * y ≤ c * 4294967296 + d ∧ c * 4294967296 + d < (q + 1) * y ∧ q ≤ 4294967297
theorem dig_next {y c d q : Nat} (h : DigE y c d q) (hc : c < 18446744073709551616) (hd : d < 4294967296) (hy : y < 18446744073709551616) : ∃ z1 z2 z3 c2 : Nat,
  IntKind.u64.wrap ((c : Int) * 4294967296) = (z1 : Int) ∧ IntKind.u64.wrap ((z1 : Int) + (d : Int)) = (z2 : Int) ∧ IntKind.u64.wrap ((q : Int) * (y : Int)) = (z3 : Int) ∧ IntKind.u64.wrap ((z2 : Int) - (z3 : Int)) = (c2 : Int) ∧ c2 + q * y = c * 4294967296 + d ∧ c2 < y := by
 obtain ⟨h1, h2, h3⟩ := h
 rw [Nat.add_mul, Nat.one_mul] at h2
 have e : (q : Int) * (y : Int) = ((q * y : Nat) : Int) := (Int.natCast_mul q y).symm
 generalize q * y = m at *
 refine ⟨c * 4294967296 % 18446744073709551616, (c * 4294967296 + d) % 18446744073709551616, m % 18446744073709551616, c * 4294967296 + d - m, u64_of (by omega), u64_of (by omega), ?_, u64_of (by omega), by omega, by omega⟩
 rw [e]
 exact u64_of (by omega)
theorem u64_mod (z : Int) : ∃ n : Nat, IntKind.u64.wrap z = (n : Int) ∧ (n : Int) = z % 18446744073709551616 ∧ n < 18446744073709551616 := by
 refine ⟨(z % 18446744073709551616).toNat, ?_, ?_, ?_⟩
 ·rw [IntKind.wrap_u64]; omega
 ·omega
 ·omega
theorem div_walk (hi lo y s y2 a b h2 s64 l2 c x1 d1 d0 : Nat) (w : World) (hH : DigN y2 a b c d1) (hd0 : d0 < 4294967296) (hlo : lo < 18446744073709551616) (hy2 : y2 < 18446744073709551616)
  (t0 : ((y : Int) == 0) = false) (t1 : decide (y ≤ hi) = false) (t2 : ((hi : Int) == 0) = false) (ta : ¬ a = 0)
  (w1 : IntKind.u64.wrap (s : Int) = (s : Int))
  (o1 : Op.shift .shl .u64 (y : Int) .u64 (s : Int) = pure (.int .u64 (y2 : Int)))
  (o2 : Op.shift .shr .u64 (y2 : Int) .u64 32 = pure (.int .u64 (a : Int)))
  (o3 : bits .and .u64 (y2 : Int) 4294967295 = (b : Int))
  (o4 : Op.shift .shl .u64 (hi : Int) .u64 (s : Int) = pure (.int .u64 (h2 : Int)))
  (o5 : IntKind.u64.wrap (64 - (s : Int)) = (s64 : Int))
  (o6 : Op.shift .shr .u64 (lo : Int) .u64 (s64 : Int) = pure (.int .u64 (l2 : Int)))
  (o7 : bits .or .u64 (h2 : Int) (l2 : Int) = (c : Int))
  (o8 : Op.shift .shl .u64 (lo : Int) .u64 (s : Int) = pure (.int .u64 (x1 : Int)))
  (o9 : Op.shift .shr .u64 (x1 : Int) .u64 32 = pure (.int .u64 (d1 : Int)))
  (o10 : bits .and .u64 (x1 : Int) 4294967295 = (d0 : Int))
  (o11 : ∀ x : Int, ∃ z : Int, Op.shift .shr .u64 x .u64 (s : Int) = pure (.int .u64 z))
  (K : Calls Tryz.prog 137 #[.int .u64 (y : Int)] w fun e w' => e = .returned (.int .i64 (s : Int)) ∧ w' = w) :
  Calls Tryz.prog 117 #[.int .u64 (hi : Int), .int .u64 (lo : Int), .int .u64 (y : Int)] w fun e w' => (∃ q r : Int, e = .returned (.tuple #[.int .u64 q, .int .u64 r]) ∧ Hid (∃ q1 q0 c2 : Nat, DigE y2 c d1 q1 ∧ c2 + q1 * y2 = c * 4294967296 + d1 ∧ DigE y2 c2 d0 q0 ∧ q = ((q1 * 4294967296 + q0 : Nat) : Int) % 18446744073709551616)) ∧ w' = w := by
 have O11 := Lib.hid o11
 clear o11
 have HH := Lib.hid hH
 have hc1 := Nat.lt_trans hH.c1 hy2
 have ha1 := hH.a1
 have hb1 := hH.b1
 have hdd := hH.d1
 clear hH
 go_enter Tryz.func117, Tryz.ntmps117
 have cH := HH.out
 obtain ⟨HDqa, hrqa⟩ := dig_start cH
 have hmqa := Nat.div_add_mod c a
 obtain ⟨qa, hqa⟩ : ∃ q, c / a = q := ⟨_, rfl⟩
 obtain ⟨ra, hra⟩ : ∃ r, c % a = r := ⟨_, rfl⟩
 rw [hqa, hra] at HDqa hmqa
 rw [hra] at hrqa
 obtain ⟨mqa, hmmqa⟩ : ∃ m, qa * a = m := ⟨_, rfl⟩
 have f1qa : IntKind.u64.wrap ((c : Int) / (a : Int)) = (qa : Int) := u64_in (by rw [← hqa]; exact (Int.natCast_ediv _ _).symm) (by have := HDqa.top; omega)
 have f2qa : IntKind.u64.wrap ((qa : Int) * (a : Int)) = (mqa : Int) := u64_in (by rw [← hmmqa]; exact (Int.natCast_mul _ _).symm) (by rw [Nat.mul_comm] at hmqa; omega)
 have f3qa : IntKind.u64.wrap ((c : Int) - (mqa : Int)) = (ra : Int) := u64_in (by rw [Nat.mul_comm] at hmqa; omega) (by omega)
 have HDqa := Lib.hid (And.intro HDqa hrqa)
 clear hqa hra hmqa hmmqa hrqa
 clear cH
 go_upto_block 0 with (first
  | (go_at_call 137; (with_reducible refine K.mono ?_); rintro e w1 ⟨rfl, rfl⟩)
  | fail)
 clear f1qa f2qa f3qa
 go_cut [15, 16] from 67 to 85 (fun s15 s16 wx => ∃ q : Nat, s15 = .int .u64 (q : Int) ∧ Hid (DigE y2 c d1 q) ∧ wx = w1)
 case first =>
  go_wp2_with fail
  go_loopw [15, 16] (fun s15 s16 wr => ∃ q r : Nat, s15 = .int .u64 (q : Int) ∧ s16 = .int .u64 (r : Int) ∧ Hid (Dig y2 a b c d1 q r ∧ r < 4294967296) ∧ wr = w1) (fun s15 _ _ => (intOf s15).toNat)
  case atStart => exact ⟨qa, ra, rfl, rfl, HDqa, rfl⟩
  case round =>
   obtain ⟨q, r, rfl, rfl, HD, rfl⟩ := hrel
   have hq9 := HD.out.1.top
   have hr9 := HD.out.2
   obtain ⟨r2, hr2⟩ : ∃ r2, r + a = r2 := ⟨_, rfl⟩
   have g1 : IntKind.u64.wrap ((r : Int) + (a : Int)) = (r2 : Int) := u64_in (by omega) (by omega)
   have HR2 := Lib.hid hr2
   clear hr2
   by_cases h1 : 4294967296 ≤ q
   ·have HDN := Lib.hid (dig_down HH.out HD.out.1 (.inl h1))
    rw [HR2.out] at HDN
    obtain ⟨p, hp⟩ : ∃ p, q - 1 = p := ⟨_, rfl⟩
    rw [hp] at HDN
    have g2 : IntKind.u64.wrap ((q : Int) - 1) = (p : Int) := u64_in (by omega) (by omega)
    have k1 : decide ((q : Int) ≥ 4294967296) = true := decide_eq_true (by omega)
    have k1' : decide (4294967296 ≤ (q : Int)) = true := decide_eq_true (by omega)
    have hpq : p < q := by omega
    have hp4 : p ≤ 4294967296 := by omega
    clear hp h1
    by_cases h3 : 4294967296 ≤ r2
    ·have k3 : decide ((r2 : Int) ≥ 4294967296) = true := decide_eq_true (by omega)
     have k3' : decide (4294967296 ≤ (r2 : Int)) = true := decide_eq_true (by omega)
     have HE := Lib.hid (show DigE y2 c d1 p from ⟨dig_far HH.out HDN.out hp4 h3, HDN.out.low, by omega⟩)
     clear h3
     go_wp2_with fail
     go_meet
     exact ⟨p, rfl, HE, rfl⟩
    ·have k3 : decide ((r2 : Int) ≥ 4294967296) = false := decide_eq_false (by omega)
     have k3' : decide (4294967296 ≤ (r2 : Int)) = false := decide_eq_false (by omega)
     have H3 := Lib.hid h3
     clear h3
     go_wp2_with fail
     go_roundw
     case rel => exact ⟨p, r2, rfl, rfl, Lib.hid ⟨HDN.out, by have := H3.out; omega⟩, by first | rfl | trivial⟩
     case measure => simp [intOf]; omega
   ·have k1 : decide ((q : Int) ≥ 4294967296) = false := decide_eq_false (by omega)
    have k1' : decide (4294967296 ≤ (q : Int)) = false := decide_eq_false (by omega)
    have hqb := dig_qb HH.out (q := q) (by omega)
    obtain ⟨m, hm⟩ : ∃ m, q * b = m := ⟨_, rfl⟩
    obtain ⟨n, hn⟩ : ∃ n, 4294967296 * r = n := ⟨_, rfl⟩
    obtain ⟨n2, hn2⟩ : ∃ n2, n + d1 = n2 := ⟨_, rfl⟩
    have g3 : IntKind.u64.wrap ((q : Int) * (b : Int)) = (m : Int) := u64_in (by rw [← hm]; exact (Int.natCast_mul _ _).symm) (by omega)
    have g4 : IntKind.u64.wrap (4294967296 * (r : Int)) = (n : Int) := u64_in (by omega) (by omega)
    have g5 : IntKind.u64.wrap ((n : Int) + (d1 : Int)) = (n2 : Int) := u64_in (by omega) (by omega)
    by_cases h2 : n2 < m
    ·have HDN := Lib.hid (dig_down HH.out HD.out.1 (.inr (by omega)))
     rw [HR2.out] at HDN
     have q1 := (dig_big HH.out HD.out.1 (.inr (by omega))).1
     obtain ⟨p, hp⟩ : ∃ p, q - 1 = p := ⟨_, rfl⟩
     rw [hp] at HDN
     have g2 : IntKind.u64.wrap ((q : Int) - 1) = (p : Int) := u64_in (by omega) (by omega)
     have k2 : decide ((m : Int) > (n2 : Int)) = true := decide_eq_true (by omega)
     have k2' : decide (n2 < m) = true := decide_eq_true h2
     have hpq : p < q := by omega
     have hp4 : p ≤ 4294967296 := by omega
     clear hp h1 h2 hm hn hn2 hqb
     by_cases h3 : 4294967296 ≤ r2
     ·have k3 : decide ((r2 : Int) ≥ 4294967296) = true := decide_eq_true (by omega)
      have k3' : decide (4294967296 ≤ (r2 : Int)) = true := decide_eq_true (by omega)
      have HE := Lib.hid (show DigE y2 c d1 p from ⟨dig_far HH.out HDN.out hp4 h3, HDN.out.low, by omega⟩)
      clear h3
      go_wp2_with fail
      go_meet
      exact ⟨p, rfl, HE, rfl⟩
     ·have k3 : decide ((r2 : Int) ≥ 4294967296) = false := decide_eq_false (by omega)
      have k3' : decide (4294967296 ≤ (r2 : Int)) = false := decide_eq_false (by omega)
      have H3 := Lib.hid h3
      clear h3
      go_wp2_with fail
      go_roundw
      case rel => exact ⟨p, r2, rfl, rfl, Lib.hid ⟨HDN.out, by have := H3.out; omega⟩, by first | rfl | trivial⟩
      case measure => simp [intOf]; omega
    ·have k2 : decide ((m : Int) > (n2 : Int)) = false := decide_eq_false (by omega)
     have k2' : decide (n2 < m) = false := decide_eq_false h2
     have HE := Lib.hid (show DigE y2 c d1 q from ⟨dig_end HH.out HD.out.1 (by omega), HD.out.1.low, hq9⟩)
     clear h1 h2 hm hn hn2 hqb
     go_wp2_with fail
     go_meet
     exact ⟨q, rfl, HE, rfl⟩
 clear HDqa
 obtain ⟨q1, rfl, HE1, rfl⟩ := hcut
 obtain ⟨z1, z2, z3, c2, n1, n2, n3, n4, n5, n6⟩ := dig_next HE1.out hc1 hdd hy2
 have HH1 := HH
 have HH : Hid (DigN y2 a b c2 d0) := Lib.hid ⟨HH1.out.ye, HH1.out.a0, HH1.out.a1, HH1.out.b1, n6, hd0⟩
 have hc2 : c2 < 18446744073709551616 := by omega
 have N5 := Lib.hid n5
 clear n5 n6
 have c2H := HH.out
 obtain ⟨HDqb, hrqb⟩ := dig_start c2H
 have hmqb := Nat.div_add_mod c2 a
 obtain ⟨qb, hqb⟩ : ∃ q, c2 / a = q := ⟨_, rfl⟩
 obtain ⟨rb, hrb⟩ : ∃ r, c2 % a = r := ⟨_, rfl⟩
 rw [hqb, hrb] at HDqb hmqb
 rw [hrb] at hrqb
 obtain ⟨mqb, hmmqb⟩ : ∃ m, qb * a = m := ⟨_, rfl⟩
 have f1qb : IntKind.u64.wrap ((c2 : Int) / (a : Int)) = (qb : Int) := u64_in (by rw [← hqb]; exact (Int.natCast_ediv _ _).symm) (by have := HDqb.top; omega)
 have f2qb : IntKind.u64.wrap ((qb : Int) * (a : Int)) = (mqb : Int) := u64_in (by rw [← hmmqb]; exact (Int.natCast_mul _ _).symm) (by rw [Nat.mul_comm] at hmqb; omega)
 have f3qb : IntKind.u64.wrap ((c2 : Int) - (mqb : Int)) = (rb : Int) := u64_in (by rw [Nat.mul_comm] at hmqb; omega) (by omega)
 have HDqb := Lib.hid (And.intro HDqb hrqb)
 clear hqb hrb hmqb hmmqb hrqb
 clear c2H
 go_upto_block 2 with (first
  | (go_at_call 137; (with_reducible refine K.mono ?_); rintro e w1 ⟨rfl, rfl⟩)
  | fail)
 clear f1qb f2qb f3qb
 go_cut [16, 18] from 102 to 120 (fun s16 s18 wx => ∃ q : Nat, s18 = .int .u64 (q : Int) ∧ Hid (DigE y2 c2 d0 q) ∧ wx = wc)
 case first =>
  go_wp2_with fail
  go_loopw [16, 18] (fun s16 s18 wr => ∃ q r : Nat, s18 = .int .u64 (q : Int) ∧ s16 = .int .u64 (r : Int) ∧ Hid (Dig y2 a b c2 d0 q r ∧ r < 4294967296) ∧ wr = wc) (fun _ s18 _ => (intOf s18).toNat)
  case atStart => exact ⟨qb, rb, rfl, rfl, HDqb, rfl⟩
  case round =>
   obtain ⟨q, r, rfl, rfl, HD, rfl⟩ := hrel
   have hq9 := HD.out.1.top
   have hr9 := HD.out.2
   obtain ⟨r2, hr2⟩ : ∃ r2, r + a = r2 := ⟨_, rfl⟩
   have g1 : IntKind.u64.wrap ((r : Int) + (a : Int)) = (r2 : Int) := u64_in (by omega) (by omega)
   have HR2 := Lib.hid hr2
   clear hr2
   by_cases h1 : 4294967296 ≤ q
   ·have HDN := Lib.hid (dig_down HH.out HD.out.1 (.inl h1))
    rw [HR2.out] at HDN
    obtain ⟨p, hp⟩ : ∃ p, q - 1 = p := ⟨_, rfl⟩
    rw [hp] at HDN
    have g2 : IntKind.u64.wrap ((q : Int) - 1) = (p : Int) := u64_in (by omega) (by omega)
    have k1 : decide ((q : Int) ≥ 4294967296) = true := decide_eq_true (by omega)
    have k1' : decide (4294967296 ≤ (q : Int)) = true := decide_eq_true (by omega)
    have hpq : p < q := by omega
    have hp4 : p ≤ 4294967296 := by omega
    clear hp h1
    by_cases h3 : 4294967296 ≤ r2
    ·have k3 : decide ((r2 : Int) ≥ 4294967296) = true := decide_eq_true (by omega)
     have k3' : decide (4294967296 ≤ (r2 : Int)) = true := decide_eq_true (by omega)
     have HE := Lib.hid (show DigE y2 c2 d0 p from ⟨dig_far HH.out HDN.out hp4 h3, HDN.out.low, by omega⟩)
     clear h3
     go_wp2_with fail
     go_meet
     exact ⟨p, rfl, HE, rfl⟩
    ·have k3 : decide ((r2 : Int) ≥ 4294967296) = false := decide_eq_false (by omega)
     have k3' : decide (4294967296 ≤ (r2 : Int)) = false := decide_eq_false (by omega)
     have H3 := Lib.hid h3
     clear h3
     go_wp2_with fail
     go_roundw
     case rel => exact ⟨p, r2, rfl, rfl, Lib.hid ⟨HDN.out, by have := H3.out; omega⟩, by first | rfl | trivial⟩
     case measure => simp [intOf]; omega
   ·have k1 : decide ((q : Int) ≥ 4294967296) = false := decide_eq_false (by omega)
    have k1' : decide (4294967296 ≤ (q : Int)) = false := decide_eq_false (by omega)
    have hqb := dig_qb HH.out (q := q) (by omega)
    obtain ⟨m, hm⟩ : ∃ m, q * b = m := ⟨_, rfl⟩
    obtain ⟨n, hn⟩ : ∃ n, 4294967296 * r = n := ⟨_, rfl⟩
    obtain ⟨n2, hn2⟩ : ∃ n2, n + d0 = n2 := ⟨_, rfl⟩
    have g3 : IntKind.u64.wrap ((q : Int) * (b : Int)) = (m : Int) := u64_in (by rw [← hm]; exact (Int.natCast_mul _ _).symm) (by omega)
    have g4 : IntKind.u64.wrap (4294967296 * (r : Int)) = (n : Int) := u64_in (by omega) (by omega)
    have g5 : IntKind.u64.wrap ((n : Int) + (d0 : Int)) = (n2 : Int) := u64_in (by omega) (by omega)
    by_cases h2 : n2 < m
    ·have HDN := Lib.hid (dig_down HH.out HD.out.1 (.inr (by omega)))
     rw [HR2.out] at HDN
     have q1 := (dig_big HH.out HD.out.1 (.inr (by omega))).1
     obtain ⟨p, hp⟩ : ∃ p, q - 1 = p := ⟨_, rfl⟩
     rw [hp] at HDN
     have g2 : IntKind.u64.wrap ((q : Int) - 1) = (p : Int) := u64_in (by omega) (by omega)
     have k2 : decide ((m : Int) > (n2 : Int)) = true := decide_eq_true (by omega)
     have k2' : decide (n2 < m) = true := decide_eq_true h2
     have hpq : p < q := by omega
     have hp4 : p ≤ 4294967296 := by omega
     clear hp h1 h2 hm hn hn2 hqb
     by_cases h3 : 4294967296 ≤ r2
     ·have k3 : decide ((r2 : Int) ≥ 4294967296) = true := decide_eq_true (by omega)
      have k3' : decide (4294967296 ≤ (r2 : Int)) = true := decide_eq_true (by omega)
      have HE := Lib.hid (show DigE y2 c2 d0 p from ⟨dig_far HH.out HDN.out hp4 h3, HDN.out.low, by omega⟩)
      clear h3
      go_wp2_with fail
      go_meet
      exact ⟨p, rfl, HE, rfl⟩
     ·have k3 : decide ((r2 : Int) ≥ 4294967296) = false := decide_eq_false (by omega)
      have k3' : decide (4294967296 ≤ (r2 : Int)) = false := decide_eq_false (by omega)
      have H3 := Lib.hid h3
      clear h3
      go_wp2_with fail
      go_roundw
      case rel => exact ⟨p, r2, rfl, rfl, Lib.hid ⟨HDN.out, by have := H3.out; omega⟩, by first | rfl | trivial⟩
      case measure => simp [intOf]; omega
    ·have k2 : decide ((m : Int) > (n2 : Int)) = false := decide_eq_false (by omega)
     have k2' : decide (n2 < m) = false := decide_eq_false h2
     have HE := Lib.hid (show DigE y2 c2 d0 q from ⟨dig_end HH.out HD.out.1 (by omega), HD.out.1.low, hq9⟩)
     clear h1 h2 hm hn hn2 hqb
     go_wp2_with fail
     go_meet
     exact ⟨q, rfl, HE, rfl⟩
 clear HDqb
 obtain ⟨q0, rfl, HE0, rfl⟩ := hcut
 obtain ⟨v1, v1e, v1z, v1n⟩ := u64_mod ((q1 : Int) * 4294967296)
 obtain ⟨v2, v2e, v2z, v2n⟩ := u64_mod ((v1 : Int) + (q0 : Int))
 obtain ⟨v3, v3e, v3z, v3n⟩ := u64_mod ((c2 : Int) * 4294967296)
 obtain ⟨v4, v4e, v4z, v4n⟩ := u64_mod ((v3 : Int) + (d0 : Int))
 obtain ⟨v5, v5e, v5z, v5n⟩ := u64_mod ((q0 : Int) * (y2 : Int))
 obtain ⟨v6, v6e, v6z, v6n⟩ := u64_mod ((v4 : Int) - (v5 : Int))
 obtain ⟨v7, v7e⟩ := O11.out (v6 : Int)
 have FIN := Lib.hid (show (v2 : Int) = ((q1 * 4294967296 + q0 : Nat) : Int) % 18446744073709551616 by omega)
 clear v1z v2z v3z v4z v5z v6z
 go_wp2_with fail
 go_ret2
 exact ⟨⟨_, _, rfl, Lib.hid ⟨q1, q0, c2, HE1.out, N5.out, HE0.out, FIN.out⟩⟩, rfl⟩
end
end Go.Proofs.YthfkbbiaemmndaaGreatDoor
