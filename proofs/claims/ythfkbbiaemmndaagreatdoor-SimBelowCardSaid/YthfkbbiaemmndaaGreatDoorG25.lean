/- Texts about the program, one after the other: KPure, KRep, KResp, YSim, YSms, YAwk, RRef, Door. -/
import Derived.WalkKit
import Derived.ProofKit
import Derived.Handy
import Derived.Lib.Hide
import Derived.Deep.MidRow
import Derived.Deep.QuietTactic
import Derived.BigQuiet
import Derived.Deep.RegionHeld3
import Derived.Laws.Externs
import Derived.RangeFuncBox
import Derived.Deep.CutBlock
import Derived.Deep.LoopGhost
import Derived.WalkMore
import Derived.Below
import Derived.LaidMore
import Derived.Laws.AppendOwn
import Derived.Laws.CopyOwn
import Derived.IntWalk
import Derived.OwnWalk
import Derived.Deep.RegionLaw
import Derived.BigRegion
import Derived.Deep.DrawnRows
import Derived.Deep.Quiet
import Derived.Deep.RegionHeldLaw
import Derived.LoopIn
import Derived.LoopNIn
import Derived.TacticsInMore
import Derived.OwnWalkIn
import Derived.RangeFuncNested
import Derived.RangeFuncBound
import Derived.RangeFuncCalls
import Derived.RangeFuncLeaves
import Derived.RangeFuncWrites
import Derived.Shelf.Abstract
import Derived.StillTailTactics
import Derived.Lib.SliceRun
import Derived.Deep.AppendSrc
import Derived.Deep.Upon
import Derived.Deep.DeepAppendWide
import Derived.OrdersIn
import Derived.Sort.LoopGhostIn
import Derived.Laws.OwnMore
import Derived.Laws.BytesString
import Derived.RangeFuncRecord
import Derived.MapKept
import Derived.Shelf.Small.Bits
import Derived.Shelf.Small.Strs
import Derived.Shelf.Small.Wraps
import Derived.Shelf.Strconv.Itoa0
import Derived.Shelf.LaysM
import Derived.Shelf.Strconv.Clone
import Derived.Shelf.Strings.Search1
import Derived.Shelf.Bits.Mul64
import Derived.Ground.Names2Prog
import Derived.Shelf.Slices.SearchI
import Derived.ChangeOld
import Derived.OpenShut
import Derived.Maps.AppendAt
import Derived.Test.YthfkbbiaemmndaaGreatDoorRows
import Derived.Test.YthfkbbiaemmndaaGreatDoorProg
import Derived.Stop.RegionWithIn
import Derived.Deep.CutRange
import Derived.Deep.RegionHeld
import Derived.Laws.MakeOwn
import Derived.Shelf.SlGeneric
import Derived.Shelf.Spec.SlicesGrow
import Derived.Ground.Names8Prog
import Derived.Shelf.SlSortCmp.Whole1
import Derived.Ground.SlsfProg
import Derived.Ground.SlgnProg
import Derived.Laws.ShiftsVarLaws
import Derived.Outline
import Derived.Laws.Bits128
import Derived.Deep.RegionWith
import Derived.Shelf.RegionOpen
import Derived.Laws.AppendOwnNone
import Derived.Shelf.SlSortCmp.NoneTotal
import Derived.Lib.LaidTab
import Derived.Stop.Joined
import Derived.Test.YthfkbbiaemmndaaGreatDoorG3
import Derived.Test.YthfkbbiaemmndaaGreatDoorG4
import Derived.Test.YthfkbbiaemmndaaGreatDoorG5
import Derived.Test.YthfkbbiaemmndaaGreatDoorG6
import Derived.Test.YthfkbbiaemmndaaGreatDoorG7
import Derived.Test.YthfkbbiaemmndaaGreatDoorG8
import Derived.Test.YthfkbbiaemmndaaGreatDoorG9
import Derived.Test.YthfkbbiaemmndaaGreatDoorG10
import Derived.Test.YthfkbbiaemmndaaGreatDoorG11
import Derived.Test.YthfkbbiaemmndaaGreatDoorG12
import Derived.Test.YthfkbbiaemmndaaGreatDoorG13
import Derived.Test.YthfkbbiaemmndaaGreatDoorG14
import Derived.Test.YthfkbbiaemmndaaGreatDoorG19
import Derived.Test.YthfkbbiaemmndaaGreatDoorG23
import Derived.Test.YthfkbbiaemmndaaGreatDoorG24
set_option linter.unusedVariables false
set_option linter.unusedSimpArgs false
set_option maxRecDepth 100000
set_option maxHeartbeats 16000000
namespace Go.Proofs.YthfkbbiaemmndaaGreatDoor
section
open Go.RowKit
def respS (js : List Fv) (en : List Int) (i : Int) : Option Int :=
 if 0 ≤ i ∧ i < js.length ∧ i < en.length ∧ 0 ≤ kO en i.toNat then some (kO en i.toNat - (jb js i.toNat).a) else none
end
section
open Go.RowKit Go.Shelf
attribute [local go_sem ↓] Go.wp_at_zero Go.wp_at_succ
theorem isPlace_any (i n : Int) (w : World) : Calls Tryz.prog 53 #[.int .i64 i, .int .i64 n] w fun e w' => e = .returned (.bool (decide (0 ≤ i) && decide (i < n))) ∧ w = w' := by
 by_cases h1 : 0 ≤ i <;> by_cases h2 : i < n <;>
  (go_enter Tryz.func53, Tryz.ntmps53
   go_wp2
   go_ret
   simp [h1, h2])
end
section
open Go.RowKit Go.Shelf
attribute [local go_sem ↓] Go.wp_at_zero Go.wp_at_succ
structure RsH (js : List Fv) (en : List Int) : Prop where
 a : ∀ i, i < js.length → -1000000000000000000 ≤ (jb js i).a ∧ (jb js i).a ≤ 1000000000000000000
 e : ∀ x ∈ en, -1000000000000000000 ≤ x ∧ x ≤ 1000000000000000000
def respV (o : Option Int) : Value := .tuple #[.int .i64 (o.getD 0), .bool o.isSome]
theorem subW {a b : Int} (ha : -1000000000000000000 ≤ a ∧ a ≤ 1000000000000000000) (hb : -1000000000000000000 ≤ b ∧ b ≤ 1000000000000000000) : wrap64 (a - b) = a - b := IntWalk.wrap64_in _ (by omega)
theorem resp_any {R E : Option Addr} {rc ec : Nat} {js : List Fv} {en : List Int} (i : Int) (w : World) (hJ : FRow w R rc js) (hE : CRow w E ec en) (H : RsH js en) : Calls Tryz.prog 28 #[.slice R js.length rc, .slice E en.length ec, .int .i64 i] w (Quiet (respV (respS js en i)) w) := by
 obtain ⟨n, hn⟩ : ∃ n, js.length = n := ⟨_, rfl⟩
 obtain ⟨m, hm⟩ : ∃ m, en.length = m := ⟨_, rfl⟩
 have jle := hJ.le
 have jmx := hJ.mx
 have ele := hE.le
 have emx := hE.mx
 rw [hn] at jle
 rw [hm] at ele
 obtain ⟨mn, hmn⟩ : ∃ mn, min n m = mn := ⟨_, rfl⟩
 have hmin : min (n : Int) (m : Int) = (mn : Int) := by omega
 have KP := Lib.hid (fun W => isPlace_any i mn W)
 rw [hn, hm]
 by_cases hp : 0 ≤ i ∧ i < (mn : Int)
 ·obtain ⟨q, rfl⟩ : ∃ q : Nat, i = (q : Int) := ⟨i.toNat, by omega⟩
  obtain ⟨be, oe, x, rfl, hx, hw, hbl, c0⟩ := hE.get (k := q) (by omega)
  obtain ⟨bj, oj, y, C, cc, rfl, hy, hbj, hF⟩ := hJ.get (k := q) (by omega)
  have c1 := hF.c1
  have ha := H.a q (by omega)
  have he := H.e x (List.mem_of_getElem? hx)
  have kx : kO en q = x := by simp [kO, hx]
  rw [jb_get hy] at ha
  have hS : respS js en (q : Int) = if 0 ≤ x then some (x - y.a) else none := by
   unfold respS
   simp only [Int.toNat_natCast, kx, jb_get hy]
   by_cases h : 0 ≤ x
   ·rw [if_pos h, if_pos (by omega)]
   ·rw [if_neg h, if_neg (by omega)]
  rw [hS]
  have i0 : (0 : Int) ≤ (q : Int) := by omega
  have i1 : (q : Int) < (n : Int) := by omega
  have i2 : (q : Int) < (m : Int) := by omega
  have p1 : decide ((0 : Int) ≤ (q : Int)) = true := decide_eq_true hp.1
  have p2 : decide ((q : Int) < (mn : Int)) = true := decide_eq_true hp.2
  rw [p1, p2] at KP
  have hsub := subW he ha
  obtain ⟨a, hA⟩ : ∃ a, y.a = a := ⟨_, rfl⟩
  rw [hA] at c1 hsub ⊢
  obtain ⟨d, hd⟩ : ∃ d, x - a = d := ⟨_, rfl⟩
  have hsub' := hsub.trans hd
  rw [hd]
  clear hsub hd hA hS kx hF hy hx hJ hE H hn hm hmn hp ha he hw hbl hbj p1 p2
  by_cases hx0 : 0 ≤ x
  ·have t1 : decide (x < 0) = false := decide_eq_false (by omega)
   rw [if_pos hx0]
   clear hx0
   go_enter Tryz.func28, Tryz.ntmps28
   go_upto_region 3 with (go_at_call 53; (with_reducible refine (KP.out _).mono ?_); rintro e w5 ⟨rfl, rfl⟩)
   go_quiet (fail)
   simp only [hsub']
   go_wp2
   go_ret2
   exact ⟨rfl, _, rfl⟩
  ·have t1 : decide (x < 0) = true := decide_eq_true (by omega)
   rw [if_neg hx0]
   clear hx0
   go_enter Tryz.func28, Tryz.ntmps28
   go_wp2_with (go_at_call 53; (with_reducible refine (KP.out _).mono ?_); rintro e w5 ⟨rfl, rfl⟩)
   go_ret2
   exact ⟨rfl, 0, rfl⟩
 ·have hpf : (decide (0 ≤ i) && decide (i < (mn : Int))) = false := by
   rw [Bool.and_eq_false_iff]
   by_cases h : 0 ≤ i
   ·exact .inr (decide_eq_false (by omega))
   ·exact .inl (decide_eq_false h)
  rw [hpf] at KP
  have hS : respS js en i = none := by unfold respS; rw [if_neg (by omega)]
  rw [hS]
  clear hpf hp hS hJ hE H hn hm hmn
  go_enter Tryz.func28, Tryz.ntmps28
  go_wp2_with (go_at_call 53; (with_reducible refine (KP.out _).mono ?_); rintro e w5 ⟨rfl, rfl⟩)
  go_ret2
  exact ⟨rfl, 0, rfl⟩
end
section
open Go.RowKit
theorem scrit_sm (b o cap : Nat) (l : List Ts) (k : Nat) (y : Ts) (w : World) (hR : Row w (some ⟨b, o, none⟩) cap l) (h : ScH l k y) (hT : Tab w) :
  Calls Tryz.prog 14 #[.slice (some ⟨b, o, none⟩) l.length cap, .int .i64 (k : Int)] w fun e w' => ∃ b1 o1 c2 : Nat, e = .returned (.tuple #[.slice (some ⟨b1, o1, none⟩) (sceneS l (k : Int)).length c2, .int .i64 ((headS l (k : Int)).length : Int), .int .i64 0]) ∧ FRow w' (some ⟨b1, o1, none⟩) c2 (sceneS l (k : Int)) ∧ Below w.heap.size w w' :=
 (scrit_any b o cap l k y w hR h.hc h.hy hT).mono fun e w' hp => by
  obtain ⟨h2, (⟨hl4, A2, c2, gs, rfl, hfo, hmp⟩ | ⟨hl4, rfl⟩)⟩ := hp
  ·obtain ⟨A, c, hv, hF⟩ := hfo.frow
   simp only [Value.slice.injEq] at hv
   obtain ⟨rfl, -, rfl⟩ := hv
   rw [hmp] at hF
   obtain ⟨b1, o1, rfl, -, -⟩ := mid_cells h hF
   exact ⟨b1, o1, _, rfl, hF, h2⟩
  ·have := h.js; omega
def SpC (x p q : Addr) (t a d : Int) (W : World) : Prop := W.cell? x = some (.int .i64 t) ∧ W.cell? p = some (.int .i64 a) ∧ W.cell? q = some (.int .i64 d)
theorem ScH.rsh {l : List Ts} {k : Nat} {y : Ts} (h : ScH l k y) : RsH (sceneS l (k : Int)) (tst l (sceneS l (k : Int)) (plT l (k : Int))).en := by
 have hI := ti_all (ts := l) h.lgs (plT l (k : Int))
 have hp := h.plb
 refine ⟨fun i hi => ?_, fun x hx => ?_⟩
 ·obtain ⟨h1, h2, h3⟩ := legS_parts h.leg
  have v := jb_lj (ljs_of (vs_of h1) _ h3) hi
  have := v.a0; have := v.a1
  omega
 ·obtain ⟨i, hi, rfl⟩ := List.getElem_of_mem hx
  have h1 := hI.en i (by rw [← hI.le]; exact hi)
  have e : kO (tst l (sceneS l (k : Int)) (plT l (k : Int))).en i = (tst l (sceneS l (k : Int)) (plT l (k : Int))).en[i] := by simp [kO, hi]
  rw [e] at h1
  omega
theorem ScH.resp {l : List Ts} {k : Nat} {y : Ts} (h : ScH l k y) : respS (sceneS l (k : Int)) (tst l (sceneS l (k : Int)) (plT l (k : Int))).en ((headS l (k : Int)).length : Int) = if 0 ≤ plE l (k : Int) then some (plE l (k : Int) - (startS l (k : Int) - y.j)) else none := by
 obtain ⟨m0, m1, -⟩ := h.mid
 obtain ⟨e0, e1, -⟩ := h.ends
 have ek : kO (tst l (sceneS l (k : Int)) (plT l (k : Int))).en (headS l (k : Int)).length = plE l (k : Int) := by simp [kO, e1]
 unfold respS
 simp only [Int.toNat_natCast, ek, m0]
 by_cases hE : 0 ≤ plE l (k : Int)
 ·rw [if_pos hE, if_pos (by omega)]
 ·rw [if_neg hE, if_neg (by omega)]
theorem job_copied (w : World) (t a r c : Int) (C : Option Addr) (z cc : Nat) : ∃ W1, w.alloc (.cells #[.int .i64 t, .int .i64 a, .int .i64 r, .int .i64 c, .slice C z cc] 74) = W1 ∧ W1.cell? ⟨w.heap.size, 0, none⟩ = some (.int .i64 t) ∧ W1.cell? ⟨w.heap.size, 1, none⟩ = some (.int .i64 a) ∧ Below w.heap.size w W1 := by
 have hc := fun i => cell_of_row (w.alloc (.cells #[.int .i64 t, .int .i64 a, .int .i64 r, .int .i64 c, .slice C z cc] 74)) w.heap.size i _ _ _ (heap_alloc_new w _)
 exact ⟨_, rfl, (hc 0).trans rfl, (hc 1).trans rfl, (Below.refl _ _).alloc (Nat.le_refl _) _⟩
theorem sdue_walk (b o cap N k : Nat) (b1 o1 c2 n hl : Nat) (a r c d : Int) (C : Option Addr) (cc : Nat) (sp : List Spn) (en : List Int) (w : World)
  (hle : N ≤ cap) (hmx : cap ≤ 9223372036854775807) (hFle : n ≤ c2) (hFmx : c2 ≤ 9223372036854775807) (i1 : (k : Int) < (N : Int)) (j1 : (hl : Int) < (n : Int))
  (c0 : w.cell? ⟨b1, o1 + hl * 5, none⟩ = some (.int .i64 (k : Int))) (c1 : w.cell? ⟨b1, o1 + hl * 5 + 1, none⟩ = some (.int .i64 a)) (c2' : w.cell? ⟨b1, o1 + hl * 5 + 2, none⟩ = some (.int .i64 r)) (c3 : w.cell? ⟨b1, o1 + hl * 5 + 3, none⟩ = some (.int .i64 c)) (c4 : w.cell? ⟨b1, o1 + hl * 5 + 4, none⟩ = some (.slice C 0 cc))
  (cd : w.cell? ⟨b, o + k * 7 + 3, none⟩ = some (.int .i64 d)) (hw1 : IntKind.i64.wrap (a + d) = a + d)
  (KU0 : ∀ V, Below w.heap.size w V → Calls Tryz.prog 52 #[.slice (some ⟨b, o, none⟩) N cap, .slice (some ⟨b1, o1, none⟩) n c2, .int .i64 (a + d)] V (RunJ sp en V)) :
  Calls Tryz.prog 27 #[.slice (some ⟨b, o, none⟩) N cap, .slice (some ⟨b1, o1, none⟩) n c2, .int .i64 (hl : Int)] w (RunJ sp en w) := by
 have KU := Lib.hid KU0
 have i0 : (0 : Int) ≤ (k : Int) := by omega
 have j0 : (0 : Int) ≤ (hl : Int) := by omega
 have CD := Lib.hid cd
 obtain ⟨ns, hns⟩ : ∃ ns, sp.length = ns := ⟨_, rfl⟩
 obtain ⟨ne, hne⟩ : ∃ ne, en.length = ne := ⟨_, rfl⟩
 unfold RunJ at KU ⊢
 rw [hns, hne] at KU ⊢
 clear KU0 cd hns hne
 go_enter Tryz.func27, Tryz.ntmps27
 go_upto_region 2 with (fail)
 obtain ⟨W1, hW1, z0, z1, hb1⟩ := job_copied w (k : Int) a r c C 0 cc
 rw [hW1]
 have HCE : Hid (∀ W, Below w.heap.size W1 W → Below W1.heap.size W1 W → SpC ⟨w.heap.size, 0, none⟩ ⟨w.heap.size, 1, none⟩ ⟨b, o + k * 7 + 3, none⟩ (k : Int) a d W) := Lib.hid (fun W hb hb2 => ⟨cells_below hb2 _ _ _ z0, cells_below hb2 _ _ _ z1, cells_below (hb1.trans hb) _ _ _ CD.out⟩)
 have HB1 := Lib.hid hb1
 have HSZ := Lib.hid (Below.size hb1)
 obtain ⟨xb, hxb⟩ : ∃ xb, w.heap.size = xb := ⟨_, rfl⟩
 rw [hxb] at HCE ⊢
 have HXB := Lib.hid hxb
 clear hxb c0 c1 c2' c3 c4 z0 z1 hb1 hW1
 have HB7 := Lib.hid (below_drew W1)
 have HC0 := HCE.out _ (HB7.out.mono (by rw [← HXB.out]; exact HSZ.out)) HB7.out
 refine wp_region_noPanic ?_
 refine wp_region_held_drew (S := SpC ⟨xb, 0, none⟩ ⟨xb, 1, none⟩ ⟨b, o + k * 7 + 3, none⟩ (k : Int) a d) (by kernel_rfl) HC0 (fun hHeld => ?_)
 clear HC0
 generalize W1.drew = W7 at *
 refine wpAnyH_take (i := 0) (oi := ⟨some 13, _, _, _, _, _⟩) (v := .slice (some ⟨b, o, none⟩) N cap) rfl (by kernel_rfl) (by kernel_rfl) (by kernel_rfl) (fun _ _ _ h => h) (Or.inl ⟨by rfl, ?_⟩) (by assumption) ?_
 ·intro w0 hSw
  obtain ⟨e0, e1, e2⟩ := hSw
  go_simp
  (try with_reducible rfl)
 (try simp only [Act.put, List.setIfInBounds_toArray, List.set_cons_zero, List.set_cons_succ])
 refine wpAnyH_take (i := 1) (oi := ⟨some 14, _, _, _, _, _⟩) (v := .slice (some ⟨b1, o1, none⟩) n c2) rfl (by kernel_rfl) (by kernel_rfl) (by kernel_rfl) (fun _ _ _ h => h) (Or.inl ⟨by rfl, ?_⟩) (by assumption) ?_
 ·intro w0 hSw
  obtain ⟨e0, e1, e2⟩ := hSw
  go_simp
  (try with_reducible rfl)
 (try simp only [Act.put, List.setIfInBounds_toArray, List.set_cons_zero, List.set_cons_succ])
 refine wpAnyH_take (i := 2) (oi := ⟨some 15, _, _, _, _, _⟩) (v := .pointer (some ⟨xb, 1, none⟩)) rfl (by kernel_rfl) (by kernel_rfl) (by kernel_rfl) (fun _ _ _ h => h) (Or.inl ⟨by rfl, ?_⟩) (by assumption) ?_
 ·intro w0 hSw
  obtain ⟨e0, e1, e2⟩ := hSw
  go_simp
  (try with_reducible rfl)
 (try simp only [Act.put, List.setIfInBounds_toArray, List.set_cons_zero, List.set_cons_succ])
 refine wpAnyH_take (i := 3) (oi := ⟨some 16, _, _, _, _, _⟩) (v := .int .i64 a) rfl (by kernel_rfl) (by kernel_rfl) (by kernel_rfl) (fun _ _ _ h => h) (Or.inl ⟨by rfl, ?_⟩) (by assumption) ?_
 ·intro w0 hSw
  obtain ⟨e0, e1, e2⟩ := hSw
  go_simp
  (try with_reducible rfl)
 (try simp only [Act.put, List.setIfInBounds_toArray, List.set_cons_zero, List.set_cons_succ])
 refine wpAnyH_take (i := 4) (oi := ⟨some 17, _, _, _, _, _⟩) (v := .slice (some ⟨b, o, none⟩) N cap) rfl (by kernel_rfl) (by kernel_rfl) (by kernel_rfl) (fun _ _ _ h => h) (Or.inl ⟨by rfl, ?_⟩) (by assumption) ?_
 ·intro w0 hSw
  obtain ⟨e0, e1, e2⟩ := hSw
  go_simp
  (try with_reducible rfl)
 (try simp only [Act.put, List.setIfInBounds_toArray, List.set_cons_zero, List.set_cons_succ])
 refine wpAnyH_take (i := 5) (oi := ⟨some 18, _, _, _, _, _⟩) (v := .pointer (some ⟨xb, 0, none⟩)) rfl (by kernel_rfl) (by kernel_rfl) (by kernel_rfl) (fun _ _ _ h => h) (Or.inl ⟨by rfl, ?_⟩) (by assumption) ?_
 ·intro w0 hSw
  obtain ⟨e0, e1, e2⟩ := hSw
  go_simp
  (try with_reducible rfl)
 (try simp only [Act.put, List.setIfInBounds_toArray, List.set_cons_zero, List.set_cons_succ])
 refine wpAnyH_take (i := 6) (oi := ⟨some 19, _, _, _, _, _⟩) (v := .int .i64 (k : Int)) rfl (by kernel_rfl) (by kernel_rfl) (by kernel_rfl) (fun _ _ _ h => h) (Or.inl ⟨by rfl, ?_⟩) (by assumption) ?_
 ·intro w0 hSw
  obtain ⟨e0, e1, e2⟩ := hSw
  go_simp
  (try with_reducible rfl)
 (try simp only [Act.put, List.setIfInBounds_toArray, List.set_cons_zero, List.set_cons_succ])
 refine wpAnyH_take (i := 7) (oi := ⟨some 20, _, _, _, _, _⟩) (v := .pointer (some ⟨b, o + k * 7, none⟩)) rfl (by kernel_rfl) (by kernel_rfl) (by kernel_rfl) (fun _ _ _ h => h) (Or.inl ⟨by rfl, ?_⟩) (by assumption) ?_
 ·intro w0 hSw
  obtain ⟨e0, e1, e2⟩ := hSw
  go_simp
  (try with_reducible rfl)
 (try simp only [Act.put, List.setIfInBounds_toArray, List.set_cons_zero, List.set_cons_succ])
 refine wpAnyH_take (i := 8) (oi := ⟨some 21, _, _, _, _, _⟩) (v := .pointer (some ⟨b, o + k * 7 + 3, none⟩)) rfl (by kernel_rfl) (by kernel_rfl) (by kernel_rfl) (fun _ _ _ h => h) (Or.inl ⟨by rfl, ?_⟩) (by assumption) ?_
 ·intro w0 hSw
  obtain ⟨e0, e1, e2⟩ := hSw
  go_simp
  (try with_reducible rfl)
 (try simp only [Act.put, List.setIfInBounds_toArray, List.set_cons_zero, List.set_cons_succ])
 refine wpAnyH_take (i := 9) (oi := ⟨some 22, _, _, _, _, _⟩) (v := .int .i64 d) rfl (by kernel_rfl) (by kernel_rfl) (by kernel_rfl) (fun _ _ _ h => h) (Or.inl ⟨by rfl, ?_⟩) (by assumption) ?_
 ·intro w0 hSw
  obtain ⟨e0, e1, e2⟩ := hSw
  go_simp
  (try with_reducible rfl)
 (try simp only [Act.put, List.setIfInBounds_toArray, List.set_cons_zero, List.set_cons_succ])
 refine wpAnyH_take (i := 10) (oi := ⟨some 23, _, _, _, _, _⟩) (v := .int .i64 (a + d)) rfl (by kernel_rfl) (by kernel_rfl) (by kernel_rfl) (fun _ _ _ h => h) (Or.inl ⟨by rfl, ?_⟩) (by assumption) ?_
 ·intro w0 hSw
  obtain ⟨e0, e1, e2⟩ := hSw
  go_simp
  (try with_reducible rfl)
 (try simp only [Act.put, List.setIfInBounds_toArray, List.set_cons_zero, List.set_cons_succ])
 refine wpAnyH_ready (rs := [11]) (by kernel_rfl) (by simp) ?_
 refine (AllReadyH.cons (o := ⟨some 24, _, _, _, _, _⟩) rfl (fun K hK => ?_) AllReadyH.nil)
 go_simp
 go_at_call 52
 refine (KU.out _ (HB1.out.trans (HB7.out.mono HSZ.out))).mono ?_
 rintro e w8 ⟨A5, c5, B5, d5, rfl, hsp, hcr, h8⟩
 have H18 := Lib.hid (HB7.out.trans (h8.mono (Below.size HB7.out)))
 have HF := Lib.hid (And.intro hsp hcr)
 clear hsp hcr h8
 refine hK.out _ _ (HCE.out _ (H18.out.mono (by rw [← HXB.out]; exact HSZ.out)) H18.out) (fun hHeld => ?_)
 clear hK K
 (try simp only [Act.put, List.setIfInBounds_toArray, List.set_cons_zero, List.set_cons_succ])
 refine wpAnyH_take (i := 12) (oi := ⟨some 25, _, _, _, _, _⟩) (v := .slice A5 ns c5) rfl (by kernel_rfl) (by kernel_rfl) (by kernel_rfl) (fun _ _ _ h => h) (Or.inl ⟨by rfl, ?_⟩) (by assumption) ?_
 ·intro w0 hSw
  obtain ⟨e0, e1, e2⟩ := hSw
  go_simp
  (try with_reducible rfl)
 (try simp only [Act.put, List.setIfInBounds_toArray, List.set_cons_zero, List.set_cons_succ])
 refine wpAnyH_take (i := 13) (oi := ⟨some 26, _, _, _, _, _⟩) (v := .slice B5 ne d5) rfl (by kernel_rfl) (by kernel_rfl) (by kernel_rfl) (fun _ _ _ h => h) (Or.inl ⟨by rfl, ?_⟩) (by assumption) ?_
 ·intro w0 hSw
  obtain ⟨e0, e1, e2⟩ := hSw
  go_simp
  (try with_reducible rfl)
 (try simp only [Act.put, List.setIfInBounds_toArray, List.set_cons_zero, List.set_cons_succ])
 refine wpAnyH_take (i := 14) (oi := ⟨some 6, _, _, _, _, _⟩) (v := .slice A5 ns c5) rfl (by kernel_rfl) (by kernel_rfl) (by kernel_rfl) (fun _ _ _ h => h) (Or.inl ⟨by rfl, ?_⟩) (by assumption) ?_
 ·intro w0 hSw
  obtain ⟨e0, e1, e2⟩ := hSw
  go_simp
  (try with_reducible rfl)
 (try simp only [Act.put, List.setIfInBounds_toArray, List.set_cons_zero, List.set_cons_succ])
 refine wpAnyH_take (i := 15) (oi := ⟨some 7, _, _, _, _, _⟩) (v := .slice B5 ne d5) rfl (by kernel_rfl) (by kernel_rfl) (by kernel_rfl) (fun _ _ _ h => h) (Or.inl ⟨by rfl, ?_⟩) (by assumption) ?_
 ·intro w0 hSw
  obtain ⟨e0, e1, e2⟩ := hSw
  go_simp
  (try with_reducible rfl)
 (try simp only [Act.put, List.setIfInBounds_toArray, List.set_cons_zero, List.set_cons_succ])
 refine wpAnyH_done (by kernel_rfl) ?_ _
 refine NoPanic.normal ?_
 go_wp2
 exact bodyPost_ret (v := .tuple #[.slice A5 ns c5, .slice B5 ne d5]) (by simp [results, Tryz.f27, go_sem]) rfl ⟨A5, c5, B5, d5, rfl, HF.out.1, HF.out.2, HB1.out.trans (H18.out.mono HSZ.out)⟩
theorem sdue_in (b o cap : Nat) (l : List Ts) (k : Nat) (y : Ts) (b1 o1 c2 : Nat) (w : World) (hR : Row w (some ⟨b, o, none⟩) cap l) (h : ScH l k y) (hF : FRow w (some ⟨b1, o1, none⟩) c2 (sceneS l (k : Int))) :
  Calls Tryz.prog 27 #[.slice (some ⟨b, o, none⟩) l.length cap, .slice (some ⟨b1, o1, none⟩) (sceneS l (k : Int)).length c2, .int .i64 ((headS l (k : Int)).length : Int)] w (RunJ (tst l (sceneS l (k : Int)) (plT l (k : Int))).sp (tst l (sceneS l (k : Int)) (plT l (k : Int))).en w) := by
 obtain ⟨m0, hln, -⟩ := h.mid
 obtain ⟨b2, o2, x, C, cc, e2, hx, -, hf⟩ := hF.get hln
 cases e2
 obtain rfl : x = ⟨k, startS l (k : Int) - y.j, startS l (k : Int), y.c, []⟩ := (jb_get hx).symm.trans m0
 have hbd := h.bd
 have hk := h.lt
 exact sdue_walk b o cap l.length k b1 o1 c2 (sceneS l (k : Int)).length (headS l (k : Int)).length (startS l (k : Int) - y.j) (startS l (k : Int)) y.c y.d C cc _ _ w hR.le hR.mx hF.le hF.mx (by omega) (by omega) hf.c0 hf.c1 hf.c2 hf.c3 hf.c4 (row_cells hR h.hy (Below.refl _ _)).c3 (by rw [IntKind.wrap_i64]; omega)
  (fun V hb => play_until h V (hR.later hb) (hF.later hb))
theorem sbnd_not (A : Option Addr) (cap : Nat) (l : List Ts) (i : Int) (w : World) (hR : Row w A cap l) (hi : in64 i) (hb : isB l i = false) :
  Calls Tryz.prog 11 #[.slice A l.length cap, .int .i64 i] w fun e w' => e = .returned (.tuple #[.int .i64 0, .int .i64 1]) ∧ Below w.heap.size w w' := by
 have KC := Lib.hid (scrit_not A cap l i w hR hi hb)
 clear hR hb
 go_enter Tryz.func11, Tryz.ntmps11
 go_wp2_with (go_at_call 14; (with_reducible refine KC.out.mono ?_); rintro e w2 ⟨rfl, h2⟩; have H2 := Lib.hid h2; clear h2)
 exact bodyPost_ret (v := .tuple #[.int .i64 0, .int .i64 1]) (by simp [results, Tryz.f11, go_sem]) rfl ⟨rfl, H2.out⟩
theorem sbnd_any (b o cap : Nat) (l : List Ts) (k : Nat) (y : Ts) (w : World) (hR : Row w (some ⟨b, o, none⟩) cap l) (h : ScH l k y) (hT : Tab w) :
  Calls Tryz.prog 11 #[.slice (some ⟨b, o, none⟩) l.length cap, .int .i64 (k : Int)] w fun e w' => e = .returned (.tuple #[.int .i64 (boundI l (k : Int)).1, .int .i64 (boundI l (k : Int)).2]) ∧ Below w.heap.size w w' := by
 have KC0 := scrit_sm b o cap l k y w hR h hT
 have KP0 := fun b1 o1 c2 V (hb : Below w.heap.size w V) (hF : FRow V (some ⟨b1, o1, none⟩) c2 (sceneS l (k : Int))) => sdue_in b o cap l k y b1 o1 c2 V (hR.later hb) h hF
 have KR0 := fun V A c B d (hF : FRow V A c (sceneS l (k : Int))) (hE : CRow V B d (tst l (sceneS l (k : Int)) (plT l (k : Int))).en) => resp_any ((headS l (k : Int)).length : Int) V hF hE h.rsh
 rw [h.resp] at KR0
 unfold RunJ at KP0
 have hbb := h.bound
 obtain ⟨⟨br, be⟩, hbr⟩ : ∃ p, boundI l (k : Int) = p := ⟨_, rfl⟩
 rw [hbr] at hbb ⊢
 simp only
 obtain ⟨E, hE⟩ : ∃ E, plE l (k : Int) = E := ⟨_, rfl⟩
 obtain ⟨en, hen⟩ : ∃ en, (tst l (sceneS l (k : Int)) (plT l (k : Int))).en = en := ⟨_, rfl⟩
 obtain ⟨sp, hsp⟩ : ∃ sp, (tst l (sceneS l (k : Int)) (plT l (k : Int))).sp = sp := ⟨_, rfl⟩
 rw [hE] at KR0 hbb
 rw [hen] at KP0 KR0
 rw [hsp] at KP0
 obtain ⟨js, hjs⟩ : ∃ js, sceneS l (k : Int) = js := ⟨_, rfl⟩
 rw [hjs] at KC0 KP0 KR0
 obtain ⟨hl, hhl2⟩ : ∃ hl, (headS l (k : Int)).length = hl := ⟨_, rfl⟩
 rw [hhl2] at KC0 KP0 KR0
 obtain ⟨S, hS⟩ : ∃ S, startS l (k : Int) = S := ⟨_, rfl⟩
 rw [hS] at KR0 hbb
 have KC := Lib.hid KC0
 have KP := Lib.hid KP0
 have KR := Lib.hid KR0
 have HBB := Lib.hid hbb
 clear hR hT h KC0 KP0 KR0 hE hsp hen hjs hhl2 hS hbb hbr
 go_enter Tryz.func11, Tryz.ntmps11
 go_upto_region 4 with (go_at_call 14; (with_reducible refine KC.out.mono ?_); rintro e w2 ⟨b1, o1, c2, rfl, hF, h2⟩; have K2 := Lib.hid (KP.out b1 o1 c2 w2 h2 hF); have HF := Lib.hid hF; have H2 := Lib.hid h2; clear h2 hF)
 go_upto_region 5 with (go_at_call 27; (with_reducible refine K2.out.mono ?_); rintro e w3 ⟨A5, c5, B5, d5, rfl, hs, hcr, h3⟩; have K3 := Lib.hid (KR.out w3 _ _ _ _ (HF.out.later h3) hcr); have H3 := Lib.hid (H2.out.trans (h3.mono (Below.size H2.out))); clear hs hcr h3)
 unfold respV at K3
 rcases HBB.out with ⟨hE0, hbr⟩ | ⟨hE0, hbr⟩
 ·obtain ⟨rfl, rfl⟩ : br = E - (S - y.j) ∧ be = 0 := by simpa using hbr
  rw [if_pos hE0] at K3
  simp only [Option.getD_some, Option.isSome_some] at K3
  clear hbr hE0
  go_wp2_with (go_at_call 28; (with_reducible refine K3.out.mono ?_); rintro e w5 ⟨rfl, mq, rfl⟩)
  exact bodyPost_ret (v := .tuple #[.int .i64 (E - (S - y.j)), .int .i64 0]) (by simp [results, Tryz.f11, go_sem]) rfl ⟨rfl, H3.out.trans ((below_drewN2 _ _).mono (Below.size H3.out))⟩
 ·obtain ⟨rfl, rfl⟩ : br = 0 ∧ be = 16 := by simpa using hbr
  rw [if_neg (by omega)] at K3
  simp only [Option.getD_none, Option.isSome_none] at K3
  clear hbr hE0
  go_wp2_with (go_at_call 28; (with_reducible refine K3.out.mono ?_); rintro e w5 ⟨rfl, mq, rfl⟩)
  exact bodyPost_ret (v := .tuple #[.int .i64 0, .int .i64 16]) (by simp [results, Tryz.f11, go_sem]) rfl ⟨rfl, H3.out.trans ((below_drewN2 _ _).mono (Below.size H3.out))⟩
theorem sbd_all (A : Option Addr) (cap : Nat) (l : List Ts) (i : Int) (w : World) (hR : Row w A cap l) (hi : in64 i) (hT : Tab w) (hS : SmS l i 1000000000000) :
  Calls Tryz.prog 11 #[.slice A l.length cap, .int .i64 i] w fun e w' => e = .returned (.tuple #[.int .i64 (boundI l i).1, .int .i64 (boundI l i).2]) ∧ Below w.heap.size w w' := by
 cases hb : isB l i with
 | false => rw [bound_not hb]; exact sbnd_not A cap l i w hR hi hb
 | true =>
   obtain ⟨k, y, rfl, hk, hy⟩ := isB_get hb
   obtain ⟨b, o, rfl⟩ := row_at hR hk
   exact sbnd_any b o cap l k y w hR (hS.sch (by omega) hb hy) hT
end
section
theorem flatM_len {α β : Type} (f : α → List β) (N : Nat) : ∀ l : List α, (∀ x ∈ l, (f x).length ≤ N) → (l.flatMap f).length ≤ l.length * N
 | [], _ => by simp
 | y :: l, h => by
   have := flatM_len f N l (fun x hx => h x (List.mem_cons_of_mem _ hx))
   have := h y (by simp)
   rw [List.flatMap_cons, List.length_append, List.length_cons, Nat.add_mul]
   omega
theorem sumK_le (W : Int) (hW : 0 ≤ W) (f : Fv → Int) : ∀ js : List Fv, (∀ x ∈ js, f x ≤ W) → (js.map f).sum ≤ (js.length : Int) * W
 | [], _ => by simp
 | y :: js, h => by
   have h1 := sumK_le W hW f js (fun x hx => h x (List.mem_cons_of_mem _ hx))
   have h2 := h y (by simp)
   rw [List.map_cons, List.sum_cons, List.length_cons]
   have e : ((js.length + 1 : Nat) : Int) * W = (js.length : Int) * W + W := by rw [Int.natCast_add, Int.add_mul]; omega
   rw [e]
   omega
theorem sms_of {l : List Ts} {i M W : Int} {N : Nat} (hn : l.length ≤ 8) (hN : N ≤ 100) (hW : 0 ≤ W) (hM : 802 * W ≤ M)
  (hp : isB l i = true → ∀ k : Nat, k < l.length → perN l i k ≤ N) (hw : isB l i = true → ∀ x ∈ l, x.c ≤ W ∧ x.q ≤ W) : SmS l i M := by
 have hlen : isB l i = true → (sceneS l i).length ≤ 802 := fun hb => by
  have h1 : (headS l i).length ≤ 1 := by
   unfold headS
   split <;> simp
  have h2 : (((List.range l.length).filter (hpB l i)).flatMap (perL l i)).length ≤ ((List.range l.length).filter (hpB l i)).length * 100 :=
   flatM_len _ 100 _ (fun k hk => by
    have hk := List.mem_range.1 (List.mem_filter.1 hk).1
    have := hp hb k hk
    unfold perL
    rw [List.length_map, List.length_range]
    omega)
  have h3 : ((List.range l.length).filter (hpB l i)).length ≤ l.length := by
   have := List.length_filter_le (hpB l i) (List.range l.length)
   rwa [List.length_range] at this
  unfold sceneS
  rw [List.length_append, List.length_append, List.length_singleton]
  omega
 refine ⟨hn, fun hb => by have := hlen hb; omega, fun hb => ?_⟩
 obtain ⟨hc, h0, h1⟩ := isB_iff hb
 have hcell : ∀ k : Nat, k < l.length → (tk l (k : Int)).c ≤ W ∧ (tk l (k : Int)).q ≤ W := fun k hk => by
  rw [tk_get (List.getElem?_eq_getElem hk)]
  exact hw hb _ (List.getElem_mem hk)
 have hjob : ∀ x ∈ sceneS l i, x.k ≤ W := fun x hx => by
  unfold sceneS at hx
  rcases List.mem_append.1 hx with hx | hx
  ·rcases List.mem_append.1 hx with hx | hx
   ·unfold headS at hx
    split at hx
    ·simp at hx
    ·rename_i b hbk
     obtain rfl := List.mem_singleton.1 hx
     exact (hcell b ((blk_isE (isB_vs hb)).2 b hbk).1).2
   ·obtain rfl := List.mem_singleton.1 hx
    obtain ⟨k, rfl⟩ := Int.eq_ofNat_of_zero_le h0
    exact (hcell k (by omega)).1
  ·obtain ⟨k, hk, hx⟩ := List.mem_flatMap.1 hx
   have hk := List.mem_range.1 (List.mem_filter.1 hk).1
   unfold perL at hx
   obtain ⟨m, _, rfl⟩ := List.mem_map.1 hx
   unfold perJ
   split <;> exact (hcell k hk).1
 have h5 := sumK_le W hW (·.k) _ hjob
 have h6 := hlen hb
 have h7 : ((sceneS l i).length : Int) * W ≤ 802 * W := Int.mul_le_mul_of_nonneg_right (by omega) hW
 omega
theorem perN_le {l : List Ts} {i : Int} {B : Int} (hb : isB l i = true) (hB : 0 ≤ B) (h : ∀ x ∈ l, x.d ≤ B ∧ x.j ≤ B) (k : Nat) (hk : k < l.length) : perN l i k ≤ (2 * B).toNat := by
 obtain ⟨hc, h0, h1⟩ := isB_iff hb
 obtain ⟨m, rfl⟩ := Int.eq_ofNat_of_zero_le h0
 have hm : m < l.length := by omega
 have v1 := (isB_vs hb).tk (k : Int)
 have v2 := (isB_vs hb).tk (m : Int)
 have e1 := h _ (List.getElem_mem hk)
 have e2 := h _ (List.getElem_mem hm)
 rw [← tk_get (List.getElem?_eq_getElem hk)] at e1
 rw [← tk_get (List.getElem?_eq_getElem hm)] at e2
 have o2 := tk_over hc (p := (m : Int)) (by omega) (by omega)
 have := ceilI_le (a := (tk l (m : Int)).d - (tk l (m : Int)).j + (tk l (k : Int)).j) (by have := v1.j0; have := v2.c0; omega) v1.t0
 have hj := v2.j0
 unfold perN
 omega
theorem sms_small {l : List Ts} (i : Int) (hn : l.length ≤ 8) (h : ∀ x ∈ l, x.c ≤ 40 ∧ x.d ≤ 40 ∧ x.j ≤ 40 ∧ x.q ≤ 40) : SmS l i 1000000000 :=
 sms_of (N := 80) (W := 40) hn (by omega) (by omega) (by omega)
  (fun hb k hk => perN_le hb (by omega) (fun x hx => ⟨(h x hx).2.1, (h x hx).2.2.1⟩) k hk)
  (fun _ x hx => ⟨(h x hx).1, (h x hx).2.2.2⟩)
theorem SmS.more {l : List Ts} {i M M' : Int} (h : SmS l i M) (hM : M ≤ M') : SmS l i M' := ⟨h.n8, h.js, fun hb => Int.le_trans (h.tot hb) hM⟩
theorem st_sms {ts : List Ts} (h : St ts) (i : Int) : SmS ts i 1000000000 :=
 sms_small i (by have := h.n6; omega) (fun x hx => by have s := sm20_of h.s x hx; have := s.c; have := s.d; have := s.j; have := s.q; omega)
end
section
open Go.RowKit
abbrev exT (n : UInt8) (c t j q p : Int) : Ts := ⟨{ data := #[n] }, c, t, t, j, q, p⟩
theorem exT_w (n : UInt8) (c t j q p : Int) (hc : in64 c) (ht : in64 t) (hj : in64 j) (hq : in64 q) (hp : in64 p) : TsW (exT n c t j q p) :=
 ⟨(by show (1 : Nat) ≤ _; omega), hc, ht, ht, hj, hq, hp⟩
abbrev exL : List Ts := [exT 97 1 4 0 1 1, exT 98 2 9 1 1 2, exT 99 3 20 0 3 3]
theorem ex_is : boundI exL 0 = (3, 0) ∧ boundI exL 1 = (7, 0) ∧ boundI exL 2 = (7, 0) := by decide +kernel
theorem ex_sms (i : Int) : SmS exL i 1000000000000 := (sms_small (l := exL) i (by decide) (by decide)).more (by decide)
abbrev exO : Obj := .cells #[.string { data := #[97] }, .int .i64 1, .int .i64 4, .int .i64 4, .int .i64 0, .int .i64 1, .int .i64 1, .string { data := #[98] }, .int .i64 2, .int .i64 9, .int .i64 9, .int .i64 1, .int .i64 1, .int .i64 2, .string { data := #[99] }, .int .i64 3, .int .i64 20, .int .i64 20, .int .i64 0, .int .i64 3, .int .i64 3] 26
theorem ex_row (w : World) : Row (w.alloc exO) (some ⟨w.heap.size, 0, none⟩) 3 exL := by
 have hc := fun i => cell_of_row (w.alloc exO) w.heap.size i _ _ _ (heap_alloc_new w exO)
 refine ⟨by simp, by omega, ?_, fun i x hx => ?_⟩
 ·intro x hx
  simp only [List.mem_cons, List.not_mem_nil, or_false] at hx
  rcases hx with rfl | rfl | rfl
  ·exact exT_w 97 1 4 0 1 1 ⟨by decide, by decide⟩ ⟨by decide, by decide⟩ ⟨by decide, by decide⟩ ⟨by decide, by decide⟩ ⟨by decide, by decide⟩
  ·exact exT_w 98 2 9 1 1 2 ⟨by decide, by decide⟩ ⟨by decide, by decide⟩ ⟨by decide, by decide⟩ ⟨by decide, by decide⟩ ⟨by decide, by decide⟩
  ·exact exT_w 99 3 20 0 3 3 ⟨by decide, by decide⟩ ⟨by decide, by decide⟩ ⟨by decide, by decide⟩ ⟨by decide, by decide⟩ ⟨by decide, by decide⟩
 ·refine ⟨w.heap.size, 0, rfl, ⟨fun j u hu => ?_⟩⟩
  match i, hx with
  | 0, hx =>
    obtain rfl : exT 97 1 4 0 1 1 = x := by simpa using hx
    rw [hc]
    match j, hu with
    | 0, hu | 1, hu | 2, hu | 3, hu | 4, hu | 5, hu | 6, hu => simpa [tsL] using hu
    | n + 7, hu => simp [tsL] at hu
  | 1, hx =>
    obtain rfl : exT 98 2 9 1 1 2 = x := by simpa using hx
    rw [hc]
    match j, hu with
    | 0, hu | 1, hu | 2, hu | 3, hu | 4, hu | 5, hu | 6, hu => simpa [tsL] using hu
    | n + 7, hu => simp [tsL] at hu
  | 2, hx =>
    obtain rfl : exT 99 3 20 0 3 3 = x := by simpa using hx
    rw [hc]
    match j, hu with
    | 0, hu | 1, hu | 2, hu | 3, hu | 4, hu | 5, hu | 6, hu => simpa [tsL] using hu
    | n + 7, hu => simp [tsL] at hu
  | n + 3, hx => simp at hx
theorem awake_any (w : World) (hT : Tab w) : Calls Tryz.prog 7 #[] w fun e w' => e = .returned (.bool true) ∧ Below w.heap.size w w' := by
 have hb : Below w.heap.size w (w.alloc exO) := (Below.refl _ _).alloc (Nat.le_refl _) _
 obtain ⟨e0, e1, e2⟩ := ex_is
 have K : ∀ (i : Int), in64 i → ∀ W, Lt (w.alloc exO) W → Calls Tryz.prog 11 #[.slice (some ⟨w.heap.size, 0, none⟩) 3 3, .int .i64 i] W fun e w' => e = .returned (.tuple #[.int .i64 (boundI exL i).1, .int .i64 (boundI exL i).2]) ∧ Below W.heap.size W w' :=
  fun i hi W hW => sbd_all (some ⟨w.heap.size, 0, none⟩) 3 exL i W ((ex_row w).later hW) hi (hT.below (hb.trans (hW.mono (Below.size hb)))) (ex_sms i)
 have K0 := K 0 ⟨by decide, by decide⟩
 have K1 := K 1 ⟨by decide, by decide⟩
 have K2 := K 2 ⟨by decide, by decide⟩
 rw [e0] at K0
 rw [e1] at K1
 rw [e2] at K2
 simp only at K0 K1 K2
 have K0 := Lib.hid K0
 have K1 := Lib.hid K1
 have K2 := Lib.hid K2
 have HV : Hid (Lt (w.alloc exO) (w.alloc exO)) := Lib.hid (Below.refl _ _)
 have HB := Lib.hid hb
 clear hT hb K e0 e1 e2
 go_enter Tryz.func7, Tryz.ntmps7
 go_wp2_with (first
  | (go_at_call 11; (with_reducible refine (K0.out _ HV.out).mono ?_); rintro e w1 ⟨rfl, h⟩; have HV := Lib.hid (lt_step _ _ HV.out h); clear h)
  | (go_at_call 11; (with_reducible refine (K1.out _ HV.out).mono ?_); rintro e w2 ⟨rfl, h⟩; have HV := Lib.hid (lt_step _ _ HV.out h); clear h)
  | (go_at_call 11; (with_reducible refine (K2.out _ HV.out).mono ?_); rintro e w3 ⟨rfl, h⟩; have HV := Lib.hid (lt_step _ _ HV.out h); clear h)
  | fail)
 go_ret
 exact ⟨rfl, HB.out.trans (Below.mono HV.out (Below.size HB.out))⟩
end
section
open Go.RowKit
theorem w64 {z : Int} (h0 : 0 ≤ z) (h1 : z ≤ 4611686018427387904) : wrap64 z = z ∧ IntKind.i64.wrap z = z := ⟨IntWalk.wrap64_in _ (by omega), by rw [IntKind.wrap_i64]; omega⟩
end
section
open Go.ChangeShapes Go.WideShapes Go.ChangeAt Go.RowKit
theorem own : ownKnob Tryz.prog.godebug = none := by kernel_rfl
theorem laidOut : laidOutB Tryz.prog = true := by kernel_rfl
abbrev LL : List (String × DataW Unit) := Rows.simTellsRow.laid
theorem door_met (os : Os) (args : Array Value) : laidMetH Tryz.prog LL ((World.doorLaid Tryz.prog 4000 os).forCall (fun _ _ => 0) ⟨#[], args, []⟩).memory :=
 laidMetH_of_parts3 (fuel := 8) (laidMet_of_run' 8 (by kernel_rfl) (by kernel_rfl)) (by kernel_rfl) (by kernel_rfl)
theorem tab_of_laid {W : World} (h : laidMetH Tryz.prog LL W) : Tab W := by
 rw [MakeChecks.laidMetH_plain _ _ _ (by kernel_rfl)] at h
 have ht := Lib.tabIs_of_head (P := Tryz.prog) (W := W) (k := .u8) (zs := deB.map fun n : Nat => (n : Int)) (rest := []) (g := 0) (t := 150) (e := 5) (n := 64) (by kernel_rfl) (by kernel_rfl) Tryz.underlying150 Tryz.underlying5 (by kernel_rfl) (by kernel_rfl) h
 intro i v hv
 have := World.var?_cell (g := 0) (by kernel_rfl) ht i
 rw [this]
 simp [hv]
end
end Go.Proofs.YthfkbbiaemmndaaGreatDoor
