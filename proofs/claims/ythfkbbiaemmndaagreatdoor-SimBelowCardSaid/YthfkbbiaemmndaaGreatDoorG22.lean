/- Texts about the program, one after the other: EWk, ESec, EPl, EPlay. -/
import Derived.WalkKit
import Derived.ProofKit
import Derived.Handy
import Derived.Lib.Hide
import Derived.Deep.MidRow
import Derived.Deep.QuietTactic
import Derived.BigQuiet
import Derived.Deep.RegionHeld3
import Derived.Laws.Externs
import Derived.RangeFuncBox
import Derived.Deep.CutBlock
import Derived.Deep.LoopGhost
import Derived.WalkMore
import Derived.Below
import Derived.LaidMore
import Derived.Laws.AppendOwn
import Derived.Laws.CopyOwn
import Derived.IntWalk
import Derived.OwnWalk
import Derived.Deep.RegionLaw
import Derived.BigRegion
import Derived.Deep.DrawnRows
import Derived.Deep.Quiet
import Derived.Deep.RegionHeldLaw
import Derived.LoopIn
import Derived.LoopNIn
import Derived.TacticsInMore
import Derived.OwnWalkIn
import Derived.RangeFuncNested
import Derived.RangeFuncBound
import Derived.RangeFuncCalls
import Derived.RangeFuncLeaves
import Derived.RangeFuncWrites
import Derived.Shelf.Abstract
import Derived.StillTailTactics
import Derived.Lib.SliceRun
import Derived.Deep.AppendSrc
import Derived.Deep.Upon
import Derived.Deep.DeepAppendWide
import Derived.OrdersIn
import Derived.Sort.LoopGhostIn
import Derived.Shelf.SlGeneric
import Derived.Shelf.Spec.SlicesGrow
import Derived.Ground.Names8Prog
import Derived.Laws.OwnMore
import Derived.Shelf.SlSortCmp.Whole1
import Derived.Ground.SlsfProg
import Derived.Ground.SlgnProg
import Derived.Laws.BytesString
import Derived.RangeFuncRecord
import Derived.MapKept
import Derived.Laws.MakeOwn
import Derived.Shelf.SlSortCmp.NoneTotal
import Derived.Shelf.Small.Bits
import Derived.Shelf.Small.Strs
import Derived.Shelf.Small.Wraps
import Derived.Shelf.Strconv.Itoa0
import Derived.Shelf.LaysM
import Derived.Shelf.Strconv.Clone
import Derived.Shelf.Strings.Search1
import Derived.Shelf.Bits.Mul64
import Derived.Ground.Names2Prog
import Derived.Shelf.Slices.SearchI
import Derived.ChangeOld
import Derived.OpenShut
import Derived.Maps.AppendAt
import Derived.Test.YthfkbbiaemmndaaGreatDoorRows
import Derived.Test.YthfkbbiaemmndaaGreatDoorProg
import Derived.Test.YthfkbbiaemmndaaGreatDoorG4
import Derived.Test.YthfkbbiaemmndaaGreatDoorG6
import Derived.Test.YthfkbbiaemmndaaGreatDoorG7
import Derived.Test.YthfkbbiaemmndaaGreatDoorG8
import Derived.Test.YthfkbbiaemmndaaGreatDoorG20
import Derived.Test.YthfkbbiaemmndaaGreatDoorG21
set_option linter.unusedVariables false
set_option linter.unusedSimpArgs false
set_option maxRecDepth 100000
set_option maxHeartbeats 16000000
namespace Go.Proofs.YthfkbbiaemmndaaGreatDoor
section
open Go.RowKit
attribute [local go_sem ↓] Go.wp_at_zero Go.wp_at_succ
section
variable {C : Cfg} {w w' w1 w2 : World} {M : Mv} {vc vs ve : Value} {rb : Nat → Nat} {rv : Nat → Value} {lf : Nat → Int × List Int}
def wkM (C : Cfg) (M : Mv) (i : Nat) (n : Int) (rest : List Nat) : Mv :=
 { M with now := M.now + n, sp := addN M.sp i M.now n, dn := M.dn.set i (kO M.dn i + n),
          en := if kO M.dn i + n = (jb C.js i).k then M.en.set i (M.now + n) else M.en,
          L := if kO M.dn i + n = (jb C.js i).k then LV M rest else M.L }
def lfW (lf : Nat → Int × List Int) (i : Nat) (n : Int) : Nat → Int × List Int := fun q => if q = i then ((lf i).1 - n, (lf i).2) else lf q
structure WkH (C : Cfg) (M : Mv) (lf : Nat → Int × List Int) (i τ : Nat) (r : List Int) (rest : List Nat) (n : Int) : Prop where
 ld : C.js.length = M.dn.length
 le : C.js.length = M.en.length
 L : M.L = (τ : Int) :: r
 lt : τ < C.ts.length
 q : quS C.js M.dn (C.o.take M.m) τ = i :: rest
 lf : (lf i).1 = (jb C.js i).k - kO M.dn i
 last : ∀ x, M.sp.getLast? = some x → x.j = i → x.t = M.now
 few : M.sp.length ≤ 1000000000000
 n0 : 0 ≤ M.now
 n1 : 1 ≤ n
 n2 : kO M.dn i + n ≤ (jb C.js i).k
 n3 : M.now + n ≤ 9223372036854775807
 d0 : 0 ≤ kO M.dn i
theorem work_any {i τ : Nat} {r : List Int} {rest : List Nat} {n : Int} (hC : Cok C) (h : Ex C w M vc vs ve rb rv lf) (hW : WkH C M lf i τ r rest n) :
  Calls Tryz.prog 111 #[.pointer (some ⟨C.bx, 0, none⟩), .int .i64 n] w (ExP C (wkM C M i n rest) (lfW lf i n)) := by
 have hi : i ∈ quS C.js M.dn (C.o.take M.m) τ := by rw [hW.q]; simp
 obtain ⟨a1, a2, a3⟩ := quS_mem.1 hi
 have hil : i < C.js.length := hC.rel (List.mem_of_mem_take a1)
 have hfew := hC.few
 have hbd := hC.bd i hil
 have FS := Lib.hid (first_some hC h hW.L hW.lt hW.q)
 have H := Lib.hid h
 have HW := Lib.hid hW
 have A1 := Lib.hid a1
 clear h hW hi a1 a2
 go_enter Tryz.func111, Tryz.ntmps111
 go_upto_region 1 with (go_at_call 109; (with_reducible refine FS.out.mono ?_); rintro e w1 ⟨rfl, hB1⟩)
 have hE1 := H.out.later hC hB1
 obtain ⟨A, cc, hA, hcr⟩ := (hE1.rs i A1.out a3).is
 have r0 := cell_of_row w1 (rb i) 0 _ _ _ hA
 simp only [List.getElem?_toArray, List.getElem?_cons_zero] at r0
 have TL := Lib.hid (tell_any (n := n) hC hE1 HW.out.last HW.out.few (show i ≤ 1000000 by omega) HW.out.n0 (by have := HW.out.n1; omega) HW.out.n3)
 have E1 := Lib.hid hE1
 clear hE1 hA hcr hB1 FS
 go_upto_region 2 with (go_at_call 131; (with_reducible refine TL.out.mono ?_); rintro e w2 ⟨rfl, vs2, hE2⟩)
 have hR2 := hE2.rs i A1.out a3
 obtain ⟨A2, cc2, hA2, hcr2⟩ := hR2.is
 have q1 := cell_of_row w2 (rb i) 1 _ _ _ hA2
 have qf : w2.frozen? ⟨rb i, 1, none⟩ = false := by simp [World.frozen?, hA2]
 simp only [List.getElem?_toArray, List.getElem?_cons_zero, List.getElem?_cons_succ] at q1
 have hlf := HW.out.lf
 obtain ⟨kk, hkk⟩ : ∃ kk, (lf i).1 = kk := ⟨_, rfl⟩
 rw [hkk] at q1 hlf
 have hE3 := hE2.rest (k := kk - n) (c := (lf i).2) hC A1.out a3 ((Kept.refl [rb i] w2).set (rb i) 1 (.int .i64 (kk - n)) (by simp)) ⟨hR2.ge, A2, cc2, heap_setCell_same _ (rb i) 1 _ _ _ hA2, hcr2⟩
 have hf3 := hE3.c4
 have ff3 := hE3.fz 4
 have hE4 := hE3.wait hC (M.now + n)
 have p1 := cell_of_row _ (rb i) 1 _ _ _ ((hE4.rs i A1.out a3).is.choose_spec.choose_spec.1)
 have p0 := cell_of_row _ (rb i) 0 _ _ _ ((hE4.rs i A1.out a3).is.choose_spec.choose_spec.1)
 simp only [List.getElem?_toArray, List.getElem?_cons_zero, List.getElem?_cons_succ, if_true] at p1 p0
 have n0 := HW.out.n0
 have n1 := HW.out.n1
 have n2 := HW.out.n2
 have n3 := HW.out.n3
 have d0 := HW.out.d0
 have hwA : wrap64 (kk - n) = kk - n := wrap64_in (by omega)
 have hwB : wrap64 (M.now + n) = M.now + n := wrap64_in (by omega)
 have elf : (fun q => if q = i then (kk - n, (lf i).2) else lf q) = lfW lf i n := by unfold lfW; rw [hkk]
 rw [elf] at hE4
 have HLF := Lib.hid hlf
 have HKK := Lib.hid hkk
 have kb1 : 0 ≤ kk - n := by omega
 have kb2 : kk ≤ 2147483647 := by omega
 clear hlf hkk n2
 have HE4 := Lib.hid hE4
 have hv4 := hE4.c4
 simp only at hf3 hv4
 clear hE2 hR2 hA2 hcr2 hE3 hE4 elf
 obtain ⟨W3, hW3⟩ : ∃ W3, w2.setCell ⟨rb i, 1, none⟩ (.int .i64 (kk - n)) = W3 := ⟨_, rfl⟩
 go_upto_region 3 with (fail)
 rw [hW3] at hf3 ff3 p1 p0 HE4 hv4
 try rw [hW3]
 clear hW3 q1 qf
 go_upto_region 4 with (fail)
 obtain ⟨W4, hW4⟩ : ∃ W4, W3.setCell ⟨C.bx, 4, none⟩ (.int .i64 (M.now + n)) = W4 := ⟨_, rfl⟩
 rw [hW4] at p1 p0 HE4 hv4
 try rw [hW4]
 clear hW4 hf3 ff3
 by_cases hz : kk - n = 0
 ·rw [hz] at p1
  have hens := HE4.out.ens
  obtain ⟨ge, cap, hve, hBg, hgl, hle, hmx, hfz⟩ := own_form hens (by omega)
  subst hve
  have v6 := HE4.out.c6
  have fe := hfz i
  have hEE := HE4.out.ends hC (g := ge) rfl hil (M.now + n)
  have i0 : (0 : Int) ≤ (i : Int) := by omega
  have i1 : (i : Int) < (C.js.length : Int) := by omega
  have ue : ∃ u, W4.cell? ⟨ge, i, none⟩ = some u := by
   have hl0 : i < (numL M.en).length := by simp [numL]; have := HW.out.le; omega
   exact ⟨_, own_cell hens rfl (List.getElem?_eq_getElem hl0)⟩
  obtain ⟨u, hu⟩ := ue
  have HEE := Lib.hid hEE
  unfold maxLen at hmx
  clear hens hfz hEE hmx
  go_upto_region 5 with (fail)
  go_region
  have LVE := Lib.hid (leave_any (M := { M with now := M.now + n, sp := addN M.sp i M.now n, en := M.en.set i (M.now + n) }) hC HW.out.ld (HEE.out.later hC (below_drew _)) HW.out.L HW.out.lt HW.out.q)
  have hkd : kO M.dn i + n = (jb C.js i).k := by have := HLF.out; omega
  have HKD := Lib.hid hkd
  clear hkd v6 fe hu p0 p1 hv4
  go_wp2_with (go_at_call 132; (with_reducible refine LVE.out.mono ?_); rintro e w5 ⟨rfl, vc5, vs5, ve5, rb5, rv5, hE5⟩)
  go_end0
  refine ⟨rfl, vc5, vs5, ve5, rb5, rv5, ?_⟩
  unfold wkM
  rw [if_pos HKD.out, if_pos HKD.out, HKD.out]
  exact hE5
 ·have hz2 : (kk - n == 0) = false := by rw [beq_eq_false_iff_ne]; exact hz
  go_wp2
  go_end0
  have hkd : kO M.dn i + n ≠ (jb C.js i).k := by have := HLF.out; omega
  have hil2 : i < M.dn.length := by rw [← HW.out.ld]; exact hil
  have fin := HE4.out.dn (dn' := M.dn.set i (kO M.dn i + n)) (fun p hp => by
   simp only
   rw [kO_set _ _ hil2]
   by_cases hpi : p = i
   ·subst hpi
    rw [if_pos rfl]
    have := HLF.out
    omega
   ·rw [if_neg hpi])
  refine ⟨rfl, vc, vs2, ve, rb, rv, ?_⟩
  unfold wkM
  rw [if_neg hkd, if_neg hkd]
  exact fin
end
end
section
open Go.RowKit
attribute [local go_sem ↓] Go.wp_at_zero Go.wp_at_succ
theorem run_tail64 (b o n cc : Nat) (w : World) (h : n + 1 ≤ cc) (hm : cc ≤ 9223372036854775807) : (Instr.slice 42 (.slice (some ⟨b, o, none⟩) (n + 1) cc) (some (.int .i64 1)) none none).run Tryz.prog w = .ok (.slice (some ⟨b, if cc = 1 then o else o + 1, none⟩) n (cc - 1)) w := by
 have h3 : (0 : Int) ≤ 1 := by omega
 have h5 : (1 : Int).toNat = 1 := rfl
 have h1 : (1 : Int) ≤ ((n + 1 : Nat) : Int) := by omega
 have h6 : n + 1 - 1 = n := by omega
 have h7 : ((n + 1 : Nat) : Int) ≤ (cc : Int) := by omega
 by_cases h0 : cc = 1
 ·subst h0
  obtain rfl : n = 0 := by omega
  go_simp
 ·rw [if_neg h0]
  go_simp
  intro h; omega
theorem CRow.tail {w : World} {b o cc : Nat} {x : Int} {l : List Int} (h : CRow w (some ⟨b, o, none⟩) cc (x :: l)) : CRow w (some ⟨b, if cc = 1 then o else o + 1, none⟩) (cc - 1) l := by
 have hle := h.le
 rw [List.length_cons] at hle
 refine ⟨by omega, by have := h.mx; omega, fun y hy => h.wf y (by simp [hy]), fun i y hy => ?_⟩
 have hi := (List.getElem?_eq_some_iff.1 hy).1
 obtain ⟨b2, o2, e, hc⟩ := h.at_ (i + 1) y (by simpa using hy)
 simp only [Option.some.injEq, Addr.mk.injEq, and_true] at e
 obtain ⟨rfl, rfl⟩ := e
 refine ⟨b, _, rfl, ?_⟩
 rw [if_neg (by omega), Nat.add_assoc, Nat.add_comm 1 i]
 exact hc
section
variable {C : Cfg} {w w' w1 w2 : World} {M : Mv} {vc vs ve : Value} {rb : Nat → Nat} {rv : Nat → Value} {lf : Nat → Int × List Int}
def lfC (lf : Nat → Int × List Int) (i : Nat) (l : List Int) : Nat → Int × List Int := fun q => if q = i then ((lf i).1, l) else lf q
theorem WkH.cut {i τ : Nat} {r : List Int} {rest : List Nat} {n : Int} {l : List Int} (h : WkH C M lf i τ r rest n) : WkH C M (lfC lf i l) i τ r rest n :=
 ⟨h.ld, h.le, h.L, h.lt, h.q, by unfold lfC; rw [if_pos rfl]; exact h.lf, h.last, h.few, h.n0, h.n1, h.n2, h.n3, h.d0⟩
theorem section_any {i τ : Nat} {r : List Int} {rest : List Nat} {n a : Int} {l : List Int} (hC : Cok C) (h : Ex C w M vc vs ve rb rv lf) (hW : WkH C M lf i τ r rest n) (hc : (lf i).2 = a :: l) :
  Calls Tryz.prog 110 #[.pointer (some ⟨C.bx, 0, none⟩), .int .i64 n] w (ExP C (wkM C M i n rest) (lfW (lfC lf i l) i n)) := by
 have hi : i ∈ quS C.js M.dn (C.o.take M.m) τ := by rw [hW.q]; simp
 obtain ⟨a1, a2, a3⟩ := quS_mem.1 hi
 have FS := Lib.hid (first_some hC h hW.L hW.lt hW.q)
 have H := Lib.hid h
 have HW := Lib.hid hW
 have A1 := Lib.hid a1
 clear h hW hi a1 a2
 go_enter Tryz.func110, Tryz.ntmps110
 go_upto_region 1 with (go_at_call 109; (with_reducible refine FS.out.mono ?_); rintro e w1 ⟨rfl, hB1⟩)
 have hE1 := H.out.later hC hB1
 have hR1 := hE1.rs i A1.out a3
 obtain ⟨A, cc, hA, hcr⟩ := hR1.is
 rw [hc] at hA hcr
 obtain ⟨b, o, rfl, -⟩ := hcr.at_ 0 a rfl
 have hle := hcr.le
 have hmx := hcr.mx
 rw [List.length_cons] at hA hle
 have q2 := cell_of_row w1 (rb i) 2 _ _ _ hA
 have qf : w1.frozen? ⟨rb i, 2, none⟩ = false := by simp [World.frozen?, hA]
 simp only [List.getElem?_toArray, List.getElem?_cons_zero, List.getElem?_cons_succ] at q2
 have hsl := fun W => run_tail64 b o l.length cc W hle hmx
 obtain ⟨va, hva⟩ : ∃ va, (if cc = 1 then o else o + 1) = va := ⟨_, rfl⟩
 have hct := hcr.tail
 rw [hva] at hct
 rw [hva] at hsl
 have hE2 := hE1.rest (k := (lf i).1) (c := l) hC A1.out a3 ((Kept.refl [rb i] w1).set (rb i) 2 (.slice (some ⟨b, va, none⟩) l.length (cc - 1)) (by simp)) ⟨hR1.ge, some ⟨b, va, none⟩, cc - 1, heap_setCell_same _ (rb i) 2 _ _ _ hA, hct⟩
 have WK := Lib.hid (work_any hC hE2 (HW.out.cut (l := l)))
 clear hE1 hR1 hA hcr hB1 FS hva hct hE2 hc
 generalize l.length = m at *
 go_wp2_with (go_at_call 111; (with_reducible refine WK.out.mono ?_); rintro e w2 ⟨rfl, vc2, vs2, ve2, rb2, rv2, hE3⟩)
 go_end0
 exact ⟨rfl, vc2, vs2, ve2, rb2, rv2, hE3⟩
end
end
section
open Go.RowKit
section
variable {C : Cfg} {t m n : Nat} {L : List Int}
abbrev Cfg.st (C : Cfg) (t : Nat) : TSt := tst C.ts C.js t
def Cfg.mv (C : Cfg) (t m : Nat) (L : List Int) : Mv := ⟨m, t, (C.st t).dn, (C.st t).sp, (C.st t).en, L⟩
structure PlF (C : Cfg) (t m : Nat) (L : List Int) : Prop where
 hd : Hd C.ts C.js (C.st t).dn (C.o.take m) L
 dec : Dec C.js (C.st t)
 le : m ≤ C.o.length
 lo : ∀ p ∈ C.o.take m, (jb C.js p).r ≤ t
 hz : ∀ p ∈ C.o.drop m, kO (C.st t).dn p = 0
theorem Cok.ti (hC : Cok C) (t : Nat) : TI C.js t (C.st t) := ti_all hC.lg t
theorem PlF.who_none (hC : Cok C) (h : PlF C t m []) (hR : Rel C.js C.o m t) : who C.ts C.js t = none := by
 show whoS _ _ _ _ = none
 rw [h.dec.who]
 exact pick_none (fun i hi => (hC.t0 i hi).1) hC.ord hR h.hd
theorem PlF.who_some {x : Int} {r : List Int} (hC : Cok C) (h : PlF C t m (x :: r)) (hR : Rel C.js C.o m t) : ∃ (τ i : Nat) (rest : List Nat), x = (τ : Int) ∧ τ < C.ts.length ∧ quS C.js (C.st t).dn (C.o.take m) τ = i :: rest ∧ who C.ts C.js t = some i := by
 obtain ⟨τ, rfl, hτ⟩ := h.hd.nat x (by simp)
 have h1 := (h.hd.mem τ).1 (by simp)
 cases hq : quS C.js (C.st t).dn (C.o.take m) τ with
 | nil => exact absurd hq h1
 | cons i rest =>
   refine ⟨τ, i, rest, rfl, hτ, hq, ?_⟩
   show whoS _ _ _ _ = some i
   rw [h.dec.who]
   exact pick_some (L := r) (fun i hi => (hC.t0 i hi).1) hC.ord hC.seq hR h.hd hC.dist (fun i hi => (hC.t0 i hi).2) rfl hq
theorem mem_split {p : Nat} (hC : Cok C) (hp : p < C.js.length) (m : Nat) : p ∈ C.o.take m ∨ p ∈ C.o.drop m := by
 have h1 : p ∈ C.o := hC.ord.mem.2 (by simpa using hp)
 rw [← List.take_append_drop m C.o] at h1
 exact List.mem_append.1 h1
theorem PlF.ended (hC : Cok C) (h : PlF C t m []) (hd : C.o.drop m = []) : ∀ i, i < C.js.length → kO (C.st t).dn i = (jb C.js i).k := by
 intro i hi
 have h1 := (hC.ti t).d0 i hi
 rcases mem_split hC hi m with h2 | h2
 ·rcases Int.lt_or_le (kO (C.st t).dn i) (jb C.js i).k with h3 | h3
  ·exfalso
   obtain ⟨τ, hτ⟩ : ∃ τ : Nat, (jb C.js i).t = (τ : Int) := ⟨(jb C.js i).t.toNat, by have := (hC.t0 i hi).1; omega⟩
   have h4 : i ∈ quS C.js (C.st t).dn (C.o.take m) τ := quS_mem.2 ⟨h2, hτ, h3⟩
   have := (h.hd.mem τ).2 (fun e => by rw [e] at h4; cases h4)
   cases this
  ·omega
 ·rw [hd] at h2; cases h2
theorem far {p : Nat} {r : List Nat} (hC : Cok C) (hR : Rel C.js C.o m t) (hd : C.o.drop m = p :: r) {k : Nat} (hk : (t : Int) + k ≤ (jb C.js p).r) : ∀ j, j < C.js.length → (jb C.js j).r ≤ t ∨ (t : Int) + k ≤ (jb C.js j).r := by
 intro j hj
 rcases mem_split hC hj m with h2 | h2
 ·exact .inl (hR.lo j h2)
 ·have hs := hC.ord.srt.sublist (List.drop_sublist m C.o)
  rw [hd] at hs h2
  rcases List.mem_cons.1 h2 with rfl | h2
  ·exact .inr hk
  ·have := (List.pairwise_cons.1 hs).1 j h2
   have hp : p < C.js.length := hC.rel (List.mem_of_mem_drop (i := m) (by rw [hd]; simp))
   unfold Ahead at this
   rw [kO_rls hp, kO_rls hj] at this
   exact .inr (by omega)
theorem far_nil (hC : Cok C) (hR : Rel C.js C.o m t) (hd : C.o.drop m = []) (k : Nat) : ∀ j, j < C.js.length → (jb C.js j).r ≤ t ∨ (t : Int) + k ≤ (jb C.js j).r := by
 intro j hj
 rcases mem_split hC hj m with h2 | h2
 ·exact .inl (hR.lo j h2)
 ·rw [hd] at h2; cases h2
theorem PlF.idle (hC : Cok C) (h : PlF C t m []) (hR : Rel C.js C.o m t) (hn : 1 ≤ n) (hf : ∀ j, j < C.js.length → (jb C.js j).r ≤ t ∨ (t : Int) + n ≤ (jb C.js j).r) :
  C.st (t + n) = { C.st t with ru := none } ∧ PlF C (t + n) m [] := by
 have e := run_idle (h.who_none hC hR) hC.lg hf n hn (Nat.le_refl _)
 refine ⟨e, ?_⟩
 have e2 : (C.st (t + n)).dn = (C.st t).dn := by show (tst _ _ _).dn = _; rw [e]
 refine ⟨by rw [e2]; exact h.hd, fun i hi => ?_, h.le, fun p hp => ?_, fun p hp => by rw [e2]; exact h.hz p hp⟩
 ·have : (C.st (t + n)).ru = none := by show (tst _ _ _).ru = _; rw [e]
  rw [this] at hi; cases hi
 ·have := h.lo p hp; omega
theorem kO_run {i : Nat} (hC : Cok C) (hi : i < C.js.length) (v : Int) (p : Nat) : kO ((C.st t).dn.set i v) p = if p = i then v else kO (C.st t).dn p := kO_set p v (by rw [(hC.ti t).ld]; exact hi)
theorem nodup_far {i p : Nat} (hC : Cok C) (hi : i ∈ C.o.take m) (hp : p ∈ C.o.drop m) : p ≠ i := by
 rintro rfl
 have := hC.ord.nodup
 rw [← List.take_append_drop m C.o] at this
 exact (List.nodup_append.1 this).2.2 p hi p hp rfl
theorem wkM_L {i : Nat} {rest : List Nat} {v : Int} : (wkM C (C.mv t m L) i v rest).L = if kO (C.st t).dn i + v = (jb C.js i).k then LV (C.mv t m L) rest else L := rfl
theorem PlF.ran {i τ : Nat} {r : List Int} {rest : List Nat} (hC : Cok C) (h : PlF C t m L) (hL : L = (τ : Int) :: r) (hq : quS C.js (C.st t).dn (C.o.take m) τ = i :: rest) (hn : 1 ≤ n)
  (he : C.st (t + n) = runM C.js (C.st t) t i n) (hk : kO (C.st t).dn i + n ≤ (jb C.js i).k) (hdec : wthS (jb C.js i).c (kO (C.st t).dn i + n) = false) :
  PlF C (t + n) m (wkM C (C.mv t m L) i n rest).L := by
 have hi : i ∈ quS C.js (C.st t).dn (C.o.take m) τ := by rw [hq]; simp
 obtain ⟨a1, a2, a3⟩ := quS_mem.1 hi
 have hil : i < C.js.length := hC.rel (List.mem_of_mem_take a1)
 have e2 : (C.st (t + n)).dn = (C.st t).dn.set i (kO (C.st t).dn i + n) := by rw [he]; rfl
 refine ⟨?_, fun j hj => ?_, h.le, fun p hp => ?_, fun p hp => ?_⟩
 ·rw [e2]
  by_cases hd : kO (C.st t).dn i + n = (jb C.js i).k
  ·have := Hd.leave (M := C.mv t m L) hC (hC.ti t).ld.symm h.hd hL hq
   rw [wkM_L, if_pos hd, hd]
   exact this
  ·rw [wkM_L, if_neg hd]
   refine Hd.dn (M := C.mv t m L) h.hd (fun p hp => ?_)
   rw [kO_run hC hil]
   split
   ·rename_i e; subst e; simp only [Cfg.mv]; omega
   ·exact Iff.rfl
 ·have hru : (C.st (t + n)).ru = some i := by rw [he]; rfl
  rw [hru] at hj
  injection hj with hj
  subst hj
  rw [e2, kO_run hC hil, if_pos rfl]
  exact hdec
 ·have := h.lo p hp; omega
 ·rw [e2, kO_run hC hil, if_neg (nodup_far hC a1 hp)]
  exact h.hz p hp
theorem wth_all {ts : List Ts} {js : List Fv} (hl : Lg js) : ∀ (n : Nat) (i : Nat), (tst ts js n).ru ≠ some i → wthS (jb js i).c (kO (tst ts js n).dn i) = false
 | 0, i, _ => by
   refine wthS_neg _ _ (hl.pos i) ?_
   simp only [tst, kO]
   by_cases h : i < js.length
   ·simp [h]
   ·simp [h]
 | n + 1, i, h => by
   have ih := wth_all (ts := ts) hl n i
   have hI := ti_all (ts := ts) hl n
   rw [tst_succ] at h ⊢
   have key : whoS ts js (tst ts js n) n ≠ some i → wthS (jb js i).c (kO (tst ts js n).dn i) = false := by
    intro hw
    by_cases hr : (tst ts js n).ru = some i
    ·unfold whoS at hw
     rw [hr] at hw
     simp only at hw
     split at hw
     ·exact absurd rfl hw
     ·rename_i hf; simpa using hf
    ·exact ih hr
   cases hw : whoS ts js (tst ts js n) n with
   | none => rw [tstep_none hw]; exact key (by rw [hw]; simp)
   | some j =>
     rw [tstep_some hw] at h ⊢
     simp only [runM] at h ⊢
     have hij : i ≠ j := fun e => h (by rw [e])
     rw [kO_set _ _ (by rw [hI.ld]; exact (hI.who_some hl hw).1), if_neg hij]
     exact key (by rw [hw]; simpa using Ne.symm hij)
theorem PlF.wth (hC : Cok C) (h : PlF C t m L) (i : Nat) : wthS (jb C.js i).c (kO (C.st t).dn i) = false := by
 by_cases hr : (C.st t).ru = some i
 ·exact h.dec i hr
 ·exact wth_all hC.lg t i hr
end
end
section
open Go.RowKit
attribute [local go_sem ↓] Go.wp_at_zero Go.wp_at_succ
structure PlI (C : Cfg) (T t : Nat) (w : World) : Prop where
 ex : ∃ m L lf vc vs ve rb rv, Ex C w (C.mv t m L) vc vs ve rb rv lf ∧ (t < T → lf = lfN C.js (C.st t).dn ∧ PlF C t m L)
 le : t ≤ T
def PlP (C : Cfg) (T : Nat) (e : Ending) (w' : World) : Prop := e = .returned (.tuple #[]) ∧ ∃ M lf vc vs ve rb rv, Ex C w' M vc vs ve rb rv lf ∧ M.sp = (C.st T).sp ∧ M.en = (C.st T).en
section
variable {C : Cfg} {T t m k i τ : Nat} {L : List Int} {w : World}
theorem mv_run {rest : List Nat} (he : C.st (t + k) = runM C.js (C.st t) t i k) : wkM C (C.mv t m L) i k rest = C.mv (t + k) m (wkM C (C.mv t m L) i k rest).L := by
 have e : ((t + k : Nat) : Int) = (t : Int) + k := by omega
 unfold Cfg.mv
 rw [he, e]
 rfl
theorem pl_next {vc vs ve : Value} {rb : Nat → Nat} {rv : Nat → Value} {lf : Nat → Int × List Int} {rest : List Nat} (h : Ex C w (wkM C (C.mv t m L) i k rest) vc vs ve rb rv lf) (he : C.st (t + k) = runM C.js (C.st t) t i k) (hle : t + k ≤ T)
  (hF : t + k < T → PlF C (t + k) m (wkM C (C.mv t m L) i k rest).L ∧ ∀ p, lfN C.js (C.st (t + k)).dn p = lf p) : PlI C T (t + k) w := by
 rw [mv_run he] at h
 refine ⟨?_, hle⟩
 by_cases hlt : t + k < T
 ·obtain ⟨h1, h2⟩ := hF hlt
  exact ⟨m, _, _, vc, vs, ve, rb, rv, h.lfs (fun p _ _ => h2 p), fun _ => ⟨rfl, h1⟩⟩
 ·exact ⟨m, _, _, vc, vs, ve, rb, rv, h, fun h => absurd h hlt⟩
theorem lf_free (hC : Cok C) (hi : i < C.js.length) (hc : cl (jb C.js i).c (kO (C.st t).dn i) = []) (he : C.st (t + k) = runM C.js (C.st t) t i k) : ∀ p, lfN C.js (C.st (t + k)).dn p = lfW (lfN C.js (C.st t).dn) i k p := by
 intro p
 have e2 : (C.st (t + k)).dn = (C.st t).dn.set i (kO (C.st t).dn i + k) := by rw [he]; rfl
 unfold lfN lfW
 rw [e2, kO_run hC hi]
 by_cases h : p = i
 ·subst h
  simp only [if_true, (cl_none _ _ hc k (by omega)).2, hc]
  congr 1
  omega
 ·rw [if_neg h, if_neg h]
theorem lf_sec {l : List Int} (hC : Cok C) (hi : i < C.js.length) (hc : cl (jb C.js i).c (kO (C.st t).dn i + k) = l) (he : C.st (t + k) = runM C.js (C.st t) t i k) : ∀ p, lfN C.js (C.st (t + k)).dn p = lfW (lfC (lfN C.js (C.st t).dn) i l) i k p := by
 intro p
 have e2 : (C.st (t + k)).dn = (C.st t).dn.set i (kO (C.st t).dn i + k) := by rw [he]; rfl
 unfold lfN lfW lfC
 rw [e2, kO_run hC hi]
 by_cases h : p = i
 ·subst h
  simp only [if_true, hc]
  congr 1
  omega
 ·simp only [if_neg h]
theorem wkh_of {r : List Int} {rest : List Nat} {n : Int} (hC : Cok C) (htot : (C.js.map (·.k)).sum ≤ 1000000000000) (hL : L = (τ : Int) :: r) (hτ : τ < C.ts.length) (hq : quS C.js (C.st t).dn (C.o.take m) τ = i :: rest) (n1 : 1 ≤ n) (n2 : kO (C.st t).dn i + n ≤ (jb C.js i).k) (n3 : (t : Int) + n ≤ 9223372036854775807) :
  WkH C (C.mv t m L) (lfN C.js (C.st t).dn) i τ r rest n := by
 have hi : i ∈ quS C.js (C.st t).dn (C.o.take m) τ := by rw [hq]; simp
 obtain ⟨a1, a2, a3⟩ := quS_mem.1 hi
 have hil : i < C.js.length := hC.rel (List.mem_of_mem_take a1)
 have hI := hC.ti t
 refine ⟨hI.ld.symm, hI.le.symm, hL, hτ, hq, rfl, fun y hy hyi => ?_, ?_, by simp only [Cfg.mv]; omega, n1, n2, n3, (hI.d0 i hil).1⟩
 ·obtain ⟨y1, y2, y3, y4⟩ := hI.sp y hy
  simp only [Cfg.mv]
  rcases Int.lt_or_le y.t t with h | h
  ·have := y4 h; rw [hyi] at this; omega
  ·omega
 ·have h2 : ((C.st t).sp.length : Int) ≤ (C.js.map (·.k)).sum := spn_few (ts := C.ts) hC.lg t
  simp only [Cfg.mv]
  omega
end
theorem play_any {C : Cfg} {w : World} {en : Int} {T : Nat} (hC : Cok C) (h : PlI C T 0 w) (hT : en.toNat = T) (he : en ≤ 9223372036854775807) (htot : (C.js.map (·.k)).sum ≤ 1000000000000) :
  Calls Tryz.prog 86 #[.pointer (some ⟨C.bx, 0, none⟩), .int .i64 en] w (PlP C T) := by
 have H0 := Lib.hid h
 have HT := Lib.hid hT
 have HTOT := Lib.hid htot
 have HE := Lib.hid he
 clear h hT htot he
 go_enter Tryz.func86, Tryz.ntmps86
 go_wp2
 go_step3
 go_wp2
 go_step3
 go_wp2
 go_loopg [] (T + 1) (fun gm wr => ∃ t : Nat, T + 1 ≤ gm + t ∧ Hid (PlI C T t wr))
 case atStart => exact ⟨0, by omega, H0⟩
 case round =>
  obtain ⟨t, hm, hI⟩ := hrel
  clear H0
  obtain ⟨m, L, lf, vc, vs, ve, rb, rv, hE, hF⟩ := hI.out.ex
  have c4 := hE.c4
  have htT := hI.out.le
  by_cases hlt : t < T
  ·obtain ⟨hlf, hF1⟩ := hF hlt
   subst hlf
   clear hF
   have hF := hF1
   clear hF1
   have ten : (t : Int) < en := by have := HT.out; omega
   have hen := HE.out
   have RL := Lib.hid (release_any (M := C.mv t m L) hC ⟨⟨vc, vs, ve, rb, rv, hE⟩, hF.hd, hF.le, Nat.le_refl _, hF.lo⟩ (show 0 ≤ (t : Int) ∧ (t : Int) ≤ 9223372036854775807 by omega) hF.hz)
   have HF := Lib.hid hF
   clear hE hF
   simp only [Cfg.mv] at c4
   go_upto_region 2 with (go_at_call 106; (with_reducible refine RL.out.mono ?_); rintro e w1 ⟨rfl, m1, L1, hR1, hRel⟩)
   have hF1 : PlF C t m1 L1 := ⟨hR1.hd, HF.out.dec, hR1.le, hR1.lo, fun p hp => HF.out.hz p (by
    have hge := hR1.ge
    simp only [Cfg.mv] at hge
    have : C.o.drop m1 = (C.o.drop m).drop (m1 - m) := by rw [List.drop_drop]; congr 1; omega
    rw [this] at hp
    exact List.mem_of_mem_drop hp)⟩
   obtain ⟨vc, vs, ve, rb, rv, hE1⟩ := hR1.ex
   have hE1 : Ex C w1 (C.mv t m1 L1) vc vs ve rb rv (lfN C.js (C.st t).dn) := hE1
   have hRel : Rel C.js C.o m1 t := hRel
   have l4 := World.block_lt_of_cell? w1 _ hE1.c4
   have QT := Lib.hid (quiet_any hC hE1 (show 0 ≤ (t : Int) ∧ (t : Int) ≤ 9223372036854775807 by omega))
   have E1 := Lib.hid hE1
   have F1 := Lib.hid hF1
   have RE := Lib.hid hRel
   have d4 := hE1.c4
   simp only [Cfg.mv] at d4
   clear hR1 hF1 hRel hE1 RL c4 HF
   cases L1 with
   | nil =>
     have FN := Lib.hid (fun W (hB : Below w1.heap.size w1 W) => first_none (E1.out.later hC hB) rfl)
     cases hd : C.o.drop m1 with
     | nil =>
       have hrel : relS C (C.mv t m1 []) = 9223372036854775807 := by unfold relS; simp only [Cfg.mv, hd]
       rw [hrel] at QT
       have HD := Lib.hid hd
       obtain ⟨g, off, cs, hvc, -⟩ := E1.out.com.ex
       simp only [Cfg.mv, hd, List.length_nil] at hvc
       subst hvc
       have d1 := E1.out.c1
       have l1 := World.block_lt_of_cell? w1 _ d1
       clear hrel hd
       go_upto_region 8 with (first
        | (go_at_call 108; (with_reducible refine QT.out.mono ?_); rintro e w2 ⟨rfl, nq, rfl⟩; have F2 := Lib.hid (FN.out _ (below_drewN2 w1 nq)))
        | (go_at_call 109; (with_reducible refine F2.out.mono ?_); rintro e w3 ⟨rfl, hB3⟩; have B3 := Lib.hid ((below_drewN2 w1 nq).trans (hB3.mono (by simp)));
           have y1 := (B3.out.cell (p := ⟨C.bx, 1, none⟩) l1).trans d1))
       have hdn := F1.out.ended hC HD.out
       have e := run_done (ts := C.ts) hC.lg hdn (T - t)
       rw [show t + (T - t) = T by omega] at e
       have EE := Lib.hid e
       have FIN := Lib.hid (E1.out.later hC B3.out)
       clear hdn e
       go_wp2
       first | rw [Exit.noGoto_ret] | simp only [Exit.noGoto] | skip
       go_end0
       exact ⟨rfl, _, _, _, _, _, _, _, FIN.out, EE.out.2.1.symm, EE.out.2.2.symm⟩
     | cons p r =>
       have hrel : relS C (C.mv t m1 []) = (jb C.js p).r - t := by unfold relS; simp only [Cfg.mv, hd]
       rw [hrel] at QT
       have hpl : p < C.js.length := hC.rel (List.mem_of_mem_drop (i := m1) (by rw [hd]; simp))
       have hrp := RE.out.hi p (by rw [hd]; simp)
       have hrb := hC.bd p hpl
       obtain ⟨k, hk⟩ : ∃ k : Nat, min ((jb C.js p).r - t) (en - t) = (k : Int) := ⟨(min ((jb C.js p).r - t) (en - t)).toNat, by omega⟩
       have hTen := HT.out
       have hk1 : 1 ≤ k := by omega
       have hkT : t + k ≤ T := by omega
       have hkr : (t : Int) + k ≤ (jb C.js p).r := by omega
       have IDL := Lib.hid (F1.out.idle hC RE.out hk1 (far hC RE.out hd hkr))
       have HD := Lib.hid hd
       obtain ⟨g, off, cs, hvc, -⟩ := E1.out.com.ex
       simp only [Cfg.mv, hd, List.length_cons] at hvc
       subst hvc
       have d1 := E1.out.c1
       have l1 := World.block_lt_of_cell? w1 _ d1
       have lz : (((r.length + 1 : Nat) : Int) == 0) = false := by rw [beq_eq_false_iff_ne]; omega
       have wsub : IntKind.i64.wrap (en - t) = en - t := IntWalk.i64_in _ (by omega)
       have WT := Lib.hid (fun W (hB : Below w1.heap.size w1 W) => wait_any hC (E1.out.later hC hB) (k : Int) (show (0 : Int) ≤ (t : Int) by omega) (by omega) (show (t : Int) + k ≤ 9223372036854775807 by omega))
       have HK := Lib.hid hk
       clear hrel hd hTen hkr hrp hrb hpl
       go_upto_region 9 with (first
        | (go_at_call 108; (with_reducible refine QT.out.mono ?_); rintro e w2 ⟨rfl, nq, rfl⟩; have F2 := Lib.hid (FN.out _ (below_drewN2 w1 nq)))
        | (go_at_call 109; (with_reducible refine F2.out.mono ?_); rintro e w3 ⟨rfl, hB3⟩; have B3 := Lib.hid ((below_drewN2 w1 nq).trans (hB3.mono (by simp)));
           have y1 := (B3.out.cell (p := ⟨C.bx, 1, none⟩) l1).trans d1))
       have y4 := (B3.out.cell (p := ⟨C.bx, 4, none⟩) l4).trans d4
       have W3 := Lib.hid (WT.out _ B3.out)
       clear y1 d1 d4 l1
       go_wp2_with (go_at_call 107; (with_reducible refine W3.out.mono ?_); rintro e w4 ⟨rfl, vc4, vs4, ve4, rb4, rv4, hE4⟩)
       have NX := Lib.hid (show PlI C T (t + k) w4 from by
        obtain ⟨e1, e2⟩ := IDL.out
        have e3 : ({ C.mv t m1 [] with now := (C.mv t m1 []).now + (k : Int) } : Mv) = C.mv (t + k) m1 [] := by
         have ec : ((t + k : Nat) : Int) = (t : Int) + k := by omega
         unfold Cfg.mv
         rw [e1, ec]
        rw [e3] at hE4
        have e4 : (C.st (t + k)).dn = (C.st t).dn := by rw [e1]
        refine ⟨⟨m1, [], _, vc4, vs4, ve4, rb4, rv4, hE4, fun _ => ⟨by rw [e4], e2⟩⟩, hkT⟩)
       clear hE4
       go_roundg (gk - k)
       case measure => omega
       case rel => exact ⟨t + k, by omega, NX⟩
   | cons x r =>
     obtain ⟨τ, i, rest, rfl, hτ, hq, hwho⟩ := F1.out.who_some hC RE.out
     have hiq : i ∈ quS C.js (C.st t).dn (C.o.take m1) τ := by rw [hq]; simp
     obtain ⟨a1, a2, a3⟩ := quS_mem.1 hiq
     have hil : i < C.js.length := hC.rel (List.mem_of_mem_take a1)
     have hbd := hC.bd i hil
     have hI := (hC.ti t).d0 i hil
     have FN := Lib.hid (fun W (hB : Below w1.heap.size w1 W) => first_some (M := C.mv t m1 ((τ : Int) :: r)) hC (E1.out.later hC hB) rfl hτ hq)
     have hTen := HT.out
     have RS := Lib.hid (fun W (hB : Below w1.heap.size w1 W) => (E1.out.later hC hB).rs i a1 a3)
     have wsub : IntKind.i64.wrap (en - t) = en - t := IntWalk.i64_in _ (by omega)
     have hwth := F1.out.wth hC i
     cases hcl : cl (jb C.js i).c (kO (C.st t).dn i) with
     | cons a l =>
       obtain ⟨s1, s2, s3, s4, s5⟩ := cl_step _ _ _ _ (hC.lg.pos i) hI.1 hwth hcl
       have hfit := hC.lg.fit i hil
       obtain ⟨k, hk⟩ : ∃ k : Nat, min a (en - t) = (k : Int) := ⟨(min a (en - t)).toNat, by omega⟩
       have hk1 : 1 ≤ k := by omega
       have hkT : t + k ≤ T := by omega
       have hka : (k : Int) ≤ a := by omega
       have hfull : t + k < T → (k : Int) = a := by omega
       have RUN := Lib.hid (run_sec (ts := C.ts) hC.lg hwho hwth hcl k hk1 hka)
       have SC := Lib.hid (fun W (hB : Below w1.heap.size w1 W) => section_any (n := (k : Int)) (a := a) (l := l) hC (E1.out.later hC hB) (wkh_of hC HTOT.out rfl hτ hq (by omega) (by omega) (by omega)) hcl)
       have FULL := Lib.hid hfull
       have S4 := Lib.hid s4
       have S5 := Lib.hid s5
       have HK := Lib.hid hk
       have HQ := Lib.hid hq
       have KB := Lib.hid (show kO (C.st t).dn i + k ≤ (jb C.js i).k by omega)
       have CLL := Lib.hid hcl
       have qv : Hid (relS C (C.mv t m1 ((τ : Int) :: r)) = relS C (C.mv t m1 ((τ : Int) :: r))) := Lib.hid rfl
       generalize relS C (C.mv t m1 ((τ : Int) :: r)) = rel at *
       clear hfull s2 s3 s4 s5 hq hiq a2 a3 hbd hI hwth hcl hfit hwho hTen
       go_upto_region 4 with (first
        | (go_at_call 108; (with_reducible refine QT.out.mono ?_); rintro e w2 ⟨rfl, nq, rfl⟩; have F2 := Lib.hid (FN.out _ (below_drewN2 w1 nq)))
        | (go_at_call 109; (with_reducible refine F2.out.mono ?_); rintro e w3 ⟨rfl, hB3⟩; have B3 := Lib.hid ((below_drewN2 w1 nq).trans (hB3.mono (by simp)))))
       have y4 := (B3.out.cell (p := ⟨C.bx, 4, none⟩) l4).trans d4
       obtain ⟨A, cc, hA, hcr⟩ := (RS.out _ B3.out).is
       have ecl : (lfN C.js (C.st t).dn i).2 = a :: l := CLL.out
       rw [ecl] at hA hcr
       obtain ⟨b, o, rfl, hca⟩ := hcr.at_ 0 a rfl
       have hle := hcr.le
       have hmx := hcr.mx
       rw [List.length_cons] at hA hle
       have q2 := cell_of_row w3 (rb i) 2 _ _ _ hA
       simp only [List.getElem?_toArray, List.getElem?_cons_zero, List.getElem?_cons_succ] at q2
       have q3 : w3.cell? ⟨b, o, none⟩ = some (.int .i64 a) := by
        have := ((E1.out.later hC B3.out).bel.cell (p := ⟨b, o + 0, none⟩) (World.block_lt_of_cell? _ _ hca)).trans hca
        rwa [Nat.add_zero] at this
       have lz : (0 : Int) < ((l.length + 1 : Nat) : Int) := by omega
       have S3 := Lib.hid (SC.out _ B3.out)
       clear hA hcr hca hB3 d4 ecl
       go_upto_region 5 with (fail)
       first | go_quiet (fail) | go_region
       have y4' : (w3.drewN nq).cell? ⟨C.bx, 4, none⟩ = some (.int .i64 (t : Int)) := y4
       have S4' := Lib.hid (SC.out _ (B3.out.trans ((below_drewN2 w3 nq).mono B3.out.size)))
       clear y4 q2 q3 S3
       go_wp2_with (go_at_call 110; (with_reducible refine S4'.out.mono ?_); rintro e w4 ⟨rfl, vc4, vs4, ve4, rb4, rv4, hE4⟩)
       have NX := Lib.hid (show PlI C T (t + k) w4 from pl_next hE4 RUN.out hkT (fun hlt2 => ⟨F1.out.ran hC rfl HQ.out hk1 RUN.out KB.out (by rw [FULL.out hlt2]; exact S4.out), lf_sec hC hil (by rw [FULL.out hlt2]; exact S5.out) RUN.out⟩))
       clear hE4
       go_roundg (gk - k)
       case measure => omega
       case rel => exact ⟨t + k, by omega, NX⟩
     | nil =>
       obtain ⟨hr1, hr2⟩ : 1 ≤ relS C (C.mv t m1 ((τ : Int) :: r)) ∧ ∀ k : Nat, (k : Int) ≤ relS C (C.mv t m1 ((τ : Int) :: r)) → ∀ j, j < C.js.length → (jb C.js j).r ≤ t ∨ (t : Int) + k ≤ (jb C.js j).r := by
        unfold relS
        simp only [Cfg.mv]
        cases hd : C.o.drop m1 with
        | nil =>
          simp only
          exact ⟨by omega, fun k _ => far_nil hC RE.out hd k⟩
        | cons p r' =>
          have hrp := RE.out.hi p (by rw [hd]; simp)
          simp only
          exact ⟨by omega, fun k hk => far hC RE.out hd (by omega)⟩
       generalize relS C (C.mv t m1 ((τ : Int) :: r)) = rel at *
       obtain ⟨k, hk⟩ : ∃ k : Nat, min (min ((jb C.js i).k - kO (C.st t).dn i) rel) (en - t) = (k : Int) := ⟨(min (min ((jb C.js i).k - kO (C.st t).dn i) rel) (en - t)).toNat, by omega⟩
       have hk1 : 1 ≤ k := by omega
       have hkT : t + k ≤ T := by omega
       have hkk : kO (C.st t).dn i + k ≤ (jb C.js i).k := by omega
       have RUN := Lib.hid (run_free (ts := C.ts) hC.lg F1.out.dec hwho hcl hkk (hr2 k (by omega)) k hk1 (Nat.le_refl _))
       have SC := Lib.hid (fun W (hB : Below w1.heap.size w1 W) => work_any (n := (k : Int)) hC (E1.out.later hC hB) (wkh_of hC HTOT.out rfl hτ hq (by omega) (by omega) (by omega)))
       have CLN := Lib.hid ((cl_none _ _ hcl k (by omega)).1)
       have KB := Lib.hid hkk
       have HK := Lib.hid hk
       have HQ := Lib.hid hq
       have CLL := Lib.hid hcl
       obtain ⟨kw, hkw⟩ : ∃ kw, (jb C.js i).k - kO (C.st t).dn i = kw := ⟨_, rfl⟩
       have HKW := Lib.hid hkw
       rw [hkw] at hk
       clear hr2 hq hiq a2 a3 hbd hI hwth hcl hwho hTen hkk hkw
       go_upto_region 4 with (first
        | (go_at_call 108; (with_reducible refine QT.out.mono ?_); rintro e w2 ⟨rfl, nq, rfl⟩; have F2 := Lib.hid (FN.out _ (below_drewN2 w1 nq)))
        | (go_at_call 109; (with_reducible refine F2.out.mono ?_); rintro e w3 ⟨rfl, hB3⟩; have B3 := Lib.hid ((below_drewN2 w1 nq).trans (hB3.mono (by simp)))))
       have y4 := (B3.out.cell (p := ⟨C.bx, 4, none⟩) l4).trans d4
       obtain ⟨A, cc, hA, hcr⟩ := (RS.out _ B3.out).is
       have ecl : lfN C.js (C.st t).dn i = (kw, []) := by unfold lfN; rw [CLL.out, HKW.out]
       rw [ecl] at hA
       simp only [List.length_nil] at hA
       have q2 := cell_of_row w3 (rb i) 2 _ _ _ hA
       have q1 := cell_of_row w3 (rb i) 1 _ _ _ hA
       simp only [List.getElem?_toArray, List.getElem?_cons_zero, List.getElem?_cons_succ] at q2 q1
       clear hA hcr hB3 d4 ecl
       go_upto_region 7 with (fail)
       first | go_quiet (fail) | go_region
       have y4' : (w3.drewN nq).cell? ⟨C.bx, 4, none⟩ = some (.int .i64 (t : Int)) := y4
       have S4' := Lib.hid (SC.out _ (B3.out.trans ((below_drewN2 w3 nq).mono B3.out.size)))
       clear y4 q2 q1
       go_wp2_with (go_at_call 111; (with_reducible refine S4'.out.mono ?_); rintro e w4 ⟨rfl, vc4, vs4, ve4, rb4, rv4, hE4⟩)
       have NX := Lib.hid (show PlI C T (t + k) w4 from pl_next hE4 RUN.out hkT (fun hlt2 => ⟨F1.out.ran hC rfl HQ.out hk1 RUN.out KB.out CLN.out, lf_free hC hil CLL.out RUN.out⟩))
       clear hE4
       go_roundg (gk - k)
       case measure => omega
       case rel => exact ⟨t + k, by omega, NX⟩
  ·have hte : t = T := by omega
   subst hte
   have ten : ¬ ((t : Int) < en) := by have := HT.out; omega
   simp only [Cfg.mv] at c4
   have HX := Lib.hid hE
   clear hE hF
   go_wp2
   first | rw [Exit.noGoto_ret] | simp only [Exit.noGoto] | skip
   go_end0
   exact ⟨rfl, _, _, _, _, _, _, _, HX.out, rfl, rfl⟩
end
end Go.Proofs.YthfkbbiaemmndaaGreatDoor
