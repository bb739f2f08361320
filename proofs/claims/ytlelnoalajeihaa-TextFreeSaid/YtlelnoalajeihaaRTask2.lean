/- The document's task: the walk. -/
import Derived.Test.YtlelnoalajeihaaRTask
namespace Go.Proofs.Ytlelnoalajeihaa
open Go.RowKit
set_option linter.unusedVariables false
set_option linter.unusedSimpArgs false

def RBad (w : World) (br bt : Nat) (A : Option Addr) (cap : Nat) (ts : List Tk) (i n : Nat) (e : Ending) (w' : World) : Prop :=
  ∃ j, e = .returned (.bool false) ∧ RR w' br A cap ts j n ∧ Kept [br, bt] w w' ∧ tasksS (restS ts i n) = ([], restS ts j n) ∧ j ≤ ts.length
def ROk (w : World) (br bt : Nat) (A : Option Addr) (cap : Nat) (ts : List Tk) (i n : Nat) (e : Ending) (w' : World) : Prop :=
  ∃ j t, e = .returned (.bool true) ∧ RR w' br A cap ts j n ∧ w'.heap[bt]? = some (.cells (tsL t).toArray 33 (0, 0)) ∧ Kept [br, bt] w w' ∧ TsW t ∧ tasksS (restS ts i n) = (t :: (tasksS (restS ts j n)).1, (tasksS (restS ts j n)).2) ∧ i < j ∧ j ≤ ts.length
def RPost (w : World) (br bt : Nat) (A : Option Addr) (cap : Nat) (ts : List Tk) (i n : Nat) (e : Ending) (w' : World) : Prop := RBad w br bt A cap ts i n e w' ∨ ROk w br bt A cap ts i n e w'
theorem task_test (t : List UInt8) : ((bs t).toList == [116, 97, 115, 107]) = decide (t = taskW) := text_task t

theorem RR.inc {w : World} {br : Nat} {A : Option Addr} {cap : Nat} {ts : List Tk} {i n : Nat} (h : RR w br A cap ts i n) : RR (w.setCell ⟨br, 1, none⟩ (.int .i64 ((i : Int) + 1))) br A cap ts (i + 1) n := by
  have := h.step (i + 1)
  rwa [show ((i + 1 : Nat) : Int) = (i : Int) + 1 by omega] at this
/-- Numbers in a block. -/
def NB (W : World) (b6 : Nat) (v0 v1 v2 v3 v4 v5 : Int) : Prop := W.heap[b6]? = some (.cells #[.int .i64 v0, .int .i64 v1, .int .i64 v2, .int .i64 v3, .int .i64 v4, .int .i64 v5] 93 (0, 0))
def TC (W : World) (bt : Nat) (nm : List UInt8) (v1 v2 v3 v4 v5 v6 : Int) : Prop := W.heap[bt]? = some (.cells #[.string (bs nm), .int .i64 v1, .int .i64 v2, .int .i64 v3, .int .i64 v4, .int .i64 v5, .int .i64 v6] 33 (0, 0))
theorem NB.other {W : World} {b6 bt i : Nat} {v0 v1 v2 v3 v4 v5 : Int} {u : Value} (h : NB W b6 v0 v1 v2 v3 v4 v5) (hne : b6 ≠ bt) : NB (W.setCell ⟨bt, i, none⟩ u) b6 v0 v1 v2 v3 v4 v5 := (heap_setCell_other W ⟨bt, i, none⟩ b6 u hne).trans h
theorem NB.c0 {W : World} {b6 : Nat} {v0 v1 v2 v3 v4 v5 : Int} (h : NB W b6 v0 v1 v2 v3 v4 v5) : W.cell? ⟨b6, 0, none⟩ = some (.int .i64 v0) := by rw [cell_of_row W b6 0 _ _ _ h]; rfl
theorem NB.c1 {W : World} {b6 : Nat} {v0 v1 v2 v3 v4 v5 : Int} (h : NB W b6 v0 v1 v2 v3 v4 v5) : W.cell? ⟨b6, 1, none⟩ = some (.int .i64 v1) := by rw [cell_of_row W b6 1 _ _ _ h]; rfl
theorem NB.c2 {W : World} {b6 : Nat} {v0 v1 v2 v3 v4 v5 : Int} (h : NB W b6 v0 v1 v2 v3 v4 v5) : W.cell? ⟨b6, 2, none⟩ = some (.int .i64 v2) := by rw [cell_of_row W b6 2 _ _ _ h]; rfl
theorem NB.c3 {W : World} {b6 : Nat} {v0 v1 v2 v3 v4 v5 : Int} (h : NB W b6 v0 v1 v2 v3 v4 v5) : W.cell? ⟨b6, 3, none⟩ = some (.int .i64 v3) := by rw [cell_of_row W b6 3 _ _ _ h]; rfl
theorem NB.c4 {W : World} {b6 : Nat} {v0 v1 v2 v3 v4 v5 : Int} (h : NB W b6 v0 v1 v2 v3 v4 v5) : W.cell? ⟨b6, 4, none⟩ = some (.int .i64 v4) := by rw [cell_of_row W b6 4 _ _ _ h]; rfl
theorem NB.c5 {W : World} {b6 : Nat} {v0 v1 v2 v3 v4 v5 : Int} (h : NB W b6 v0 v1 v2 v3 v4 v5) : W.cell? ⟨b6, 5, none⟩ = some (.int .i64 v5) := by rw [cell_of_row W b6 5 _ _ _ h]; rfl
theorem TC.c1 {W : World} {bt : Nat} {nm : List UInt8} {v1 v2 v3 v4 v5 v6 : Int} (h : TC W bt nm v1 v2 v3 v4 v5 v6) : W.cell? ⟨bt, 1, none⟩ = some (.int .i64 v1) := by rw [cell_of_row W bt 1 _ _ _ h]; rfl
theorem TC.c2 {W : World} {bt : Nat} {nm : List UInt8} {v1 v2 v3 v4 v5 v6 : Int} (h : TC W bt nm v1 v2 v3 v4 v5 v6) : W.cell? ⟨bt, 2, none⟩ = some (.int .i64 v2) := by rw [cell_of_row W bt 2 _ _ _ h]; rfl
theorem TC.c3 {W : World} {bt : Nat} {nm : List UInt8} {v1 v2 v3 v4 v5 v6 : Int} (h : TC W bt nm v1 v2 v3 v4 v5 v6) : W.cell? ⟨bt, 3, none⟩ = some (.int .i64 v3) := by rw [cell_of_row W bt 3 _ _ _ h]; rfl
theorem TC.c4 {W : World} {bt : Nat} {nm : List UInt8} {v1 v2 v3 v4 v5 v6 : Int} (h : TC W bt nm v1 v2 v3 v4 v5 v6) : W.cell? ⟨bt, 4, none⟩ = some (.int .i64 v4) := by rw [cell_of_row W bt 4 _ _ _ h]; rfl
theorem TC.c5 {W : World} {bt : Nat} {nm : List UInt8} {v1 v2 v3 v4 v5 v6 : Int} (h : TC W bt nm v1 v2 v3 v4 v5 v6) : W.cell? ⟨bt, 5, none⟩ = some (.int .i64 v5) := by rw [cell_of_row W bt 5 _ _ _ h]; rfl
theorem TC.c6 {W : World} {bt : Nat} {nm : List UInt8} {v1 v2 v3 v4 v5 v6 : Int} (h : TC W bt nm v1 v2 v3 v4 v5 v6) : W.cell? ⟨bt, 6, none⟩ = some (.int .i64 v6) := by rw [cell_of_row W bt 6 _ _ _ h]; rfl
theorem TC.s1 {W : World} {bt : Nat} {nm : List UInt8} {v1 v2 v3 v4 v5 v6 : Int} (h : TC W bt nm v1 v2 v3 v4 v5 v6) (v : Int) : TC (W.setCell ⟨bt, 1, none⟩ (.int .i64 v)) bt nm v v2 v3 v4 v5 v6 := heap_setCell_same W bt 1 _ _ _ h
theorem TC.s2 {W : World} {bt : Nat} {nm : List UInt8} {v1 v2 v3 v4 v5 v6 : Int} (h : TC W bt nm v1 v2 v3 v4 v5 v6) (v : Int) : TC (W.setCell ⟨bt, 2, none⟩ (.int .i64 v)) bt nm v1 v v3 v4 v5 v6 := heap_setCell_same W bt 2 _ _ _ h
theorem TC.s3 {W : World} {bt : Nat} {nm : List UInt8} {v1 v2 v3 v4 v5 v6 : Int} (h : TC W bt nm v1 v2 v3 v4 v5 v6) (v : Int) : TC (W.setCell ⟨bt, 3, none⟩ (.int .i64 v)) bt nm v1 v2 v v4 v5 v6 := heap_setCell_same W bt 3 _ _ _ h
theorem TC.s4 {W : World} {bt : Nat} {nm : List UInt8} {v1 v2 v3 v4 v5 v6 : Int} (h : TC W bt nm v1 v2 v3 v4 v5 v6) (v : Int) : TC (W.setCell ⟨bt, 4, none⟩ (.int .i64 v)) bt nm v1 v2 v3 v v5 v6 := heap_setCell_same W bt 4 _ _ _ h
theorem TC.s5 {W : World} {bt : Nat} {nm : List UInt8} {v1 v2 v3 v4 v5 v6 : Int} (h : TC W bt nm v1 v2 v3 v4 v5 v6) (v : Int) : TC (W.setCell ⟨bt, 5, none⟩ (.int .i64 v)) bt nm v1 v2 v3 v4 v v6 := heap_setCell_same W bt 5 _ _ _ h
theorem TC.s6 {W : World} {bt : Nat} {nm : List UInt8} {v1 v2 v3 v4 v5 v6 : Int} (h : TC W bt nm v1 v2 v3 v4 v5 v6) (v : Int) : TC (W.setCell ⟨bt, 6, none⟩ (.int .i64 v)) bt nm v1 v2 v3 v4 v5 v := heap_setCell_same W bt 6 _ _ _ h
theorem TC.f {W : World} {bt : Nat} {nm : List UInt8} {v1 v2 v3 v4 v5 v6 : Int} (h : TC W bt nm v1 v2 v3 v4 v5 v6) (i : Nat) : W.frozen? ⟨bt, i, none⟩ = false := frozen_of_row W bt i _ _ h
/-- A store into the numbers' block. -/
theorem num_kept {w W : World} {br bt b6 i : Nat} {A : Option Addr} {cap : Nat} {ts : List Tk} {j n : Nat} {nm : List UInt8} (hb : w.heap.size ≤ b6) (hbr : br < w.heap.size) (hbt : bt < w.heap.size) (hg : ∀ g, A = some ⟨g, 0, none⟩ → g < w.heap.size)
    (hR : RR W br A cap ts j n) (hT : W.heap[bt]? = some (.cells (tsL (partT nm fnone)).toArray 33 (0, 0))) (hK : Kept [br, bt] w W) (v : Value) :
    RR (W.setCell ⟨b6, i, none⟩ v) br A cap ts j n ∧ (W.setCell ⟨b6, i, none⟩ v).heap[bt]? = some (.cells (tsL (partT nm fnone)).toArray 33 (0, 0)) ∧ Kept [br, bt] w (W.setCell ⟨b6, i, none⟩ v) := by
  have k := (Kept.refl [b6] W).set b6 i v (by simp)
  refine ⟨hR.kept k (by simp; omega) (fun g e => by have := hg g e; simp; omega), (heap_setCell_other W ⟨b6, i, none⟩ bt v (by simp only; omega)).trans hT, ?_⟩
  exact ((hK.mono (Y := [br, bt, b6]) (by simp)).trans (k.mono (by simp))).less (fun q hq => by
    simp at hq
    rcases hq with rfl | rfl | rfl
    · exact .inl (by simp)
    · exact .inl (by simp)
    · exact .inr hb)
/-- What the inner loop holds. -/
structure InR (w : World) (br bt b5 b6 : Nat) (A : Option Addr) (cap : Nat) (ts : List Tk) (i n : Nat) (nm : List UInt8) (g : Nat) (W : World) (j : Nat) (F : Fl) : Prop where
  rr : RR W br A cap ts j n
  lb : LB W b5 b6 F
  task : W.heap[bt]? = some (.cells (tsL (partT nm fnone)).toArray 33 (0, 0))
  kept : Kept [br, bt] w W
  eq : fieldsS (restS ts (i + 2) n) fnone = fieldsS (restS ts j n) F
  flw : FlW F
  lo : i + 2 ≤ j
  hi : j ≤ ts.length
  le : ts.length - j ≤ g

set_option maxRecDepth 100000 in
set_option maxHeartbeats 8000000 in
theorem rtask_any {w : World} {br bt : Nat} {A : Option Addr} {cap : Nat} {ts : List Tk} {i n : Nat} (hR : RR w br A cap ts i n) (hi : i < ts.length) (h4 : (hd ts i n).k ≠ 4) (hG : ∀ x ∈ ts, Good x) (hk0 : ∀ x ∈ ts, x.k ≠ 0) (hS : Small (restS ts i n))
    (hT : w.heap[bt]? = some (.cells (tsL ⟨{ data := #[] }, 0, 0, 0, 0, 0, 0⟩).toArray 33 (0, 0))) (hbb : br ≠ bt) (hgt : ∀ g, A = some ⟨g, 0, none⟩ → g ≠ bt) :
    Calls Try.prog 28 #[.pointer (some ⟨br, 0, none⟩), .pointer (some ⟨bt, 0, none⟩)] w (RPost w br bt A cap ts i n) := by
  have hx : hd ts i n ∈ ts := by
    rw [hd, List.getElem?_eq_getElem hi]
    exact List.getElem_mem hi
  have hgx := hG _ hx
  have hrest := restS_hd ts i n
  rw [tlS_lt hi] at hrest
  have K := Lib.hid (kind_any hR)
  have HR := Lib.hid hR
  by_cases h1 : kAt ts i = 1
  · have e1 : ((kAt ts i : Nat) : Int) = 1 := by omega
    rw [e1] at K
    have hk1 := (kAt_is (n := n) (by omega)).1 h1
    by_cases ht : tAt ts i = taskW
    · have TT := Lib.hid (fun W (hB : Below w.heap.size w W) => text_any (hR.later hB))
      have hw : ((bs (tAt ts i)).toList == [116, 97, 115, 107]) = true := by rw [task_test]; exact decide_eq_true ht
      have HT := Lib.hid ((tAt_hd (n := n)).symm.trans ht)
      have H4 := Lib.hid h4
      have HREST := Lib.hid hrest
      generalize tAt ts i = t0 at *
      have H1 := Lib.hid hk1
      clear hR h1 e1 hk1 ht h4 hrest hgx hx
      go_enter Try.func28, Try.ntmps28
      have hib : (i : Int) + 1 ≤ 9223372036854775807 := by have := HR.out.tk.le; have := HR.out.tk.mx; omega
      go_upto_region 4 with (first
        | (go_at_call 27; (with_reducible refine K.out.mono ?_); rintro e W1 ⟨rfl, hB1⟩; have HB1 := Lib.hid hB1; clear hB1)
        | (go_at_call 44; (with_reducible refine (TT.out _ HB1.out).mono ?_); rintro e W2 ⟨rfl, hB2⟩; have R2 := (HR.out.later HB1.out).later hB2; have c1 := R2.c1; have f1 := R2.frozen 1; have HR2 := Lib.hid R2; have HK2 := Lib.hid ((Kept.of [br] HB1.out).later hB2); clear R2 hB2))
      obtain ⟨W3, hW3, R3, K3⟩ : ∃ W3, W2.setCell ⟨br, 1, none⟩ (.int .i64 ((i : Int) + 1)) = W3 ∧ RR W3 br A cap ts (i + 1) n ∧ Kept [br] w W3 :=
        ⟨_, rfl, HR2.out.inc, HK2.out.set br 1 _ (by simp)⟩
      rw [hW3]
      have Kn := Lib.hid (kind_any R3)
      have HR3 := Lib.hid R3
      have HK3 := Lib.hid K3
      clear hW3 c1 f1 HR2 HK2 K TT hw R3 K3
      by_cases h2 : kAt ts (i + 1) = 1
      · have e2 : ((kAt ts (i + 1) : Nat) : Int) = 1 := by omega
        have hi1 : i + 1 < ts.length := kAt_lt (by omega)
        have H2 := Lib.hid ((kAt_is (n := n) (by omega)).1 h2)
        rw [e2] at Kn
        have hib2 : (i : Int) + 1 + 1 ≤ 9223372036854775807 := by have := HR3.out.tk.le; have := HR3.out.tk.mx; omega
        clear e2 h2
        go_upto_region 6 with (go_at_call 27; (with_reducible refine Kn.out.mono ?_); rintro e W4 ⟨rfl, hB4⟩)
        have R4 := HR3.out.later hB4
        have T4 := Lib.hid (text_any R4)
        have HR4 := Lib.hid R4
        have HK4 := Lib.hid (HK3.out.later hB4)
        have htl : bt < w.heap.size := (Array.getElem?_eq_some_iff.1 hT).1
        have HTB := Lib.hid hT
        clear R4 hB4 hT
        go_upto_region 7 with (go_at_call 44; (with_reducible refine T4.out.mono ?_); rintro e W5 ⟨rfl, hB5⟩; have K5 := HK4.out.later hB5; have q5 := (K5.block bt htl (by simp; exact hbb.symm)).trans HTB.out; have cc := (cell_of_row W5 bt 0 _ _ _ q5); have ff := frozen_of_row W5 bt 0 _ _ q5; simp only [tsL, List.size_toArray, List.length_cons, List.length_nil, List.getElem?_toArray, List.getElem?_cons_zero] at cc)
        obtain ⟨W6, hW6, T6, R6, K6⟩ : ∃ W6, W5.setCell ⟨bt, 0, none⟩ (.string (bs (tAt ts (i + 1)))) = W6 ∧ W6.heap[bt]? = some (.cells (tsL (partT (tAt ts (i + 1)) fnone)).toArray 33 (0, 0)) ∧ RR W6 br A cap ts (i + 1) n ∧ Kept [br, bt] w W6 := by
          refine ⟨_, rfl, ?_, (HR4.out.later hB5).kept ((Kept.refl [bt] W5).set bt 0 _ (by simp)) (by simp; exact hbb) (fun g e => by simp; exact hgt g e), (K5.mono (Y := [br, bt]) (by simp)).set bt 0 _ (by simp)⟩
          rw [heap_setCell_same _ bt 0 _ _ _ q5]
          simp [tsL, partT, fv, fnone]
        rw [hW6]
        have c1 := R6.c1
        have f1 := R6.frozen 1
        have HT6 := Lib.hid T6
        have HR6 := Lib.hid R6
        have HK6 := Lib.hid K6
        clear hW6 T6 R6 K6 K5 q5 cc ff hB5
        go_upto_region 8 with (fail)
        obtain ⟨W7, hW7, R7, K7, T7⟩ : ∃ W7, W6.setCell ⟨br, 1, none⟩ (.int .i64 ((i : Int) + 1 + 1)) = W7 ∧ RR W7 br A cap ts (i + 2) n ∧ Kept [br, bt] w W7 ∧ W7.heap[bt]? = some (.cells (tsL (partT (tAt ts (i + 1)) fnone)).toArray 33 (0, 0)) :=
          ⟨_, rfl, by have := HR6.out.step (i + 2); rwa [show ((i + 2 : Nat) : Int) = (i : Int) + 1 + 1 by omega] at this, HK6.out.set br 1 _ (by simp), (heap_setCell_other _ ⟨br, 1, none⟩ bt _ hbb.symm).trans HT6.out⟩
        rw [hW7]
        clear hW7 c1 f1 HT6 HR6 HK6
        go_upto_region 9 with (fail)
        obtain ⟨b5, h5⟩ : ∃ b5, W7.heap.size = b5 := ⟨_, rfl⟩
        have hsz := K7.size
        obtain ⟨W9, hW9, LB9, R9, T9, K9, S9⟩ : ∃ W9, (W7.alloc (.cells #[.bool false, .bool false, .bool false, .bool false, .bool false, .bool false] 92)).alloc (.cells #[.int .i64 0, .int .i64 0, .int .i64 0, .int .i64 0, .int .i64 0, .int .i64 0] 93) = W9 ∧ LB W9 b5 (b5 + 1) fnone ∧ RR W9 br A cap ts (i + 2) n ∧
            W9.heap[bt]? = some (.cells (tsL (partT (tAt ts (i + 1)) fnone)).toArray 33 (0, 0)) ∧ Kept [br, bt] w W9 ∧ b5 + 1 < W9.heap.size := by
          have hb := ((Below.refl W7.heap.size W7).alloc (Nat.le_refl _) (.cells #[.bool false, .bool false, .bool false, .bool false, .bool false, .bool false] 92)).alloc (by simp) (.cells #[.int .i64 0, .int .i64 0, .int .i64 0, .int .i64 0, .int .i64 0, .int .i64 0] 93)
          refine ⟨_, rfl, ⟨?_, ?_⟩, R7.later hb, (hb.block bt (Array.getElem?_eq_some_iff.1 T7).1).trans T7, K7.later hb, by simp; omega⟩
          · rw [Below.heap_alloc _ _ _ (by simp; omega), ← h5]
            exact heap_alloc_new W7 _
          · have := heap_alloc_new (W7.alloc (.cells #[.bool false, .bool false, .bool false, .bool false, .bool false, .bool false] 92)) (.cells #[.int .i64 0, .int .i64 0, .int .i64 0, .int .i64 0, .int .i64 0, .int .i64 0] 93)
            rw [World.size_alloc, h5] at this
            exact this
        have h5w : w.heap.size ≤ b5 := by omega
        have hbrw : br < w.heap.size := HR.out.lt
        have hgw : ∀ g, A = some ⟨g, 0, none⟩ → g < w.heap.size := fun g e => by
          obtain ⟨g', x', e', _, ht'⟩ := HR.out.here hi
          rw [e] at e'; cases e'; exact ht'.lt
        have hIn := Lib.hid (show InR w br bt b5 (b5 + 1) A cap ts i n (tAt ts (i + 1)) ts.length W9 (i + 2) fnone from ⟨R9, LB9, T9, K9, rfl, flw_none, Nat.le_refl _, hi1, by omega⟩)
        clear LB9 R9 T9 K9 S9 R7 K7 T7 hsz
        have HBAD := Lib.hid (fun F' l (he : fieldsS (restS ts (i + 2) n) fnone = (false, F', l)) => T_bad hi1 H4.out HT.out H2.out he)
        have HOK := Lib.hid (fun F' l (he : fieldsS (restS ts (i + 2) n) fnone = (true, F', l)) => T_ok hi1 H4.out HT.out H2.out he)
        have hnm : (tAt ts (i + 1)).length ≤ 100000 := by
          rw [tAt_hd (n := n)]
          exact (hS _ (by rw [restS_hd ts i, tlS_lt hi, restS_hd ts (i + 1)]; simp)).1
        have HNM := Lib.hid hnm
        clear hnm
        generalize tAt ts (i + 1) = nm at *
        go_wp2
        try rw [hW9]
        try rw [h5]
        clear hW9 h5
        generalize hb6 : b5 + 1 = b6 at hIn ⊢
        have h56 : b5 < b6 := by omega
        clear hb6
        go_loopg [7] ts.length (fun gg s7 wr => ∃ j F, InR w br bt b5 b6 A cap ts i n nm gg wr j F)
        case atStart => exact ⟨_, _, hIn.out⟩
        case round =>
          clear hIn
          obtain ⟨j, F, hJ⟩ := hrel
          have HJ := Lib.hid hJ
          have KJ := Lib.hid (kind_any hJ.rr)
          clear hJ
          by_cases hk1 : kAt ts j = 1
          · have e1 : ((kAt ts j : Nat) : Int) = 1 := by omega
            rw [e1] at KJ
            have hj1 : j < ts.length := kAt_lt (by omega)
            have H1 := Lib.hid ((kAt_is (n := n) (by omega)).1 hk1)
            clear hk1 e1
            go_upto_region 11 with (go_at_call 27; (with_reducible refine KJ.out.mono ?_); rintro e W1 ⟨rfl, hB1⟩)
            have R1 := HJ.out.rr.later hB1
            have L1 := HJ.out.lb.later hB1
            have HK1 := Lib.hid (HJ.out.kept.later hB1)
            have HTa := Lib.hid ((hB1.block bt (Array.getElem?_eq_some_iff.1 HJ.out.task).1).trans HJ.out.task)
            have TJ := Lib.hid (text_any R1)
            have FJ := rfield_any (tAt ts j)
            have HR1 := Lib.hid R1
            have HL1 := Lib.hid L1
            clear R1 L1 hB1
            cases hf : fieldIx (tAt ts j) with
            | none =>
              rw [fieldI_none hf] at FJ
              have FJ := Lib.hid FJ
              have HE := Lib.hid (HBAD.out _ _ (HJ.out.eq.trans (S_not (by have := H1.out; omega) hf)))
              clear hf
              go_wp2_with (first
                | (go_at_call 44; (with_reducible refine TJ.out.mono ?_); rintro e W2 ⟨rfl, hB2⟩)
                | (go_at_call 45; (with_reducible refine (FJ.out _).mono ?_); rintro e W3 ⟨rfl, rfl⟩))
              go_ret
              exact .inl ⟨j, rfl, HR1.out.later hB2, HK1.out.later hB2, HE.out, by omega⟩
            | some k =>
              rw [fieldI_some hf] at FJ
              have hk6 := (fieldIx_some hf).1
              have FJ := Lib.hid FJ
              have q1 : decide ((k : Int) < 0) = false := decide_eq_false (by omega)
              have q2 : (0 : Int) ≤ (k : Int) := by omega
              have q3 : (k : Int) < 6 := by omega
              have HF := Lib.hid hf
              clear hf
              rcases (Bool.eq_false_or_eq_true (F k).isSome) with hFk | hFk
              · have HE := Lib.hid (HBAD.out _ _ (HJ.out.eq.trans (S_twice (by have := H1.out; omega) HF.out hFk)))
                have HFK := Lib.hid hFk
                clear hFk
                go_wp2_with (first
                  | (go_at_call 44; (with_reducible refine TJ.out.mono ?_); rintro e W2 ⟨rfl, hB2⟩; have d := (HL1.out.later hB2).tc hk6; rw [HFK.out] at d)
                  | (go_at_call 45; (with_reducible refine (FJ.out _).mono ?_); rintro e W3 ⟨rfl, rfl⟩))
                go_ret
                exact .inl ⟨j, rfl, HR1.out.later hB2, HK1.out.later hB2, HE.out, by omega⟩
              · have HFK := Lib.hid hFk
                have hjb : (j : Int) + 1 ≤ 9223372036854775807 := by have := HR1.out.tk.le; have := HR1.out.tk.mx; omega
                clear hFk
                go_upto_region 15 with (first
                  | (go_at_call 44; (with_reducible refine TJ.out.mono ?_); rintro e W2 ⟨rfl, hB2⟩; have d := (HL1.out.later hB2).tc hk6; rw [HFK.out] at d; have c1 := (HR1.out.later hB2).c1; have f1 := (HR1.out.later hB2).frozen 1)
                  | (go_at_call 45; (with_reducible refine (FJ.out _).mono ?_); rintro e W3 ⟨rfl, rfl⟩))
                obtain ⟨W3, hW3, R3, L3, K3⟩ : ∃ W3, W2.setCell ⟨br, 1, none⟩ (.int .i64 ((j : Int) + 1)) = W3 ∧ RR W3 br A cap ts (j + 1) n ∧ LB W3 b5 b6 F ∧ Kept [br, bt] w W3 :=
                  ⟨_, rfl, (HR1.out.later hB2).inc, (HL1.out.later hB2).kept ((Kept.refl [br] W2).set br 1 _ (by simp)) (by simp; omega) (by simp; omega), (HK1.out.later hB2).set br 1 _ (by simp)⟩
                rw [hW3]
                have KY := Lib.hid (kind_any R3)
                have HR3 := Lib.hid R3
                have HL3 := Lib.hid L3
                have HK3 := Lib.hid K3
                have HTb := Lib.hid ((heap_setCell_other W2 ⟨br, 1, none⟩ bt (.int .i64 ((j : Int) + 1)) (by simp only; omega)).trans ((hB2.block bt (Array.getElem?_eq_some_iff.1 HTa.out).1).trans HTa.out))
                rw [hW3] at HTb
                clear hW3 R3 L3 K3 d c1 f1 hB2 TJ FJ HR1 HL1 HK1 KJ HTa
                by_cases hy : kAt ts (j + 1) = 3
                · have ey : ((kAt ts (j + 1) : Nat) : Int) = 3 := by omega
                  rw [ey] at KY
                  have hj2 : j + 1 < ts.length := kAt_lt (by omega)
                  have HY := Lib.hid ((kAt_is (n := n) (by omega)).1 hy)
                  have hjb2 : (j : Int) + 1 + 1 ≤ 9223372036854775807 := by have := HR3.out.tk.le; have := HR3.out.tk.mx; omega
                  clear hy ey
                  go_upto_region 18 with (go_at_call 27; (with_reducible refine KY.out.mono ?_); rintro e W4 ⟨rfl, hB4⟩; have c1 := (HR3.out.later hB4).c1; have f1 := (HR3.out.later hB4).frozen 1)
                  obtain ⟨W5, hW5, R5, L5, K5⟩ : ∃ W5, W4.setCell ⟨br, 1, none⟩ (.int .i64 ((j : Int) + 1 + 1)) = W5 ∧ RR W5 br A cap ts (j + 1 + 1) n ∧ LB W5 b5 b6 F ∧ Kept [br, bt] w W5 :=
                    ⟨_, rfl, by have := (HR3.out.later hB4).step (j + 1 + 1); rwa [show ((j + 1 + 1 : Nat) : Int) = (j : Int) + 1 + 1 by omega] at this, (HL3.out.later hB4).kept ((Kept.refl [br] W4).set br 1 _ (by simp)) (by simp; omega) (by simp; omega), (HK3.out.later hB4).set br 1 _ (by simp)⟩
                  rw [hW5]
                  have KZ := Lib.hid (kind_any R5)
                  have HR5 := Lib.hid R5
                  have HL5 := Lib.hid L5
                  have HK5 := Lib.hid K5
                  have HTc := Lib.hid ((heap_setCell_other W4 ⟨br, 1, none⟩ bt (.int .i64 ((j : Int) + 1 + 1)) (by simp only; omega)).trans ((hB4.block bt (Array.getElem?_eq_some_iff.1 HTb.out).1).trans HTb.out))
                  rw [hW5] at HTc
                  clear hW5 R5 L5 K5 c1 f1 hB4 HR3 HL3 HK3 KY HTb
                  by_cases hz : kAt ts (j + 1 + 1) = 2
                  · have ez : ((kAt ts (j + 1 + 1) : Nat) : Int) = 2 := by omega
                    rw [ez] at KZ
                    have hj3 : j + 1 + 1 < ts.length := kAt_lt (by omega)
                    have HZ := Lib.hid ((kAt_is (n := n) (by omega)).1 hz)
                    have hjb3 : (j : Int) + 1 + 1 + 1 ≤ 9223372036854775807 := by have := HR5.out.tk.le; have := HR5.out.tk.mx; omega
                    clear hz ez
                    go_upto_region 20 with (go_at_call 27; (with_reducible refine KZ.out.mono ?_); rintro e W6 ⟨rfl, hB6⟩)
                    have R6 := HR5.out.later hB6
                    have HL6 := Lib.hid (HL5.out.later hB6)
                    have HK6 := Lib.hid (HK5.out.later hB6)
                    have HT6b := Lib.hid ((hB6.block bt (Array.getElem?_eq_some_iff.1 HTc.out).1).trans HTc.out)
                    have HGO := Lib.hid (HJ.out.eq.trans (S_go hj3 (by have := H1.out; omega) HF.out HFK.out HY.out HZ.out))
                    have HNB := Lib.hid (show (hd ts (j + 1 + 1) n).n ≤ 1099511627776 by
                      rw [hd, List.getElem?_eq_getElem hj3]
                      exact (hS _ (by
                        rw [restS]
                        refine List.mem_append_left _ ?_
                        have := HJ.out.lo
                        rw [show ts[j + 1 + 1] = (ts.drop i)[j + 1 + 1 - i]'(by simp; omega) by simp; congr 1; omega]
                        exact List.getElem_mem _)).2)
                    have HLO := Lib.hid HJ.out.lo
                    have hlen : Hid (ts.length - j ≤ gk) := Lib.hid HJ.out.le
                    obtain ⟨g6, x6, hA6, hx6, hT6⟩ := R6.here hj3
                    have hxn : (hd ts (j + 1 + 1) n).n = x6.n := by rw [hd, hx6]
                    rw [hxn] at HGO HNB
                    have c0 := R6.c0
                    have c1 := R6.c1
                    have d3 := hT6.c3
                    have nc := HL6.out.nc hk6
                    have nf := HL6.out.nf k
                    rw [hA6] at c0
                    have HR6 := Lib.hid R6
                    have hi0 : (0 : Int) ≤ ((j + 1 + 1 : Nat) : Int) := by omega
                    have hi1' : ((j + 1 + 1 : Nat) : Int) < (ts.length : Int) := by omega
                    have hA6 := Lib.hid hA6
                    clear hB6 R6 HR5 HL5 HK5 hT6 hx6 hxn
                    generalize hm : j + 1 + 1 = m at *
                    have HM := Lib.hid hm
                    clear hm
                    go_region
                    obtain ⟨V, hV, RV, TV, NV, KV, QV⟩ : ∃ V, (W6.setCell ⟨b6, k, none⟩ (.int .i64 (x6.n : Int))).drew = V ∧ RR V br A cap ts m n ∧ V.heap[b5]? = some (.cells (thereL F).toArray 92 (0, 0)) ∧ V.heap[b6]? = some (.cells (numL (fset F k x6.n)).toArray 93 (0, 0)) ∧ Kept [br, bt] w V ∧
                        V.heap[bt]? = some (.cells (tsL (partT nm fnone)).toArray 33 (0, 0)) := by
                      have k6 : Kept [b6] W6 (W6.setCell ⟨b6, k, none⟩ (.int .i64 (x6.n : Int))) := (Kept.refl [b6] W6).set b6 k _ (by simp)
                      have kk : Kept [br, bt] w (W6.setCell ⟨b6, k, none⟩ (.int .i64 (x6.n : Int))) := ((HK6.out.mono (Y := [br, bt, b6]) (by simp)).trans (k6.mono (by simp))).less (fun q hq => by
                        simp at hq
                        rcases hq with rfl | rfl | rfl
                        · exact .inl (by simp)
                        · exact .inl (by simp)
                        · exact .inr (by omega))
                      refine ⟨_, rfl, (HR6.out.kept k6 (by simp; omega) (fun g e => by have := hgw g e; simp; omega)).later (below_drew _), ?_, ?_, kk.later (below_drew _), ?_⟩
                      · exact (heap_setCell_other W6 ⟨b6, k, none⟩ b5 _ (by simp only; omega)).trans HL6.out.th
                      · rw [← num_set F hk6]
                        exact heap_setCell_same W6 b6 k _ _ _ HL6.out.nu
                      · have hbt : bt < w.heap.size := by omega
                        have t6 : W6.heap[bt]? = some (.cells (tsL (partT nm fnone)).toArray 33 (0, 0)) := HT6b.out
                        exact (heap_setCell_other W6 ⟨b6, k, none⟩ bt _ (by simp only; omega)).trans t6
                    rw [hV]
                    have cV := RV.c1
                    have fV := RV.frozen 1
                    have thc : V.cell? ⟨b5, k, none⟩ = some (.bool false) := by
                      rw [cell_of_row V b5 k _ _ _ TV]
                      have := HL6.out.tc hk6
                      rw [cell_of_row W6 b5 k _ _ _ HL6.out.th, HFK.out] at this
                      exact this
                    have thf : V.frozen? ⟨b5, k, none⟩ = false := frozen_of_row V b5 k _ _ TV
                    have HRV := Lib.hid RV
                    have HTV := Lib.hid TV
                    have HNV := Lib.hid NV
                    have HKV := Lib.hid KV
                    have HQV := Lib.hid QV
                    have hbr5 : br < b5 := by omega
                    have hmb : (m : Int) + 1 ≤ 9223372036854775807 := by have := HM.out; omega
                    clear hV RV TV NV KV QV c0 c1 d3 nc nf hjb hjb2 hjb3
                    go_wp2
                    have hlen2 := hlen.out
                    have hm2 := HM.out
                    go_roundg (ts.length - (m + 1))
                    case measure => omega
                    case rel =>
                      refine ⟨m + 1, fset F k x6.n, ?_⟩
                      have k5 : Kept [b5] V (V.setCell ⟨b5, k, none⟩ (.bool true)) := (Kept.refl [b5] V).set b5 k _ (by simp)
                      have R5 := HRV.out.kept k5 (by simp; omega) (fun g e => by have := hgw g e; simp; omega)
                      refine ⟨R5.inc, ⟨?_, ?_⟩, ?_, ?_, HGO.out, HJ.out.flw.set HNB.out, by have := HLO.out; omega, by omega, Nat.le_refl _⟩
                      · rw [heap_setCell_other _ ⟨br, 1, none⟩ b5 _ (by simp only; omega), heap_setCell_same _ b5 k _ _ _ HTV.out, there_set F hk6 x6.n]
                      · rw [heap_setCell_other _ ⟨br, 1, none⟩ b6 _ (by simp only; omega), heap_setCell_other _ ⟨b5, k, none⟩ b6 _ (by simp only; omega)]
                        exact HNV.out
                      · rw [heap_setCell_other _ ⟨br, 1, none⟩ bt _ (by simp only; omega), heap_setCell_other _ ⟨b5, k, none⟩ bt _ (by simp only; omega)]
                        exact HQV.out
                      · exact (((HKV.out.mono (Y := [br, bt, b5]) (by simp)).trans (k5.mono (by simp))).less (Y := [br, bt]) (fun q hq => by
                          simp at hq
                          rcases hq with rfl | rfl | rfl
                          · exact .inl (by simp)
                          · exact .inl (by simp)
                          · exact .inr (by omega))).set br 1 _ (by simp)
                  · obtain ⟨t1, t2⟩ := knot (a := kAt ts (j + 1 + 1)) (c := 2) (by omega)
                    have HE := Lib.hid (HBAD.out _ _ (HJ.out.eq.trans (S_num hj2 (by have := H1.out; omega) HF.out HFK.out HY.out (fun e => hz ((kAt_is (n := n) (by omega)).2 e)))))
                    clear hz
                    go_wp2_with (go_at_call 27; (with_reducible refine KZ.out.mono ?_); rintro e W6 ⟨rfl, hB6⟩)
                    go_ret
                    exact .inl ⟨j + 1 + 1, rfl, HR5.out.later hB6, HK5.out.later hB6, HE.out, by omega⟩
                · obtain ⟨t1, t2⟩ := knot (a := kAt ts (j + 1)) (c := 3) (by omega)
                  have HE := Lib.hid (HBAD.out _ _ (HJ.out.eq.trans (S_eq hj1 (by have := H1.out; omega) HF.out HFK.out (fun e => hy ((kAt_is (n := n) (by omega)).2 e)))))
                  clear hy
                  go_wp2_with (go_at_call 27; (with_reducible refine KY.out.mono ?_); rintro e W4 ⟨rfl, hB4⟩)
                  go_ret
                  exact .inl ⟨j + 1, rfl, HR3.out.later hB4, HK3.out.later hB4, HE.out, by omega⟩
          · obtain ⟨t1, t2⟩ := knot (a := kAt ts j) (c := 1) (by omega)
            by_cases hk4 : kAt ts j = 0 ∨ kAt ts j = 4
            · have H4j := Lib.hid ((kAt_four (n := n) hk0).1 hk4)
              cases hfu : full F
              · have HE := Lib.hid (HBAD.out _ _ (HJ.out.eq.trans (S_early H4j.out hfu)))
                have hq : (F 0).isSome = false ∨ ((F 0).isSome = true ∧ (F 1).isSome = false) ∨ ((F 0).isSome = true ∧ (F 1).isSome = true ∧ (F 5).isSome = false) := by
                  unfold full at hfu
                  cases h0 : (F 0).isSome <;> cases h1 : (F 1).isSome <;> cases h5 : (F 5).isSome <;> simp [h0, h1, h5] at hfu ⊢
                clear hfu
                rcases hk4 with hk4 | hk4
                · rw [show ((kAt ts j : Nat) : Int) = 0 by omega] at KJ
                  have KE : Hid (((kAt ts j : Nat) : Int) = 0) := Lib.hid (by omega)
                  clear hk1 hk4 t1 t2
                  rcases hq with q0 | ⟨q0, q1⟩ | ⟨q0, q1, q5⟩
                  all_goals
                    go_wp2_with (first | (go_at_call 27; (with_reducible refine KJ.out.mono ?_); rintro e W1 ⟨rfl, hB1⟩; have R1 := HJ.out.rr.later hB1; have KA := Lib.hid (kind_any R1); rw [KE.out] at KA; have HR1 := Lib.hid R1; have HK1 := Lib.hid (HJ.out.kept.later hB1); have HL1 := Lib.hid (HJ.out.lb.later hB1); have HT1 := Lib.hid ((hB1.block bt (Array.getElem?_eq_some_iff.1 HJ.out.task).1).trans HJ.out.task); clear R1 hB1) | (go_at_call 27; (with_reducible refine KA.out.mono ?_); rintro e W2 ⟨rfl, hB2⟩; have R2 := HR1.out.later hB2; have KB := Lib.hid (kind_any R2); rw [KE.out] at KB; have HR2 := Lib.hid R2; have HK2 := Lib.hid (HK1.out.later hB2); have HL2 := Lib.hid (HL1.out.later hB2); have HT2 := Lib.hid ((hB2.block bt (Array.getElem?_eq_some_iff.1 HT1.out).1).trans HT1.out); have h0 := HL2.out.tc (k := 0) (by omega); have h1 := HL2.out.tc (k := 1) (by omega); have h5 := HL2.out.tc (k := 5) (by omega);  clear R2 hB2) | (go_at_call 27; (with_reducible refine KB.out.mono ?_); rintro e W3 ⟨rfl, hB3⟩; have R3 := HR2.out.later hB3; have HR3 := Lib.hid R3; have HK3 := Lib.hid (HK2.out.later hB3); have HL3 := Lib.hid (HL2.out.later hB3); have HT3 := Lib.hid ((hB3.block bt (Array.getElem?_eq_some_iff.1 HT2.out).1).trans HT2.out);  clear R3 hB3))
                    go_ret
                    exact .inl ⟨j, rfl, HR2.out, HK2.out, HE.out, HJ.out.hi⟩
                · rw [show ((kAt ts j : Nat) : Int) = 4 by omega] at KJ
                  have KE : Hid (((kAt ts j : Nat) : Int) = 4) := Lib.hid (by omega)
                  clear hk1 hk4 t1 t2
                  rcases hq with q0 | ⟨q0, q1⟩ | ⟨q0, q1, q5⟩
                  all_goals
                    go_wp2_with (first | (go_at_call 27; (with_reducible refine KJ.out.mono ?_); rintro e W1 ⟨rfl, hB1⟩; have R1 := HJ.out.rr.later hB1; have KA := Lib.hid (kind_any R1); rw [KE.out] at KA; have HR1 := Lib.hid R1; have HK1 := Lib.hid (HJ.out.kept.later hB1); have HL1 := Lib.hid (HJ.out.lb.later hB1); have HT1 := Lib.hid ((hB1.block bt (Array.getElem?_eq_some_iff.1 HJ.out.task).1).trans HJ.out.task); clear R1 hB1) | (go_at_call 27; (with_reducible refine KA.out.mono ?_); rintro e W2 ⟨rfl, hB2⟩; have R2 := HR1.out.later hB2; have KB := Lib.hid (kind_any R2); rw [KE.out] at KB; have HR2 := Lib.hid R2; have HK2 := Lib.hid (HK1.out.later hB2); have HL2 := Lib.hid (HL1.out.later hB2); have HT2 := Lib.hid ((hB2.block bt (Array.getElem?_eq_some_iff.1 HT1.out).1).trans HT1.out);  clear R2 hB2) | (go_at_call 27; (with_reducible refine KB.out.mono ?_); rintro e W3 ⟨rfl, hB3⟩; have R3 := HR2.out.later hB3; have HR3 := Lib.hid R3; have HK3 := Lib.hid (HK2.out.later hB3); have HL3 := Lib.hid (HL2.out.later hB3); have HT3 := Lib.hid ((hB3.block bt (Array.getElem?_eq_some_iff.1 HT2.out).1).trans HT2.out); have h0 := HL3.out.tc (k := 0) (by omega); have h1 := HL3.out.tc (k := 1) (by omega); have h5 := HL3.out.tc (k := 5) (by omega);  clear R3 hB3))
                    go_ret
                    exact .inl ⟨j, rfl, HR3.out, HK3.out, HE.out, HJ.out.hi⟩
              · have HEND := Lib.hid (HOK.out _ _ (HJ.out.eq.trans (S_end H4j.out hfu)))
                have HLN := Lib.hid (S_line H4j.out)
                have hwf := Lib.hid (taskOf_wf HNM.out HJ.out.flw)
                have q0 : (F 0).isSome = true := by unfold full at hfu; simp at hfu; exact hfu.1
                have q1 : (F 1).isSome = true := by unfold full at hfu; simp at hfu; exact hfu.2.1
                have q5 : (F 5).isSome = true := by unfold full at hfu; simp at hfu; exact hfu.2.2
                have hlo : Hid (i < j ∧ j ≤ ts.length) := Lib.hid ⟨by have := HJ.out.lo; omega, HJ.out.hi⟩
                have hbtw : bt < w.heap.size := by omega
                have hb6w : w.heap.size ≤ b6 := by omega
                have hne6 : b6 ≠ bt := by omega
                clear hfu
                rcases hk4 with hk4 | hk4
                · rw [show ((kAt ts j : Nat) : Int) = 0 by omega] at KJ
                  have KE : Hid (((kAt ts j : Nat) : Int) = 0) := Lib.hid (by omega)
                  clear hk1 hk4 t1 t2
                  go_upto_region 25 with (first | (go_at_call 27; (with_reducible refine KJ.out.mono ?_); rintro e W1 ⟨rfl, hB1⟩; have R1 := HJ.out.rr.later hB1; have KA := Lib.hid (kind_any R1); rw [KE.out] at KA; have HR1 := Lib.hid R1; have HK1 := Lib.hid (HJ.out.kept.later hB1); have HL1 := Lib.hid (HJ.out.lb.later hB1); have HT1 := Lib.hid ((hB1.block bt (Array.getElem?_eq_some_iff.1 HJ.out.task).1).trans HJ.out.task); clear R1 hB1) | (go_at_call 27; (with_reducible refine KA.out.mono ?_); rintro e W2 ⟨rfl, hB2⟩; have R2 := HR1.out.later hB2; have KB := Lib.hid (kind_any R2); rw [KE.out] at KB; have HR2 := Lib.hid R2; have HK2 := Lib.hid (HK1.out.later hB2); have HL2 := Lib.hid (HL1.out.later hB2); have HT2 := Lib.hid ((hB2.block bt (Array.getElem?_eq_some_iff.1 HT1.out).1).trans HT1.out); have h0 := HL2.out.tc (k := 0) (by omega); have h1 := HL2.out.tc (k := 1) (by omega); have h5 := HL2.out.tc (k := 5) (by omega);  clear R2 hB2) | (go_at_call 27; (with_reducible refine KB.out.mono ?_); rintro e W3 ⟨rfl, hB3⟩; have R3 := HR2.out.later hB3; have HR3 := Lib.hid R3; have HK3 := Lib.hid (HK2.out.later hB3); have HL3 := Lib.hid (HL2.out.later hB3); have HT3 := Lib.hid ((hB3.block bt (Array.getElem?_eq_some_iff.1 HT2.out).1).trans HT2.out);  clear R3 hB3))
                  clear h0 h1 h5 q0 q1 q5
                  have h2 := HL2.out.tc (k := 2) (by omega)
                  have NB0 : Hid (NB W2 b6 (fv F 0) (fv F 1) (fv F 2) (fv F 3) (fv F 4) (fv F 5)) := Lib.hid HL2.out.nu
                  have TC0 : Hid (TC W2 bt nm 0 0 0 0 0 0) := Lib.hid HT2.out
                  have TH0 := Lib.hid HL2.out.th
                  rcases (Bool.eq_false_or_eq_true (F 2).isSome) with p2 | p2
                  · rw [p2] at h2
                    have P2 := Lib.hid p2
                    clear p2
                    go_upto_region 27 with (fail)
                    have hx4 := HL2.out.tc (k := 4) (by omega)
                    have AB : Hid (RR W2 br A cap ts j n ∧ Kept [br, bt] w W2) := Lib.hid ⟨HR2.out, HK2.out⟩
                    have NB1 := NB0
                    have TC1 := TC0
                    clear h2
                    rcases (Bool.eq_false_or_eq_true (F 4).isSome) with p4 | p4
                    · rw [p4] at hx4
                      have P4 := Lib.hid p4
                      clear p4
                      go_upto_region 29 with (fail)
                      have NB2 := NB1
                      have TC2 := TC1
                      have AC := AB
                      clear hx4
                      have nq := NB2.out.c0
                      have cq := TC2.out.c1
                      have fq := TC2.out.f 1
                      go_upto_region 30 with (fail)
                      obtain ⟨V0, hV, NV, TV, RV, KV⟩ : ∃ V, W2.setCell ⟨bt, 1, none⟩ (.int .i64 (fv F 0)) = V ∧ NB V b6 (fv F 0) (fv F 1) (fv F 2) (fv F 3) (fv F 4) (fv F 5) ∧ TC V bt nm (fv F 0) 0 0 0 0 0 ∧ RR V br A cap ts j n ∧ Kept [br, bt] w V :=
                        ⟨_, rfl, NB2.out.other hne6, TC2.out.s1 _, AC.out.1.kept ((Kept.refl [bt] _).set bt 1 _ (by simp)) (by simp; exact hbb) (fun g e => by simp; exact hgt g e), AC.out.2.set bt 1 _ (by simp)⟩
                      rw [hV]
                      have NN0 := Lib.hid NV
                      have TT0 := Lib.hid TV
                      have AA0 : Hid (RR V0 br A cap ts j n ∧ Kept [br, bt] w V0) := Lib.hid ⟨RV, KV⟩
                      clear hV NV TV RV KV nq cq fq
                      have nq := NN0.out.c1
                      have cq := TT0.out.c2
                      have fq := TT0.out.f 2
                      go_upto_region 31 with (fail)
                      obtain ⟨V1, hV, NV, TV, RV, KV⟩ : ∃ V, V0.setCell ⟨bt, 2, none⟩ (.int .i64 (fv F 1)) = V ∧ NB V b6 (fv F 0) (fv F 1) (fv F 2) (fv F 3) (fv F 4) (fv F 5) ∧ TC V bt nm (fv F 0) (fv F 1) 0 0 0 0 ∧ RR V br A cap ts j n ∧ Kept [br, bt] w V :=
                        ⟨_, rfl, NN0.out.other hne6, TT0.out.s2 _, AA0.out.1.kept ((Kept.refl [bt] _).set bt 2 _ (by simp)) (by simp; exact hbb) (fun g e => by simp; exact hgt g e), AA0.out.2.set bt 2 _ (by simp)⟩
                      rw [hV]
                      have NN1 := Lib.hid NV
                      have TT1 := Lib.hid TV
                      have AA1 : Hid (RR V1 br A cap ts j n ∧ Kept [br, bt] w V1) := Lib.hid ⟨RV, KV⟩
                      clear hV NV TV RV KV nq cq fq
                      have nq := NN1.out.c2
                      have cq := TT1.out.c3
                      have fq := TT1.out.f 3
                      go_upto_region 32 with (fail)
                      obtain ⟨V2, hV, NV, TV, RV, KV⟩ : ∃ V, V1.setCell ⟨bt, 3, none⟩ (.int .i64 (fv F 2)) = V ∧ NB V b6 (fv F 0) (fv F 1) (fv F 2) (fv F 3) (fv F 4) (fv F 5) ∧ TC V bt nm (fv F 0) (fv F 1) (fv F 2) 0 0 0 ∧ RR V br A cap ts j n ∧ Kept [br, bt] w V :=
                        ⟨_, rfl, NN1.out.other hne6, TT1.out.s3 _, AA1.out.1.kept ((Kept.refl [bt] _).set bt 3 _ (by simp)) (by simp; exact hbb) (fun g e => by simp; exact hgt g e), AA1.out.2.set bt 3 _ (by simp)⟩
                      rw [hV]
                      have NN2 := Lib.hid NV
                      have TT2 := Lib.hid TV
                      have AA2 : Hid (RR V2 br A cap ts j n ∧ Kept [br, bt] w V2) := Lib.hid ⟨RV, KV⟩
                      clear hV NV TV RV KV nq cq fq
                      have nq := NN2.out.c3
                      have cq := TT2.out.c4
                      have fq := TT2.out.f 4
                      go_upto_region 33 with (fail)
                      obtain ⟨V3, hV, NV, TV, RV, KV⟩ : ∃ V, V2.setCell ⟨bt, 4, none⟩ (.int .i64 (fv F 3)) = V ∧ NB V b6 (fv F 0) (fv F 1) (fv F 2) (fv F 3) (fv F 4) (fv F 5) ∧ TC V bt nm (fv F 0) (fv F 1) (fv F 2) (fv F 3) 0 0 ∧ RR V br A cap ts j n ∧ Kept [br, bt] w V :=
                        ⟨_, rfl, NN2.out.other hne6, TT2.out.s4 _, AA2.out.1.kept ((Kept.refl [bt] _).set bt 4 _ (by simp)) (by simp; exact hbb) (fun g e => by simp; exact hgt g e), AA2.out.2.set bt 4 _ (by simp)⟩
                      rw [hV]
                      have NN3 := Lib.hid NV
                      have TT3 := Lib.hid TV
                      have AA3 : Hid (RR V3 br A cap ts j n ∧ Kept [br, bt] w V3) := Lib.hid ⟨RV, KV⟩
                      clear hV NV TV RV KV nq cq fq
                      have nq := NN3.out.c4
                      have cq := TT3.out.c5
                      have fq := TT3.out.f 5
                      go_upto_region 34 with (fail)
                      obtain ⟨V4, hV, NV, TV, RV, KV⟩ : ∃ V, V3.setCell ⟨bt, 5, none⟩ (.int .i64 (fv F 4)) = V ∧ NB V b6 (fv F 0) (fv F 1) (fv F 2) (fv F 3) (fv F 4) (fv F 5) ∧ TC V bt nm (fv F 0) (fv F 1) (fv F 2) (fv F 3) (fv F 4) 0 ∧ RR V br A cap ts j n ∧ Kept [br, bt] w V :=
                        ⟨_, rfl, NN3.out.other hne6, TT3.out.s5 _, AA3.out.1.kept ((Kept.refl [bt] _).set bt 5 _ (by simp)) (by simp; exact hbb) (fun g e => by simp; exact hgt g e), AA3.out.2.set bt 5 _ (by simp)⟩
                      rw [hV]
                      have NN4 := Lib.hid NV
                      have TT4 := Lib.hid TV
                      have AA4 : Hid (RR V4 br A cap ts j n ∧ Kept [br, bt] w V4) := Lib.hid ⟨RV, KV⟩
                      clear hV NV TV RV KV nq cq fq
                      have nq := NN4.out.c5
                      have cq := TT4.out.c6
                      have fq := TT4.out.f 6
                      go_wp2
                      obtain ⟨V5, hV, NV, TV, RV, KV⟩ : ∃ V, V4.setCell ⟨bt, 6, none⟩ (.int .i64 (fv F 5)) = V ∧ NB V b6 (fv F 0) (fv F 1) (fv F 2) (fv F 3) (fv F 4) (fv F 5) ∧ TC V bt nm (fv F 0) (fv F 1) (fv F 2) (fv F 3) (fv F 4) (fv F 5) ∧ RR V br A cap ts j n ∧ Kept [br, bt] w V :=
                        ⟨_, rfl, NN4.out.other hne6, TT4.out.s6 _, AA4.out.1.kept ((Kept.refl [bt] _).set bt 6 _ (by simp)) (by simp; exact hbb) (fun g e => by simp; exact hgt g e), AA4.out.2.set bt 6 _ (by simp)⟩
                      rw [hV]
                      have NN5 := Lib.hid NV
                      have TT5 := Lib.hid TV
                      have AA5 : Hid (RR V5 br A cap ts j n ∧ Kept [br, bt] w V5) := Lib.hid ⟨RV, KV⟩
                      clear hV NV TV RV KV nq cq fq
                      go_ret
                      refine .inr ⟨j, taskOf nm F, rfl, AA5.out.1, ?_, AA5.out.2, hwf.out, by rw [HEND.out, HLN.out], hlo.out.1, hlo.out.2⟩
                      refine (show V5.heap[bt]? = _ from TT5.out).trans ?_
                      have p2 := P2.out
                      have p4 := P4.out
                      cases e2 : F 2 <;> cases e4 : F 4 <;> simp [e2, e4] at p2 p4 <;> simp [taskOf, tsL, e2, e4]
                    · rw [p4] at hx4
                      have P4 := Lib.hid p4
                      clear p4
                      have n4 := NB1.out.c4
                      have g4 : W2.frozen? ⟨b6, 4, none⟩ = false := frozen_of_row W2 b6 4 _ _ NB1.out
                      go_upto_region 29 with (fail)
                      obtain ⟨Wn, hWn, NBn, TCn, ACn⟩ : ∃ Wn, W2.setCell ⟨b6, 4, none⟩ (.int .i64 1) = Wn ∧ NB Wn b6 (fv F 0) (fv F 1) (fv F 2) (fv F 3) 1 (fv F 5) ∧ TC Wn bt nm 0 0 0 0 0 0 ∧ (RR Wn br A cap ts j n ∧ Kept [br, bt] w Wn) := by
                        obtain ⟨Ra, Ta, Ka⟩ := num_kept (i := 4) (nm := nm) hb6w hbrw hbtw hgw AB.out.1 TC1.out AB.out.2 (.int .i64 1)
                        exact ⟨_, rfl, heap_setCell_same W2 b6 4 _ _ _ NB1.out, Ta, ⟨Ra, Ka⟩⟩
                      rw [hWn]
                      have NB2 := Lib.hid NBn
                      have TC2 := Lib.hid TCn
                      have AC := Lib.hid ACn
                      clear hWn NBn TCn ACn n4 g4
                      clear hx4
                      have nq := NB2.out.c0
                      have cq := TC2.out.c1
                      have fq := TC2.out.f 1
                      go_upto_region 30 with (fail)
                      obtain ⟨V0, hV, NV, TV, RV, KV⟩ : ∃ V, Wn.setCell ⟨bt, 1, none⟩ (.int .i64 (fv F 0)) = V ∧ NB V b6 (fv F 0) (fv F 1) (fv F 2) (fv F 3) 1 (fv F 5) ∧ TC V bt nm (fv F 0) 0 0 0 0 0 ∧ RR V br A cap ts j n ∧ Kept [br, bt] w V :=
                        ⟨_, rfl, NB2.out.other hne6, TC2.out.s1 _, AC.out.1.kept ((Kept.refl [bt] _).set bt 1 _ (by simp)) (by simp; exact hbb) (fun g e => by simp; exact hgt g e), AC.out.2.set bt 1 _ (by simp)⟩
                      rw [hV]
                      have NN0 := Lib.hid NV
                      have TT0 := Lib.hid TV
                      have AA0 : Hid (RR V0 br A cap ts j n ∧ Kept [br, bt] w V0) := Lib.hid ⟨RV, KV⟩
                      clear hV NV TV RV KV nq cq fq
                      have nq := NN0.out.c1
                      have cq := TT0.out.c2
                      have fq := TT0.out.f 2
                      go_upto_region 31 with (fail)
                      obtain ⟨V1, hV, NV, TV, RV, KV⟩ : ∃ V, V0.setCell ⟨bt, 2, none⟩ (.int .i64 (fv F 1)) = V ∧ NB V b6 (fv F 0) (fv F 1) (fv F 2) (fv F 3) 1 (fv F 5) ∧ TC V bt nm (fv F 0) (fv F 1) 0 0 0 0 ∧ RR V br A cap ts j n ∧ Kept [br, bt] w V :=
                        ⟨_, rfl, NN0.out.other hne6, TT0.out.s2 _, AA0.out.1.kept ((Kept.refl [bt] _).set bt 2 _ (by simp)) (by simp; exact hbb) (fun g e => by simp; exact hgt g e), AA0.out.2.set bt 2 _ (by simp)⟩
                      rw [hV]
                      have NN1 := Lib.hid NV
                      have TT1 := Lib.hid TV
                      have AA1 : Hid (RR V1 br A cap ts j n ∧ Kept [br, bt] w V1) := Lib.hid ⟨RV, KV⟩
                      clear hV NV TV RV KV nq cq fq
                      have nq := NN1.out.c2
                      have cq := TT1.out.c3
                      have fq := TT1.out.f 3
                      go_upto_region 32 with (fail)
                      obtain ⟨V2, hV, NV, TV, RV, KV⟩ : ∃ V, V1.setCell ⟨bt, 3, none⟩ (.int .i64 (fv F 2)) = V ∧ NB V b6 (fv F 0) (fv F 1) (fv F 2) (fv F 3) 1 (fv F 5) ∧ TC V bt nm (fv F 0) (fv F 1) (fv F 2) 0 0 0 ∧ RR V br A cap ts j n ∧ Kept [br, bt] w V :=
                        ⟨_, rfl, NN1.out.other hne6, TT1.out.s3 _, AA1.out.1.kept ((Kept.refl [bt] _).set bt 3 _ (by simp)) (by simp; exact hbb) (fun g e => by simp; exact hgt g e), AA1.out.2.set bt 3 _ (by simp)⟩
                      rw [hV]
                      have NN2 := Lib.hid NV
                      have TT2 := Lib.hid TV
                      have AA2 : Hid (RR V2 br A cap ts j n ∧ Kept [br, bt] w V2) := Lib.hid ⟨RV, KV⟩
                      clear hV NV TV RV KV nq cq fq
                      have nq := NN2.out.c3
                      have cq := TT2.out.c4
                      have fq := TT2.out.f 4
                      go_upto_region 33 with (fail)
                      obtain ⟨V3, hV, NV, TV, RV, KV⟩ : ∃ V, V2.setCell ⟨bt, 4, none⟩ (.int .i64 (fv F 3)) = V ∧ NB V b6 (fv F 0) (fv F 1) (fv F 2) (fv F 3) 1 (fv F 5) ∧ TC V bt nm (fv F 0) (fv F 1) (fv F 2) (fv F 3) 0 0 ∧ RR V br A cap ts j n ∧ Kept [br, bt] w V :=
                        ⟨_, rfl, NN2.out.other hne6, TT2.out.s4 _, AA2.out.1.kept ((Kept.refl [bt] _).set bt 4 _ (by simp)) (by simp; exact hbb) (fun g e => by simp; exact hgt g e), AA2.out.2.set bt 4 _ (by simp)⟩
                      rw [hV]
                      have NN3 := Lib.hid NV
                      have TT3 := Lib.hid TV
                      have AA3 : Hid (RR V3 br A cap ts j n ∧ Kept [br, bt] w V3) := Lib.hid ⟨RV, KV⟩
                      clear hV NV TV RV KV nq cq fq
                      have nq := NN3.out.c4
                      have cq := TT3.out.c5
                      have fq := TT3.out.f 5
                      go_upto_region 34 with (fail)
                      obtain ⟨V4, hV, NV, TV, RV, KV⟩ : ∃ V, V3.setCell ⟨bt, 5, none⟩ (.int .i64 1) = V ∧ NB V b6 (fv F 0) (fv F 1) (fv F 2) (fv F 3) 1 (fv F 5) ∧ TC V bt nm (fv F 0) (fv F 1) (fv F 2) (fv F 3) 1 0 ∧ RR V br A cap ts j n ∧ Kept [br, bt] w V :=
                        ⟨_, rfl, NN3.out.other hne6, TT3.out.s5 _, AA3.out.1.kept ((Kept.refl [bt] _).set bt 5 _ (by simp)) (by simp; exact hbb) (fun g e => by simp; exact hgt g e), AA3.out.2.set bt 5 _ (by simp)⟩
                      rw [hV]
                      have NN4 := Lib.hid NV
                      have TT4 := Lib.hid TV
                      have AA4 : Hid (RR V4 br A cap ts j n ∧ Kept [br, bt] w V4) := Lib.hid ⟨RV, KV⟩
                      clear hV NV TV RV KV nq cq fq
                      have nq := NN4.out.c5
                      have cq := TT4.out.c6
                      have fq := TT4.out.f 6
                      go_wp2
                      obtain ⟨V5, hV, NV, TV, RV, KV⟩ : ∃ V, V4.setCell ⟨bt, 6, none⟩ (.int .i64 (fv F 5)) = V ∧ NB V b6 (fv F 0) (fv F 1) (fv F 2) (fv F 3) 1 (fv F 5) ∧ TC V bt nm (fv F 0) (fv F 1) (fv F 2) (fv F 3) 1 (fv F 5) ∧ RR V br A cap ts j n ∧ Kept [br, bt] w V :=
                        ⟨_, rfl, NN4.out.other hne6, TT4.out.s6 _, AA4.out.1.kept ((Kept.refl [bt] _).set bt 6 _ (by simp)) (by simp; exact hbb) (fun g e => by simp; exact hgt g e), AA4.out.2.set bt 6 _ (by simp)⟩
                      rw [hV]
                      have NN5 := Lib.hid NV
                      have TT5 := Lib.hid TV
                      have AA5 : Hid (RR V5 br A cap ts j n ∧ Kept [br, bt] w V5) := Lib.hid ⟨RV, KV⟩
                      clear hV NV TV RV KV nq cq fq
                      go_ret
                      refine .inr ⟨j, taskOf nm F, rfl, AA5.out.1, ?_, AA5.out.2, hwf.out, by rw [HEND.out, HLN.out], hlo.out.1, hlo.out.2⟩
                      refine (show V5.heap[bt]? = _ from TT5.out).trans ?_
                      have p2 := P2.out
                      have p4 := P4.out
                      cases e2 : F 2 <;> cases e4 : F 4 <;> simp [e2, e4] at p2 p4 <;> simp [taskOf, tsL, e2, e4]
                  · rw [p2] at h2
                    have P2 := Lib.hid p2
                    clear p2
                    have n1 := NB0.out.c1
                    have n2 := NB0.out.c2
                    have g2 := HL2.out.nf 2
                    go_upto_region 27 with (fail)
                    obtain ⟨Wm, hWm, NBm, TCm, ABm, hx4⟩ : ∃ Wm, W2.setCell ⟨b6, 2, none⟩ (.int .i64 (fv F 1)) = Wm ∧ NB Wm b6 (fv F 0) (fv F 1) (fv F 1) (fv F 3) (fv F 4) (fv F 5) ∧ TC Wm bt nm 0 0 0 0 0 0 ∧ (RR Wm br A cap ts j n ∧ Kept [br, bt] w Wm) ∧ Wm.cell? ⟨b5, 4, none⟩ = some (.bool (F 4).isSome) := by
                      obtain ⟨Ra, Ta, Ka⟩ := num_kept (i := 2) hb6w hbrw hbtw hgw HR2.out HT2.out HK2.out (.int .i64 (fv F 1))
                      exact ⟨_, rfl, heap_setCell_same W2 b6 2 _ _ _ NB0.out, Ta, ⟨Ra, Ka⟩, (World.cell?_setCell_other _ _ _ _ (by intro e; have := congrArg Addr.block e; simp only at this; omega)).trans (HL2.out.tc (k := 4) (by omega))⟩
                    rw [hWm]
                    have NB1 := Lib.hid NBm
                    have TC1 := Lib.hid TCm
                    have AB := Lib.hid ABm
                    clear hWm NBm TCm ABm n1 n2 g2
                    clear h2
                    rcases (Bool.eq_false_or_eq_true (F 4).isSome) with p4 | p4
                    · rw [p4] at hx4
                      have P4 := Lib.hid p4
                      clear p4
                      go_upto_region 29 with (fail)
                      have NB2 := NB1
                      have TC2 := TC1
                      have AC := AB
                      clear hx4
                      have nq := NB2.out.c0
                      have cq := TC2.out.c1
                      have fq := TC2.out.f 1
                      go_upto_region 30 with (fail)
                      obtain ⟨V0, hV, NV, TV, RV, KV⟩ : ∃ V, Wm.setCell ⟨bt, 1, none⟩ (.int .i64 (fv F 0)) = V ∧ NB V b6 (fv F 0) (fv F 1) (fv F 1) (fv F 3) (fv F 4) (fv F 5) ∧ TC V bt nm (fv F 0) 0 0 0 0 0 ∧ RR V br A cap ts j n ∧ Kept [br, bt] w V :=
                        ⟨_, rfl, NB2.out.other hne6, TC2.out.s1 _, AC.out.1.kept ((Kept.refl [bt] _).set bt 1 _ (by simp)) (by simp; exact hbb) (fun g e => by simp; exact hgt g e), AC.out.2.set bt 1 _ (by simp)⟩
                      rw [hV]
                      have NN0 := Lib.hid NV
                      have TT0 := Lib.hid TV
                      have AA0 : Hid (RR V0 br A cap ts j n ∧ Kept [br, bt] w V0) := Lib.hid ⟨RV, KV⟩
                      clear hV NV TV RV KV nq cq fq
                      have nq := NN0.out.c1
                      have cq := TT0.out.c2
                      have fq := TT0.out.f 2
                      go_upto_region 31 with (fail)
                      obtain ⟨V1, hV, NV, TV, RV, KV⟩ : ∃ V, V0.setCell ⟨bt, 2, none⟩ (.int .i64 (fv F 1)) = V ∧ NB V b6 (fv F 0) (fv F 1) (fv F 1) (fv F 3) (fv F 4) (fv F 5) ∧ TC V bt nm (fv F 0) (fv F 1) 0 0 0 0 ∧ RR V br A cap ts j n ∧ Kept [br, bt] w V :=
                        ⟨_, rfl, NN0.out.other hne6, TT0.out.s2 _, AA0.out.1.kept ((Kept.refl [bt] _).set bt 2 _ (by simp)) (by simp; exact hbb) (fun g e => by simp; exact hgt g e), AA0.out.2.set bt 2 _ (by simp)⟩
                      rw [hV]
                      have NN1 := Lib.hid NV
                      have TT1 := Lib.hid TV
                      have AA1 : Hid (RR V1 br A cap ts j n ∧ Kept [br, bt] w V1) := Lib.hid ⟨RV, KV⟩
                      clear hV NV TV RV KV nq cq fq
                      have nq := NN1.out.c2
                      have cq := TT1.out.c3
                      have fq := TT1.out.f 3
                      go_upto_region 32 with (fail)
                      obtain ⟨V2, hV, NV, TV, RV, KV⟩ : ∃ V, V1.setCell ⟨bt, 3, none⟩ (.int .i64 (fv F 1)) = V ∧ NB V b6 (fv F 0) (fv F 1) (fv F 1) (fv F 3) (fv F 4) (fv F 5) ∧ TC V bt nm (fv F 0) (fv F 1) (fv F 1) 0 0 0 ∧ RR V br A cap ts j n ∧ Kept [br, bt] w V :=
                        ⟨_, rfl, NN1.out.other hne6, TT1.out.s3 _, AA1.out.1.kept ((Kept.refl [bt] _).set bt 3 _ (by simp)) (by simp; exact hbb) (fun g e => by simp; exact hgt g e), AA1.out.2.set bt 3 _ (by simp)⟩
                      rw [hV]
                      have NN2 := Lib.hid NV
                      have TT2 := Lib.hid TV
                      have AA2 : Hid (RR V2 br A cap ts j n ∧ Kept [br, bt] w V2) := Lib.hid ⟨RV, KV⟩
                      clear hV NV TV RV KV nq cq fq
                      have nq := NN2.out.c3
                      have cq := TT2.out.c4
                      have fq := TT2.out.f 4
                      go_upto_region 33 with (fail)
                      obtain ⟨V3, hV, NV, TV, RV, KV⟩ : ∃ V, V2.setCell ⟨bt, 4, none⟩ (.int .i64 (fv F 3)) = V ∧ NB V b6 (fv F 0) (fv F 1) (fv F 1) (fv F 3) (fv F 4) (fv F 5) ∧ TC V bt nm (fv F 0) (fv F 1) (fv F 1) (fv F 3) 0 0 ∧ RR V br A cap ts j n ∧ Kept [br, bt] w V :=
                        ⟨_, rfl, NN2.out.other hne6, TT2.out.s4 _, AA2.out.1.kept ((Kept.refl [bt] _).set bt 4 _ (by simp)) (by simp; exact hbb) (fun g e => by simp; exact hgt g e), AA2.out.2.set bt 4 _ (by simp)⟩
                      rw [hV]
                      have NN3 := Lib.hid NV
                      have TT3 := Lib.hid TV
                      have AA3 : Hid (RR V3 br A cap ts j n ∧ Kept [br, bt] w V3) := Lib.hid ⟨RV, KV⟩
                      clear hV NV TV RV KV nq cq fq
                      have nq := NN3.out.c4
                      have cq := TT3.out.c5
                      have fq := TT3.out.f 5
                      go_upto_region 34 with (fail)
                      obtain ⟨V4, hV, NV, TV, RV, KV⟩ : ∃ V, V3.setCell ⟨bt, 5, none⟩ (.int .i64 (fv F 4)) = V ∧ NB V b6 (fv F 0) (fv F 1) (fv F 1) (fv F 3) (fv F 4) (fv F 5) ∧ TC V bt nm (fv F 0) (fv F 1) (fv F 1) (fv F 3) (fv F 4) 0 ∧ RR V br A cap ts j n ∧ Kept [br, bt] w V :=
                        ⟨_, rfl, NN3.out.other hne6, TT3.out.s5 _, AA3.out.1.kept ((Kept.refl [bt] _).set bt 5 _ (by simp)) (by simp; exact hbb) (fun g e => by simp; exact hgt g e), AA3.out.2.set bt 5 _ (by simp)⟩
                      rw [hV]
                      have NN4 := Lib.hid NV
                      have TT4 := Lib.hid TV
                      have AA4 : Hid (RR V4 br A cap ts j n ∧ Kept [br, bt] w V4) := Lib.hid ⟨RV, KV⟩
                      clear hV NV TV RV KV nq cq fq
                      have nq := NN4.out.c5
                      have cq := TT4.out.c6
                      have fq := TT4.out.f 6
                      go_wp2
                      obtain ⟨V5, hV, NV, TV, RV, KV⟩ : ∃ V, V4.setCell ⟨bt, 6, none⟩ (.int .i64 (fv F 5)) = V ∧ NB V b6 (fv F 0) (fv F 1) (fv F 1) (fv F 3) (fv F 4) (fv F 5) ∧ TC V bt nm (fv F 0) (fv F 1) (fv F 1) (fv F 3) (fv F 4) (fv F 5) ∧ RR V br A cap ts j n ∧ Kept [br, bt] w V :=
                        ⟨_, rfl, NN4.out.other hne6, TT4.out.s6 _, AA4.out.1.kept ((Kept.refl [bt] _).set bt 6 _ (by simp)) (by simp; exact hbb) (fun g e => by simp; exact hgt g e), AA4.out.2.set bt 6 _ (by simp)⟩
                      rw [hV]
                      have NN5 := Lib.hid NV
                      have TT5 := Lib.hid TV
                      have AA5 : Hid (RR V5 br A cap ts j n ∧ Kept [br, bt] w V5) := Lib.hid ⟨RV, KV⟩
                      clear hV NV TV RV KV nq cq fq
                      go_ret
                      refine .inr ⟨j, taskOf nm F, rfl, AA5.out.1, ?_, AA5.out.2, hwf.out, by rw [HEND.out, HLN.out], hlo.out.1, hlo.out.2⟩
                      refine (show V5.heap[bt]? = _ from TT5.out).trans ?_
                      have p2 := P2.out
                      have p4 := P4.out
                      cases e2 : F 2 <;> cases e4 : F 4 <;> simp [e2, e4] at p2 p4 <;> simp [taskOf, tsL, e2, e4]
                    · rw [p4] at hx4
                      have P4 := Lib.hid p4
                      clear p4
                      have n4 := NB1.out.c4
                      have g4 : Wm.frozen? ⟨b6, 4, none⟩ = false := frozen_of_row Wm b6 4 _ _ NB1.out
                      go_upto_region 29 with (fail)
                      obtain ⟨Wn, hWn, NBn, TCn, ACn⟩ : ∃ Wn, Wm.setCell ⟨b6, 4, none⟩ (.int .i64 1) = Wn ∧ NB Wn b6 (fv F 0) (fv F 1) (fv F 1) (fv F 3) 1 (fv F 5) ∧ TC Wn bt nm 0 0 0 0 0 0 ∧ (RR Wn br A cap ts j n ∧ Kept [br, bt] w Wn) := by
                        obtain ⟨Ra, Ta, Ka⟩ := num_kept (i := 4) (nm := nm) hb6w hbrw hbtw hgw AB.out.1 TC1.out AB.out.2 (.int .i64 1)
                        exact ⟨_, rfl, heap_setCell_same Wm b6 4 _ _ _ NB1.out, Ta, ⟨Ra, Ka⟩⟩
                      rw [hWn]
                      have NB2 := Lib.hid NBn
                      have TC2 := Lib.hid TCn
                      have AC := Lib.hid ACn
                      clear hWn NBn TCn ACn n4 g4
                      clear hx4
                      have nq := NB2.out.c0
                      have cq := TC2.out.c1
                      have fq := TC2.out.f 1
                      go_upto_region 30 with (fail)
                      obtain ⟨V0, hV, NV, TV, RV, KV⟩ : ∃ V, Wn.setCell ⟨bt, 1, none⟩ (.int .i64 (fv F 0)) = V ∧ NB V b6 (fv F 0) (fv F 1) (fv F 1) (fv F 3) 1 (fv F 5) ∧ TC V bt nm (fv F 0) 0 0 0 0 0 ∧ RR V br A cap ts j n ∧ Kept [br, bt] w V :=
                        ⟨_, rfl, NB2.out.other hne6, TC2.out.s1 _, AC.out.1.kept ((Kept.refl [bt] _).set bt 1 _ (by simp)) (by simp; exact hbb) (fun g e => by simp; exact hgt g e), AC.out.2.set bt 1 _ (by simp)⟩
                      rw [hV]
                      have NN0 := Lib.hid NV
                      have TT0 := Lib.hid TV
                      have AA0 : Hid (RR V0 br A cap ts j n ∧ Kept [br, bt] w V0) := Lib.hid ⟨RV, KV⟩
                      clear hV NV TV RV KV nq cq fq
                      have nq := NN0.out.c1
                      have cq := TT0.out.c2
                      have fq := TT0.out.f 2
                      go_upto_region 31 with (fail)
                      obtain ⟨V1, hV, NV, TV, RV, KV⟩ : ∃ V, V0.setCell ⟨bt, 2, none⟩ (.int .i64 (fv F 1)) = V ∧ NB V b6 (fv F 0) (fv F 1) (fv F 1) (fv F 3) 1 (fv F 5) ∧ TC V bt nm (fv F 0) (fv F 1) 0 0 0 0 ∧ RR V br A cap ts j n ∧ Kept [br, bt] w V :=
                        ⟨_, rfl, NN0.out.other hne6, TT0.out.s2 _, AA0.out.1.kept ((Kept.refl [bt] _).set bt 2 _ (by simp)) (by simp; exact hbb) (fun g e => by simp; exact hgt g e), AA0.out.2.set bt 2 _ (by simp)⟩
                      rw [hV]
                      have NN1 := Lib.hid NV
                      have TT1 := Lib.hid TV
                      have AA1 : Hid (RR V1 br A cap ts j n ∧ Kept [br, bt] w V1) := Lib.hid ⟨RV, KV⟩
                      clear hV NV TV RV KV nq cq fq
                      have nq := NN1.out.c2
                      have cq := TT1.out.c3
                      have fq := TT1.out.f 3
                      go_upto_region 32 with (fail)
                      obtain ⟨V2, hV, NV, TV, RV, KV⟩ : ∃ V, V1.setCell ⟨bt, 3, none⟩ (.int .i64 (fv F 1)) = V ∧ NB V b6 (fv F 0) (fv F 1) (fv F 1) (fv F 3) 1 (fv F 5) ∧ TC V bt nm (fv F 0) (fv F 1) (fv F 1) 0 0 0 ∧ RR V br A cap ts j n ∧ Kept [br, bt] w V :=
                        ⟨_, rfl, NN1.out.other hne6, TT1.out.s3 _, AA1.out.1.kept ((Kept.refl [bt] _).set bt 3 _ (by simp)) (by simp; exact hbb) (fun g e => by simp; exact hgt g e), AA1.out.2.set bt 3 _ (by simp)⟩
                      rw [hV]
                      have NN2 := Lib.hid NV
                      have TT2 := Lib.hid TV
                      have AA2 : Hid (RR V2 br A cap ts j n ∧ Kept [br, bt] w V2) := Lib.hid ⟨RV, KV⟩
                      clear hV NV TV RV KV nq cq fq
                      have nq := NN2.out.c3
                      have cq := TT2.out.c4
                      have fq := TT2.out.f 4
                      go_upto_region 33 with (fail)
                      obtain ⟨V3, hV, NV, TV, RV, KV⟩ : ∃ V, V2.setCell ⟨bt, 4, none⟩ (.int .i64 (fv F 3)) = V ∧ NB V b6 (fv F 0) (fv F 1) (fv F 1) (fv F 3) 1 (fv F 5) ∧ TC V bt nm (fv F 0) (fv F 1) (fv F 1) (fv F 3) 0 0 ∧ RR V br A cap ts j n ∧ Kept [br, bt] w V :=
                        ⟨_, rfl, NN2.out.other hne6, TT2.out.s4 _, AA2.out.1.kept ((Kept.refl [bt] _).set bt 4 _ (by simp)) (by simp; exact hbb) (fun g e => by simp; exact hgt g e), AA2.out.2.set bt 4 _ (by simp)⟩
                      rw [hV]
                      have NN3 := Lib.hid NV
                      have TT3 := Lib.hid TV
                      have AA3 : Hid (RR V3 br A cap ts j n ∧ Kept [br, bt] w V3) := Lib.hid ⟨RV, KV⟩
                      clear hV NV TV RV KV nq cq fq
                      have nq := NN3.out.c4
                      have cq := TT3.out.c5
                      have fq := TT3.out.f 5
                      go_upto_region 34 with (fail)
                      obtain ⟨V4, hV, NV, TV, RV, KV⟩ : ∃ V, V3.setCell ⟨bt, 5, none⟩ (.int .i64 1) = V ∧ NB V b6 (fv F 0) (fv F 1) (fv F 1) (fv F 3) 1 (fv F 5) ∧ TC V bt nm (fv F 0) (fv F 1) (fv F 1) (fv F 3) 1 0 ∧ RR V br A cap ts j n ∧ Kept [br, bt] w V :=
                        ⟨_, rfl, NN3.out.other hne6, TT3.out.s5 _, AA3.out.1.kept ((Kept.refl [bt] _).set bt 5 _ (by simp)) (by simp; exact hbb) (fun g e => by simp; exact hgt g e), AA3.out.2.set bt 5 _ (by simp)⟩
                      rw [hV]
                      have NN4 := Lib.hid NV
                      have TT4 := Lib.hid TV
                      have AA4 : Hid (RR V4 br A cap ts j n ∧ Kept [br, bt] w V4) := Lib.hid ⟨RV, KV⟩
                      clear hV NV TV RV KV nq cq fq
                      have nq := NN4.out.c5
                      have cq := TT4.out.c6
                      have fq := TT4.out.f 6
                      go_wp2
                      obtain ⟨V5, hV, NV, TV, RV, KV⟩ : ∃ V, V4.setCell ⟨bt, 6, none⟩ (.int .i64 (fv F 5)) = V ∧ NB V b6 (fv F 0) (fv F 1) (fv F 1) (fv F 3) 1 (fv F 5) ∧ TC V bt nm (fv F 0) (fv F 1) (fv F 1) (fv F 3) 1 (fv F 5) ∧ RR V br A cap ts j n ∧ Kept [br, bt] w V :=
                        ⟨_, rfl, NN4.out.other hne6, TT4.out.s6 _, AA4.out.1.kept ((Kept.refl [bt] _).set bt 6 _ (by simp)) (by simp; exact hbb) (fun g e => by simp; exact hgt g e), AA4.out.2.set bt 6 _ (by simp)⟩
                      rw [hV]
                      have NN5 := Lib.hid NV
                      have TT5 := Lib.hid TV
                      have AA5 : Hid (RR V5 br A cap ts j n ∧ Kept [br, bt] w V5) := Lib.hid ⟨RV, KV⟩
                      clear hV NV TV RV KV nq cq fq
                      go_ret
                      refine .inr ⟨j, taskOf nm F, rfl, AA5.out.1, ?_, AA5.out.2, hwf.out, by rw [HEND.out, HLN.out], hlo.out.1, hlo.out.2⟩
                      refine (show V5.heap[bt]? = _ from TT5.out).trans ?_
                      have p2 := P2.out
                      have p4 := P4.out
                      cases e2 : F 2 <;> cases e4 : F 4 <;> simp [e2, e4] at p2 p4 <;> simp [taskOf, tsL, e2, e4]
                · rw [show ((kAt ts j : Nat) : Int) = 4 by omega] at KJ
                  have KE : Hid (((kAt ts j : Nat) : Int) = 4) := Lib.hid (by omega)
                  clear hk1 hk4 t1 t2
                  go_upto_region 25 with (first | (go_at_call 27; (with_reducible refine KJ.out.mono ?_); rintro e W1 ⟨rfl, hB1⟩; have R1 := HJ.out.rr.later hB1; have KA := Lib.hid (kind_any R1); rw [KE.out] at KA; have HR1 := Lib.hid R1; have HK1 := Lib.hid (HJ.out.kept.later hB1); have HL1 := Lib.hid (HJ.out.lb.later hB1); have HT1 := Lib.hid ((hB1.block bt (Array.getElem?_eq_some_iff.1 HJ.out.task).1).trans HJ.out.task); clear R1 hB1) | (go_at_call 27; (with_reducible refine KA.out.mono ?_); rintro e W2 ⟨rfl, hB2⟩; have R2 := HR1.out.later hB2; have KB := Lib.hid (kind_any R2); rw [KE.out] at KB; have HR2 := Lib.hid R2; have HK2 := Lib.hid (HK1.out.later hB2); have HL2 := Lib.hid (HL1.out.later hB2); have HT2 := Lib.hid ((hB2.block bt (Array.getElem?_eq_some_iff.1 HT1.out).1).trans HT1.out);  clear R2 hB2) | (go_at_call 27; (with_reducible refine KB.out.mono ?_); rintro e W3 ⟨rfl, hB3⟩; have R3 := HR2.out.later hB3; have HR3 := Lib.hid R3; have HK3 := Lib.hid (HK2.out.later hB3); have HL3 := Lib.hid (HL2.out.later hB3); have HT3 := Lib.hid ((hB3.block bt (Array.getElem?_eq_some_iff.1 HT2.out).1).trans HT2.out); have h0 := HL3.out.tc (k := 0) (by omega); have h1 := HL3.out.tc (k := 1) (by omega); have h5 := HL3.out.tc (k := 5) (by omega);  clear R3 hB3))
                  clear h0 h1 h5 q0 q1 q5
                  have h2 := HL3.out.tc (k := 2) (by omega)
                  have NB0 : Hid (NB W3 b6 (fv F 0) (fv F 1) (fv F 2) (fv F 3) (fv F 4) (fv F 5)) := Lib.hid HL3.out.nu
                  have TC0 : Hid (TC W3 bt nm 0 0 0 0 0 0) := Lib.hid HT3.out
                  have TH0 := Lib.hid HL3.out.th
                  rcases (Bool.eq_false_or_eq_true (F 2).isSome) with p2 | p2
                  · rw [p2] at h2
                    have P2 := Lib.hid p2
                    clear p2
                    go_upto_region 27 with (fail)
                    have hx4 := HL3.out.tc (k := 4) (by omega)
                    have AB : Hid (RR W3 br A cap ts j n ∧ Kept [br, bt] w W3) := Lib.hid ⟨HR3.out, HK3.out⟩
                    have NB1 := NB0
                    have TC1 := TC0
                    clear h2
                    rcases (Bool.eq_false_or_eq_true (F 4).isSome) with p4 | p4
                    · rw [p4] at hx4
                      have P4 := Lib.hid p4
                      clear p4
                      go_upto_region 29 with (fail)
                      have NB2 := NB1
                      have TC2 := TC1
                      have AC := AB
                      clear hx4
                      have nq := NB2.out.c0
                      have cq := TC2.out.c1
                      have fq := TC2.out.f 1
                      go_upto_region 30 with (fail)
                      obtain ⟨V0, hV, NV, TV, RV, KV⟩ : ∃ V, W3.setCell ⟨bt, 1, none⟩ (.int .i64 (fv F 0)) = V ∧ NB V b6 (fv F 0) (fv F 1) (fv F 2) (fv F 3) (fv F 4) (fv F 5) ∧ TC V bt nm (fv F 0) 0 0 0 0 0 ∧ RR V br A cap ts j n ∧ Kept [br, bt] w V :=
                        ⟨_, rfl, NB2.out.other hne6, TC2.out.s1 _, AC.out.1.kept ((Kept.refl [bt] _).set bt 1 _ (by simp)) (by simp; exact hbb) (fun g e => by simp; exact hgt g e), AC.out.2.set bt 1 _ (by simp)⟩
                      rw [hV]
                      have NN0 := Lib.hid NV
                      have TT0 := Lib.hid TV
                      have AA0 : Hid (RR V0 br A cap ts j n ∧ Kept [br, bt] w V0) := Lib.hid ⟨RV, KV⟩
                      clear hV NV TV RV KV nq cq fq
                      have nq := NN0.out.c1
                      have cq := TT0.out.c2
                      have fq := TT0.out.f 2
                      go_upto_region 31 with (fail)
                      obtain ⟨V1, hV, NV, TV, RV, KV⟩ : ∃ V, V0.setCell ⟨bt, 2, none⟩ (.int .i64 (fv F 1)) = V ∧ NB V b6 (fv F 0) (fv F 1) (fv F 2) (fv F 3) (fv F 4) (fv F 5) ∧ TC V bt nm (fv F 0) (fv F 1) 0 0 0 0 ∧ RR V br A cap ts j n ∧ Kept [br, bt] w V :=
                        ⟨_, rfl, NN0.out.other hne6, TT0.out.s2 _, AA0.out.1.kept ((Kept.refl [bt] _).set bt 2 _ (by simp)) (by simp; exact hbb) (fun g e => by simp; exact hgt g e), AA0.out.2.set bt 2 _ (by simp)⟩
                      rw [hV]
                      have NN1 := Lib.hid NV
                      have TT1 := Lib.hid TV
                      have AA1 : Hid (RR V1 br A cap ts j n ∧ Kept [br, bt] w V1) := Lib.hid ⟨RV, KV⟩
                      clear hV NV TV RV KV nq cq fq
                      have nq := NN1.out.c2
                      have cq := TT1.out.c3
                      have fq := TT1.out.f 3
                      go_upto_region 32 with (fail)
                      obtain ⟨V2, hV, NV, TV, RV, KV⟩ : ∃ V, V1.setCell ⟨bt, 3, none⟩ (.int .i64 (fv F 2)) = V ∧ NB V b6 (fv F 0) (fv F 1) (fv F 2) (fv F 3) (fv F 4) (fv F 5) ∧ TC V bt nm (fv F 0) (fv F 1) (fv F 2) 0 0 0 ∧ RR V br A cap ts j n ∧ Kept [br, bt] w V :=
                        ⟨_, rfl, NN1.out.other hne6, TT1.out.s3 _, AA1.out.1.kept ((Kept.refl [bt] _).set bt 3 _ (by simp)) (by simp; exact hbb) (fun g e => by simp; exact hgt g e), AA1.out.2.set bt 3 _ (by simp)⟩
                      rw [hV]
                      have NN2 := Lib.hid NV
                      have TT2 := Lib.hid TV
                      have AA2 : Hid (RR V2 br A cap ts j n ∧ Kept [br, bt] w V2) := Lib.hid ⟨RV, KV⟩
                      clear hV NV TV RV KV nq cq fq
                      have nq := NN2.out.c3
                      have cq := TT2.out.c4
                      have fq := TT2.out.f 4
                      go_upto_region 33 with (fail)
                      obtain ⟨V3, hV, NV, TV, RV, KV⟩ : ∃ V, V2.setCell ⟨bt, 4, none⟩ (.int .i64 (fv F 3)) = V ∧ NB V b6 (fv F 0) (fv F 1) (fv F 2) (fv F 3) (fv F 4) (fv F 5) ∧ TC V bt nm (fv F 0) (fv F 1) (fv F 2) (fv F 3) 0 0 ∧ RR V br A cap ts j n ∧ Kept [br, bt] w V :=
                        ⟨_, rfl, NN2.out.other hne6, TT2.out.s4 _, AA2.out.1.kept ((Kept.refl [bt] _).set bt 4 _ (by simp)) (by simp; exact hbb) (fun g e => by simp; exact hgt g e), AA2.out.2.set bt 4 _ (by simp)⟩
                      rw [hV]
                      have NN3 := Lib.hid NV
                      have TT3 := Lib.hid TV
                      have AA3 : Hid (RR V3 br A cap ts j n ∧ Kept [br, bt] w V3) := Lib.hid ⟨RV, KV⟩
                      clear hV NV TV RV KV nq cq fq
                      have nq := NN3.out.c4
                      have cq := TT3.out.c5
                      have fq := TT3.out.f 5
                      go_upto_region 34 with (fail)
                      obtain ⟨V4, hV, NV, TV, RV, KV⟩ : ∃ V, V3.setCell ⟨bt, 5, none⟩ (.int .i64 (fv F 4)) = V ∧ NB V b6 (fv F 0) (fv F 1) (fv F 2) (fv F 3) (fv F 4) (fv F 5) ∧ TC V bt nm (fv F 0) (fv F 1) (fv F 2) (fv F 3) (fv F 4) 0 ∧ RR V br A cap ts j n ∧ Kept [br, bt] w V :=
                        ⟨_, rfl, NN3.out.other hne6, TT3.out.s5 _, AA3.out.1.kept ((Kept.refl [bt] _).set bt 5 _ (by simp)) (by simp; exact hbb) (fun g e => by simp; exact hgt g e), AA3.out.2.set bt 5 _ (by simp)⟩
                      rw [hV]
                      have NN4 := Lib.hid NV
                      have TT4 := Lib.hid TV
                      have AA4 : Hid (RR V4 br A cap ts j n ∧ Kept [br, bt] w V4) := Lib.hid ⟨RV, KV⟩
                      clear hV NV TV RV KV nq cq fq
                      have nq := NN4.out.c5
                      have cq := TT4.out.c6
                      have fq := TT4.out.f 6
                      go_wp2
                      obtain ⟨V5, hV, NV, TV, RV, KV⟩ : ∃ V, V4.setCell ⟨bt, 6, none⟩ (.int .i64 (fv F 5)) = V ∧ NB V b6 (fv F 0) (fv F 1) (fv F 2) (fv F 3) (fv F 4) (fv F 5) ∧ TC V bt nm (fv F 0) (fv F 1) (fv F 2) (fv F 3) (fv F 4) (fv F 5) ∧ RR V br A cap ts j n ∧ Kept [br, bt] w V :=
                        ⟨_, rfl, NN4.out.other hne6, TT4.out.s6 _, AA4.out.1.kept ((Kept.refl [bt] _).set bt 6 _ (by simp)) (by simp; exact hbb) (fun g e => by simp; exact hgt g e), AA4.out.2.set bt 6 _ (by simp)⟩
                      rw [hV]
                      have NN5 := Lib.hid NV
                      have TT5 := Lib.hid TV
                      have AA5 : Hid (RR V5 br A cap ts j n ∧ Kept [br, bt] w V5) := Lib.hid ⟨RV, KV⟩
                      clear hV NV TV RV KV nq cq fq
                      go_ret
                      refine .inr ⟨j, taskOf nm F, rfl, AA5.out.1, ?_, AA5.out.2, hwf.out, by rw [HEND.out, HLN.out], hlo.out.1, hlo.out.2⟩
                      refine (show V5.heap[bt]? = _ from TT5.out).trans ?_
                      have p2 := P2.out
                      have p4 := P4.out
                      cases e2 : F 2 <;> cases e4 : F 4 <;> simp [e2, e4] at p2 p4 <;> simp [taskOf, tsL, e2, e4]
                    · rw [p4] at hx4
                      have P4 := Lib.hid p4
                      clear p4
                      have n4 := NB1.out.c4
                      have g4 : W3.frozen? ⟨b6, 4, none⟩ = false := frozen_of_row W3 b6 4 _ _ NB1.out
                      go_upto_region 29 with (fail)
                      obtain ⟨Wn, hWn, NBn, TCn, ACn⟩ : ∃ Wn, W3.setCell ⟨b6, 4, none⟩ (.int .i64 1) = Wn ∧ NB Wn b6 (fv F 0) (fv F 1) (fv F 2) (fv F 3) 1 (fv F 5) ∧ TC Wn bt nm 0 0 0 0 0 0 ∧ (RR Wn br A cap ts j n ∧ Kept [br, bt] w Wn) := by
                        obtain ⟨Ra, Ta, Ka⟩ := num_kept (i := 4) (nm := nm) hb6w hbrw hbtw hgw AB.out.1 TC1.out AB.out.2 (.int .i64 1)
                        exact ⟨_, rfl, heap_setCell_same W3 b6 4 _ _ _ NB1.out, Ta, ⟨Ra, Ka⟩⟩
                      rw [hWn]
                      have NB2 := Lib.hid NBn
                      have TC2 := Lib.hid TCn
                      have AC := Lib.hid ACn
                      clear hWn NBn TCn ACn n4 g4
                      clear hx4
                      have nq := NB2.out.c0
                      have cq := TC2.out.c1
                      have fq := TC2.out.f 1
                      go_upto_region 30 with (fail)
                      obtain ⟨V0, hV, NV, TV, RV, KV⟩ : ∃ V, Wn.setCell ⟨bt, 1, none⟩ (.int .i64 (fv F 0)) = V ∧ NB V b6 (fv F 0) (fv F 1) (fv F 2) (fv F 3) 1 (fv F 5) ∧ TC V bt nm (fv F 0) 0 0 0 0 0 ∧ RR V br A cap ts j n ∧ Kept [br, bt] w V :=
                        ⟨_, rfl, NB2.out.other hne6, TC2.out.s1 _, AC.out.1.kept ((Kept.refl [bt] _).set bt 1 _ (by simp)) (by simp; exact hbb) (fun g e => by simp; exact hgt g e), AC.out.2.set bt 1 _ (by simp)⟩
                      rw [hV]
                      have NN0 := Lib.hid NV
                      have TT0 := Lib.hid TV
                      have AA0 : Hid (RR V0 br A cap ts j n ∧ Kept [br, bt] w V0) := Lib.hid ⟨RV, KV⟩
                      clear hV NV TV RV KV nq cq fq
                      have nq := NN0.out.c1
                      have cq := TT0.out.c2
                      have fq := TT0.out.f 2
                      go_upto_region 31 with (fail)
                      obtain ⟨V1, hV, NV, TV, RV, KV⟩ : ∃ V, V0.setCell ⟨bt, 2, none⟩ (.int .i64 (fv F 1)) = V ∧ NB V b6 (fv F 0) (fv F 1) (fv F 2) (fv F 3) 1 (fv F 5) ∧ TC V bt nm (fv F 0) (fv F 1) 0 0 0 0 ∧ RR V br A cap ts j n ∧ Kept [br, bt] w V :=
                        ⟨_, rfl, NN0.out.other hne6, TT0.out.s2 _, AA0.out.1.kept ((Kept.refl [bt] _).set bt 2 _ (by simp)) (by simp; exact hbb) (fun g e => by simp; exact hgt g e), AA0.out.2.set bt 2 _ (by simp)⟩
                      rw [hV]
                      have NN1 := Lib.hid NV
                      have TT1 := Lib.hid TV
                      have AA1 : Hid (RR V1 br A cap ts j n ∧ Kept [br, bt] w V1) := Lib.hid ⟨RV, KV⟩
                      clear hV NV TV RV KV nq cq fq
                      have nq := NN1.out.c2
                      have cq := TT1.out.c3
                      have fq := TT1.out.f 3
                      go_upto_region 32 with (fail)
                      obtain ⟨V2, hV, NV, TV, RV, KV⟩ : ∃ V, V1.setCell ⟨bt, 3, none⟩ (.int .i64 (fv F 2)) = V ∧ NB V b6 (fv F 0) (fv F 1) (fv F 2) (fv F 3) 1 (fv F 5) ∧ TC V bt nm (fv F 0) (fv F 1) (fv F 2) 0 0 0 ∧ RR V br A cap ts j n ∧ Kept [br, bt] w V :=
                        ⟨_, rfl, NN1.out.other hne6, TT1.out.s3 _, AA1.out.1.kept ((Kept.refl [bt] _).set bt 3 _ (by simp)) (by simp; exact hbb) (fun g e => by simp; exact hgt g e), AA1.out.2.set bt 3 _ (by simp)⟩
                      rw [hV]
                      have NN2 := Lib.hid NV
                      have TT2 := Lib.hid TV
                      have AA2 : Hid (RR V2 br A cap ts j n ∧ Kept [br, bt] w V2) := Lib.hid ⟨RV, KV⟩
                      clear hV NV TV RV KV nq cq fq
                      have nq := NN2.out.c3
                      have cq := TT2.out.c4
                      have fq := TT2.out.f 4
                      go_upto_region 33 with (fail)
                      obtain ⟨V3, hV, NV, TV, RV, KV⟩ : ∃ V, V2.setCell ⟨bt, 4, none⟩ (.int .i64 (fv F 3)) = V ∧ NB V b6 (fv F 0) (fv F 1) (fv F 2) (fv F 3) 1 (fv F 5) ∧ TC V bt nm (fv F 0) (fv F 1) (fv F 2) (fv F 3) 0 0 ∧ RR V br A cap ts j n ∧ Kept [br, bt] w V :=
                        ⟨_, rfl, NN2.out.other hne6, TT2.out.s4 _, AA2.out.1.kept ((Kept.refl [bt] _).set bt 4 _ (by simp)) (by simp; exact hbb) (fun g e => by simp; exact hgt g e), AA2.out.2.set bt 4 _ (by simp)⟩
                      rw [hV]
                      have NN3 := Lib.hid NV
                      have TT3 := Lib.hid TV
                      have AA3 : Hid (RR V3 br A cap ts j n ∧ Kept [br, bt] w V3) := Lib.hid ⟨RV, KV⟩
                      clear hV NV TV RV KV nq cq fq
                      have nq := NN3.out.c4
                      have cq := TT3.out.c5
                      have fq := TT3.out.f 5
                      go_upto_region 34 with (fail)
                      obtain ⟨V4, hV, NV, TV, RV, KV⟩ : ∃ V, V3.setCell ⟨bt, 5, none⟩ (.int .i64 1) = V ∧ NB V b6 (fv F 0) (fv F 1) (fv F 2) (fv F 3) 1 (fv F 5) ∧ TC V bt nm (fv F 0) (fv F 1) (fv F 2) (fv F 3) 1 0 ∧ RR V br A cap ts j n ∧ Kept [br, bt] w V :=
                        ⟨_, rfl, NN3.out.other hne6, TT3.out.s5 _, AA3.out.1.kept ((Kept.refl [bt] _).set bt 5 _ (by simp)) (by simp; exact hbb) (fun g e => by simp; exact hgt g e), AA3.out.2.set bt 5 _ (by simp)⟩
                      rw [hV]
                      have NN4 := Lib.hid NV
                      have TT4 := Lib.hid TV
                      have AA4 : Hid (RR V4 br A cap ts j n ∧ Kept [br, bt] w V4) := Lib.hid ⟨RV, KV⟩
                      clear hV NV TV RV KV nq cq fq
                      have nq := NN4.out.c5
                      have cq := TT4.out.c6
                      have fq := TT4.out.f 6
                      go_wp2
                      obtain ⟨V5, hV, NV, TV, RV, KV⟩ : ∃ V, V4.setCell ⟨bt, 6, none⟩ (.int .i64 (fv F 5)) = V ∧ NB V b6 (fv F 0) (fv F 1) (fv F 2) (fv F 3) 1 (fv F 5) ∧ TC V bt nm (fv F 0) (fv F 1) (fv F 2) (fv F 3) 1 (fv F 5) ∧ RR V br A cap ts j n ∧ Kept [br, bt] w V :=
                        ⟨_, rfl, NN4.out.other hne6, TT4.out.s6 _, AA4.out.1.kept ((Kept.refl [bt] _).set bt 6 _ (by simp)) (by simp; exact hbb) (fun g e => by simp; exact hgt g e), AA4.out.2.set bt 6 _ (by simp)⟩
                      rw [hV]
                      have NN5 := Lib.hid NV
                      have TT5 := Lib.hid TV
                      have AA5 : Hid (RR V5 br A cap ts j n ∧ Kept [br, bt] w V5) := Lib.hid ⟨RV, KV⟩
                      clear hV NV TV RV KV nq cq fq
                      go_ret
                      refine .inr ⟨j, taskOf nm F, rfl, AA5.out.1, ?_, AA5.out.2, hwf.out, by rw [HEND.out, HLN.out], hlo.out.1, hlo.out.2⟩
                      refine (show V5.heap[bt]? = _ from TT5.out).trans ?_
                      have p2 := P2.out
                      have p4 := P4.out
                      cases e2 : F 2 <;> cases e4 : F 4 <;> simp [e2, e4] at p2 p4 <;> simp [taskOf, tsL, e2, e4]
                  · rw [p2] at h2
                    have P2 := Lib.hid p2
                    clear p2
                    have n1 := NB0.out.c1
                    have n2 := NB0.out.c2
                    have g2 := HL3.out.nf 2
                    go_upto_region 27 with (fail)
                    obtain ⟨Wm, hWm, NBm, TCm, ABm, hx4⟩ : ∃ Wm, W3.setCell ⟨b6, 2, none⟩ (.int .i64 (fv F 1)) = Wm ∧ NB Wm b6 (fv F 0) (fv F 1) (fv F 1) (fv F 3) (fv F 4) (fv F 5) ∧ TC Wm bt nm 0 0 0 0 0 0 ∧ (RR Wm br A cap ts j n ∧ Kept [br, bt] w Wm) ∧ Wm.cell? ⟨b5, 4, none⟩ = some (.bool (F 4).isSome) := by
                      obtain ⟨Ra, Ta, Ka⟩ := num_kept (i := 2) hb6w hbrw hbtw hgw HR3.out HT3.out HK3.out (.int .i64 (fv F 1))
                      exact ⟨_, rfl, heap_setCell_same W3 b6 2 _ _ _ NB0.out, Ta, ⟨Ra, Ka⟩, (World.cell?_setCell_other _ _ _ _ (by intro e; have := congrArg Addr.block e; simp only at this; omega)).trans (HL3.out.tc (k := 4) (by omega))⟩
                    rw [hWm]
                    have NB1 := Lib.hid NBm
                    have TC1 := Lib.hid TCm
                    have AB := Lib.hid ABm
                    clear hWm NBm TCm ABm n1 n2 g2
                    clear h2
                    rcases (Bool.eq_false_or_eq_true (F 4).isSome) with p4 | p4
                    · rw [p4] at hx4
                      have P4 := Lib.hid p4
                      clear p4
                      go_upto_region 29 with (fail)
                      have NB2 := NB1
                      have TC2 := TC1
                      have AC := AB
                      clear hx4
                      have nq := NB2.out.c0
                      have cq := TC2.out.c1
                      have fq := TC2.out.f 1
                      go_upto_region 30 with (fail)
                      obtain ⟨V0, hV, NV, TV, RV, KV⟩ : ∃ V, Wm.setCell ⟨bt, 1, none⟩ (.int .i64 (fv F 0)) = V ∧ NB V b6 (fv F 0) (fv F 1) (fv F 1) (fv F 3) (fv F 4) (fv F 5) ∧ TC V bt nm (fv F 0) 0 0 0 0 0 ∧ RR V br A cap ts j n ∧ Kept [br, bt] w V :=
                        ⟨_, rfl, NB2.out.other hne6, TC2.out.s1 _, AC.out.1.kept ((Kept.refl [bt] _).set bt 1 _ (by simp)) (by simp; exact hbb) (fun g e => by simp; exact hgt g e), AC.out.2.set bt 1 _ (by simp)⟩
                      rw [hV]
                      have NN0 := Lib.hid NV
                      have TT0 := Lib.hid TV
                      have AA0 : Hid (RR V0 br A cap ts j n ∧ Kept [br, bt] w V0) := Lib.hid ⟨RV, KV⟩
                      clear hV NV TV RV KV nq cq fq
                      have nq := NN0.out.c1
                      have cq := TT0.out.c2
                      have fq := TT0.out.f 2
                      go_upto_region 31 with (fail)
                      obtain ⟨V1, hV, NV, TV, RV, KV⟩ : ∃ V, V0.setCell ⟨bt, 2, none⟩ (.int .i64 (fv F 1)) = V ∧ NB V b6 (fv F 0) (fv F 1) (fv F 1) (fv F 3) (fv F 4) (fv F 5) ∧ TC V bt nm (fv F 0) (fv F 1) 0 0 0 0 ∧ RR V br A cap ts j n ∧ Kept [br, bt] w V :=
                        ⟨_, rfl, NN0.out.other hne6, TT0.out.s2 _, AA0.out.1.kept ((Kept.refl [bt] _).set bt 2 _ (by simp)) (by simp; exact hbb) (fun g e => by simp; exact hgt g e), AA0.out.2.set bt 2 _ (by simp)⟩
                      rw [hV]
                      have NN1 := Lib.hid NV
                      have TT1 := Lib.hid TV
                      have AA1 : Hid (RR V1 br A cap ts j n ∧ Kept [br, bt] w V1) := Lib.hid ⟨RV, KV⟩
                      clear hV NV TV RV KV nq cq fq
                      have nq := NN1.out.c2
                      have cq := TT1.out.c3
                      have fq := TT1.out.f 3
                      go_upto_region 32 with (fail)
                      obtain ⟨V2, hV, NV, TV, RV, KV⟩ : ∃ V, V1.setCell ⟨bt, 3, none⟩ (.int .i64 (fv F 1)) = V ∧ NB V b6 (fv F 0) (fv F 1) (fv F 1) (fv F 3) (fv F 4) (fv F 5) ∧ TC V bt nm (fv F 0) (fv F 1) (fv F 1) 0 0 0 ∧ RR V br A cap ts j n ∧ Kept [br, bt] w V :=
                        ⟨_, rfl, NN1.out.other hne6, TT1.out.s3 _, AA1.out.1.kept ((Kept.refl [bt] _).set bt 3 _ (by simp)) (by simp; exact hbb) (fun g e => by simp; exact hgt g e), AA1.out.2.set bt 3 _ (by simp)⟩
                      rw [hV]
                      have NN2 := Lib.hid NV
                      have TT2 := Lib.hid TV
                      have AA2 : Hid (RR V2 br A cap ts j n ∧ Kept [br, bt] w V2) := Lib.hid ⟨RV, KV⟩
                      clear hV NV TV RV KV nq cq fq
                      have nq := NN2.out.c3
                      have cq := TT2.out.c4
                      have fq := TT2.out.f 4
                      go_upto_region 33 with (fail)
                      obtain ⟨V3, hV, NV, TV, RV, KV⟩ : ∃ V, V2.setCell ⟨bt, 4, none⟩ (.int .i64 (fv F 3)) = V ∧ NB V b6 (fv F 0) (fv F 1) (fv F 1) (fv F 3) (fv F 4) (fv F 5) ∧ TC V bt nm (fv F 0) (fv F 1) (fv F 1) (fv F 3) 0 0 ∧ RR V br A cap ts j n ∧ Kept [br, bt] w V :=
                        ⟨_, rfl, NN2.out.other hne6, TT2.out.s4 _, AA2.out.1.kept ((Kept.refl [bt] _).set bt 4 _ (by simp)) (by simp; exact hbb) (fun g e => by simp; exact hgt g e), AA2.out.2.set bt 4 _ (by simp)⟩
                      rw [hV]
                      have NN3 := Lib.hid NV
                      have TT3 := Lib.hid TV
                      have AA3 : Hid (RR V3 br A cap ts j n ∧ Kept [br, bt] w V3) := Lib.hid ⟨RV, KV⟩
                      clear hV NV TV RV KV nq cq fq
                      have nq := NN3.out.c4
                      have cq := TT3.out.c5
                      have fq := TT3.out.f 5
                      go_upto_region 34 with (fail)
                      obtain ⟨V4, hV, NV, TV, RV, KV⟩ : ∃ V, V3.setCell ⟨bt, 5, none⟩ (.int .i64 (fv F 4)) = V ∧ NB V b6 (fv F 0) (fv F 1) (fv F 1) (fv F 3) (fv F 4) (fv F 5) ∧ TC V bt nm (fv F 0) (fv F 1) (fv F 1) (fv F 3) (fv F 4) 0 ∧ RR V br A cap ts j n ∧ Kept [br, bt] w V :=
                        ⟨_, rfl, NN3.out.other hne6, TT3.out.s5 _, AA3.out.1.kept ((Kept.refl [bt] _).set bt 5 _ (by simp)) (by simp; exact hbb) (fun g e => by simp; exact hgt g e), AA3.out.2.set bt 5 _ (by simp)⟩
                      rw [hV]
                      have NN4 := Lib.hid NV
                      have TT4 := Lib.hid TV
                      have AA4 : Hid (RR V4 br A cap ts j n ∧ Kept [br, bt] w V4) := Lib.hid ⟨RV, KV⟩
                      clear hV NV TV RV KV nq cq fq
                      have nq := NN4.out.c5
                      have cq := TT4.out.c6
                      have fq := TT4.out.f 6
                      go_wp2
                      obtain ⟨V5, hV, NV, TV, RV, KV⟩ : ∃ V, V4.setCell ⟨bt, 6, none⟩ (.int .i64 (fv F 5)) = V ∧ NB V b6 (fv F 0) (fv F 1) (fv F 1) (fv F 3) (fv F 4) (fv F 5) ∧ TC V bt nm (fv F 0) (fv F 1) (fv F 1) (fv F 3) (fv F 4) (fv F 5) ∧ RR V br A cap ts j n ∧ Kept [br, bt] w V :=
                        ⟨_, rfl, NN4.out.other hne6, TT4.out.s6 _, AA4.out.1.kept ((Kept.refl [bt] _).set bt 6 _ (by simp)) (by simp; exact hbb) (fun g e => by simp; exact hgt g e), AA4.out.2.set bt 6 _ (by simp)⟩
                      rw [hV]
                      have NN5 := Lib.hid NV
                      have TT5 := Lib.hid TV
                      have AA5 : Hid (RR V5 br A cap ts j n ∧ Kept [br, bt] w V5) := Lib.hid ⟨RV, KV⟩
                      clear hV NV TV RV KV nq cq fq
                      go_ret
                      refine .inr ⟨j, taskOf nm F, rfl, AA5.out.1, ?_, AA5.out.2, hwf.out, by rw [HEND.out, HLN.out], hlo.out.1, hlo.out.2⟩
                      refine (show V5.heap[bt]? = _ from TT5.out).trans ?_
                      have p2 := P2.out
                      have p4 := P4.out
                      cases e2 : F 2 <;> cases e4 : F 4 <;> simp [e2, e4] at p2 p4 <;> simp [taskOf, tsL, e2, e4]
                    · rw [p4] at hx4
                      have P4 := Lib.hid p4
                      clear p4
                      have n4 := NB1.out.c4
                      have g4 : Wm.frozen? ⟨b6, 4, none⟩ = false := frozen_of_row Wm b6 4 _ _ NB1.out
                      go_upto_region 29 with (fail)
                      obtain ⟨Wn, hWn, NBn, TCn, ACn⟩ : ∃ Wn, Wm.setCell ⟨b6, 4, none⟩ (.int .i64 1) = Wn ∧ NB Wn b6 (fv F 0) (fv F 1) (fv F 1) (fv F 3) 1 (fv F 5) ∧ TC Wn bt nm 0 0 0 0 0 0 ∧ (RR Wn br A cap ts j n ∧ Kept [br, bt] w Wn) := by
                        obtain ⟨Ra, Ta, Ka⟩ := num_kept (i := 4) (nm := nm) hb6w hbrw hbtw hgw AB.out.1 TC1.out AB.out.2 (.int .i64 1)
                        exact ⟨_, rfl, heap_setCell_same Wm b6 4 _ _ _ NB1.out, Ta, ⟨Ra, Ka⟩⟩
                      rw [hWn]
                      have NB2 := Lib.hid NBn
                      have TC2 := Lib.hid TCn
                      have AC := Lib.hid ACn
                      clear hWn NBn TCn ACn n4 g4
                      clear hx4
                      have nq := NB2.out.c0
                      have cq := TC2.out.c1
                      have fq := TC2.out.f 1
                      go_upto_region 30 with (fail)
                      obtain ⟨V0, hV, NV, TV, RV, KV⟩ : ∃ V, Wn.setCell ⟨bt, 1, none⟩ (.int .i64 (fv F 0)) = V ∧ NB V b6 (fv F 0) (fv F 1) (fv F 1) (fv F 3) 1 (fv F 5) ∧ TC V bt nm (fv F 0) 0 0 0 0 0 ∧ RR V br A cap ts j n ∧ Kept [br, bt] w V :=
                        ⟨_, rfl, NB2.out.other hne6, TC2.out.s1 _, AC.out.1.kept ((Kept.refl [bt] _).set bt 1 _ (by simp)) (by simp; exact hbb) (fun g e => by simp; exact hgt g e), AC.out.2.set bt 1 _ (by simp)⟩
                      rw [hV]
                      have NN0 := Lib.hid NV
                      have TT0 := Lib.hid TV
                      have AA0 : Hid (RR V0 br A cap ts j n ∧ Kept [br, bt] w V0) := Lib.hid ⟨RV, KV⟩
                      clear hV NV TV RV KV nq cq fq
                      have nq := NN0.out.c1
                      have cq := TT0.out.c2
                      have fq := TT0.out.f 2
                      go_upto_region 31 with (fail)
                      obtain ⟨V1, hV, NV, TV, RV, KV⟩ : ∃ V, V0.setCell ⟨bt, 2, none⟩ (.int .i64 (fv F 1)) = V ∧ NB V b6 (fv F 0) (fv F 1) (fv F 1) (fv F 3) 1 (fv F 5) ∧ TC V bt nm (fv F 0) (fv F 1) 0 0 0 0 ∧ RR V br A cap ts j n ∧ Kept [br, bt] w V :=
                        ⟨_, rfl, NN0.out.other hne6, TT0.out.s2 _, AA0.out.1.kept ((Kept.refl [bt] _).set bt 2 _ (by simp)) (by simp; exact hbb) (fun g e => by simp; exact hgt g e), AA0.out.2.set bt 2 _ (by simp)⟩
                      rw [hV]
                      have NN1 := Lib.hid NV
                      have TT1 := Lib.hid TV
                      have AA1 : Hid (RR V1 br A cap ts j n ∧ Kept [br, bt] w V1) := Lib.hid ⟨RV, KV⟩
                      clear hV NV TV RV KV nq cq fq
                      have nq := NN1.out.c2
                      have cq := TT1.out.c3
                      have fq := TT1.out.f 3
                      go_upto_region 32 with (fail)
                      obtain ⟨V2, hV, NV, TV, RV, KV⟩ : ∃ V, V1.setCell ⟨bt, 3, none⟩ (.int .i64 (fv F 1)) = V ∧ NB V b6 (fv F 0) (fv F 1) (fv F 1) (fv F 3) 1 (fv F 5) ∧ TC V bt nm (fv F 0) (fv F 1) (fv F 1) 0 0 0 ∧ RR V br A cap ts j n ∧ Kept [br, bt] w V :=
                        ⟨_, rfl, NN1.out.other hne6, TT1.out.s3 _, AA1.out.1.kept ((Kept.refl [bt] _).set bt 3 _ (by simp)) (by simp; exact hbb) (fun g e => by simp; exact hgt g e), AA1.out.2.set bt 3 _ (by simp)⟩
                      rw [hV]
                      have NN2 := Lib.hid NV
                      have TT2 := Lib.hid TV
                      have AA2 : Hid (RR V2 br A cap ts j n ∧ Kept [br, bt] w V2) := Lib.hid ⟨RV, KV⟩
                      clear hV NV TV RV KV nq cq fq
                      have nq := NN2.out.c3
                      have cq := TT2.out.c4
                      have fq := TT2.out.f 4
                      go_upto_region 33 with (fail)
                      obtain ⟨V3, hV, NV, TV, RV, KV⟩ : ∃ V, V2.setCell ⟨bt, 4, none⟩ (.int .i64 (fv F 3)) = V ∧ NB V b6 (fv F 0) (fv F 1) (fv F 1) (fv F 3) 1 (fv F 5) ∧ TC V bt nm (fv F 0) (fv F 1) (fv F 1) (fv F 3) 0 0 ∧ RR V br A cap ts j n ∧ Kept [br, bt] w V :=
                        ⟨_, rfl, NN2.out.other hne6, TT2.out.s4 _, AA2.out.1.kept ((Kept.refl [bt] _).set bt 4 _ (by simp)) (by simp; exact hbb) (fun g e => by simp; exact hgt g e), AA2.out.2.set bt 4 _ (by simp)⟩
                      rw [hV]
                      have NN3 := Lib.hid NV
                      have TT3 := Lib.hid TV
                      have AA3 : Hid (RR V3 br A cap ts j n ∧ Kept [br, bt] w V3) := Lib.hid ⟨RV, KV⟩
                      clear hV NV TV RV KV nq cq fq
                      have nq := NN3.out.c4
                      have cq := TT3.out.c5
                      have fq := TT3.out.f 5
                      go_upto_region 34 with (fail)
                      obtain ⟨V4, hV, NV, TV, RV, KV⟩ : ∃ V, V3.setCell ⟨bt, 5, none⟩ (.int .i64 1) = V ∧ NB V b6 (fv F 0) (fv F 1) (fv F 1) (fv F 3) 1 (fv F 5) ∧ TC V bt nm (fv F 0) (fv F 1) (fv F 1) (fv F 3) 1 0 ∧ RR V br A cap ts j n ∧ Kept [br, bt] w V :=
                        ⟨_, rfl, NN3.out.other hne6, TT3.out.s5 _, AA3.out.1.kept ((Kept.refl [bt] _).set bt 5 _ (by simp)) (by simp; exact hbb) (fun g e => by simp; exact hgt g e), AA3.out.2.set bt 5 _ (by simp)⟩
                      rw [hV]
                      have NN4 := Lib.hid NV
                      have TT4 := Lib.hid TV
                      have AA4 : Hid (RR V4 br A cap ts j n ∧ Kept [br, bt] w V4) := Lib.hid ⟨RV, KV⟩
                      clear hV NV TV RV KV nq cq fq
                      have nq := NN4.out.c5
                      have cq := TT4.out.c6
                      have fq := TT4.out.f 6
                      go_wp2
                      obtain ⟨V5, hV, NV, TV, RV, KV⟩ : ∃ V, V4.setCell ⟨bt, 6, none⟩ (.int .i64 (fv F 5)) = V ∧ NB V b6 (fv F 0) (fv F 1) (fv F 1) (fv F 3) 1 (fv F 5) ∧ TC V bt nm (fv F 0) (fv F 1) (fv F 1) (fv F 3) 1 (fv F 5) ∧ RR V br A cap ts j n ∧ Kept [br, bt] w V :=
                        ⟨_, rfl, NN4.out.other hne6, TT4.out.s6 _, AA4.out.1.kept ((Kept.refl [bt] _).set bt 6 _ (by simp)) (by simp; exact hbb) (fun g e => by simp; exact hgt g e), AA4.out.2.set bt 6 _ (by simp)⟩
                      rw [hV]
                      have NN5 := Lib.hid NV
                      have TT5 := Lib.hid TV
                      have AA5 : Hid (RR V5 br A cap ts j n ∧ Kept [br, bt] w V5) := Lib.hid ⟨RV, KV⟩
                      clear hV NV TV RV KV nq cq fq
                      go_ret
                      refine .inr ⟨j, taskOf nm F, rfl, AA5.out.1, ?_, AA5.out.2, hwf.out, by rw [HEND.out, HLN.out], hlo.out.1, hlo.out.2⟩
                      refine (show V5.heap[bt]? = _ from TT5.out).trans ?_
                      have p2 := P2.out
                      have p4 := P4.out
                      cases e2 : F 2 <;> cases e4 : F 4 <;> simp [e2, e4] at p2 p4 <;> simp [taskOf, tsL, e2, e4]
            · obtain ⟨t3, t4⟩ := knot (a := kAt ts j) (c := 0) (by omega)
              obtain ⟨t5, t6⟩ := knot (a := kAt ts j) (c := 4) (by omega)
              have hj1 : j < ts.length := kAt_lt (by omega)
              have hjm : hd ts j n ∈ ts := by
                rw [hd, List.getElem?_eq_getElem hj1]
                exact List.getElem_mem hj1
              have hfn : fieldIx (tAt ts j) = none := by
                cases e : fieldIx (tAt ts j) with
                | none => rfl
                | some k =>
                  rw [tAt_hd (n := n)] at e
                  exact absurd ((kAt_is (n := n) (by omega)).2 ((hG _ hjm).field e)) hk1
              have HE := Lib.hid (HBAD.out _ _ (HJ.out.eq.trans (S_not (fun e => hk4 ((kAt_four (n := n) hk0).2 e)) hfn)))
              clear hk1 hk4 hfn hjm
              go_wp2_with (first | (go_at_call 27; (with_reducible refine KJ.out.mono ?_); rintro e W1 ⟨rfl, hB1⟩; have R1 := HJ.out.rr.later hB1; have KA := Lib.hid (kind_any R1); have HR1 := Lib.hid R1; have HK1 := Lib.hid (HJ.out.kept.later hB1); have HL1 := Lib.hid (HJ.out.lb.later hB1); have HT1 := Lib.hid ((hB1.block bt (Array.getElem?_eq_some_iff.1 HJ.out.task).1).trans HJ.out.task); clear R1 hB1) | (go_at_call 27; (with_reducible refine KA.out.mono ?_); rintro e W2 ⟨rfl, hB2⟩; have R2 := HR1.out.later hB2; have KB := Lib.hid (kind_any R2); have HR2 := Lib.hid R2; have HK2 := Lib.hid (HK1.out.later hB2); have HL2 := Lib.hid (HL1.out.later hB2); have HT2 := Lib.hid ((hB2.block bt (Array.getElem?_eq_some_iff.1 HT1.out).1).trans HT1.out);  clear R2 hB2) | (go_at_call 27; (with_reducible refine KB.out.mono ?_); rintro e W3 ⟨rfl, hB3⟩; have R3 := HR2.out.later hB3; have HR3 := Lib.hid R3; have HK3 := Lib.hid (HK2.out.later hB3); have HL3 := Lib.hid (HL2.out.later hB3); have HT3 := Lib.hid ((hB3.block bt (Array.getElem?_eq_some_iff.1 HT2.out).1).trans HT2.out);  clear R3 hB3))
              go_ret
              exact .inl ⟨j, rfl, HR3.out, HK3.out, HE.out, HJ.out.hi⟩
      · obtain ⟨t1, t2⟩ := knot (a := kAt ts (i + 1)) (c := 1) (by omega)
        have HE := Lib.hid (show tasksS (restS ts i n) = ([], restS ts (i + 1) n) by
          rw [HREST.out, restS_hd ts (i + 1) n]
          exact tasksS_name H4.out HT.out (fun e => h2 ((kAt_is (n := n) (by omega)).2 e)))
        clear h2
        go_wp2_with (go_at_call 27; (with_reducible refine Kn.out.mono ?_); rintro e W4 ⟨rfl, hB4⟩)
        go_ret
        exact .inl ⟨i + 1, rfl, HR3.out.later hB4, (HK3.out.later hB4).mono (by simp), HE.out, by omega⟩
    · have TT := Lib.hid (fun W (hB : Below w.heap.size w W) => text_any (hR.later hB))
      have hw : ((bs (tAt ts i)).toList == [116, 97, 115, 107]) = false := by rw [task_test]; exact decide_eq_false ht
      have HE := Lib.hid (show tasksS (restS ts i n) = ([], restS ts i n) by rw [hrest]; exact tasksS_word h4 (by rw [← tAt_hd]; exact ht))
      generalize tAt ts i = t0 at *
      clear hR h1 e1 hk1 ht h4 hrest hgx hx
      go_enter Try.func28, Try.ntmps28
      go_wp2_with (first
        | (go_at_call 27; (with_reducible refine K.out.mono ?_); rintro e W1 ⟨rfl, hB1⟩; have HB1 := Lib.hid hB1; clear hB1)
        | (go_at_call 44; (with_reducible refine (TT.out _ HB1.out).mono ?_); rintro e W2 ⟨rfl, hB2⟩))
      go_ret
      exact .inl ⟨i, rfl, (HR.out.later HB1.out).later hB2, ((Kept.of _ HB1.out).later hB2), HE.out, by omega⟩
  · have hne := knot (a := kAt ts i) (c := 1) (by omega)
    obtain ⟨t1, t2⟩ := hne
    have HE := Lib.hid (show tasksS (restS ts i n) = ([], restS ts i n) by
      rw [hrest]
      refine tasksS_word h4 (fun e => h1 ((kAt_is (n := n) (by omega)).2 (hgx.task e))))
    clear hR h1 h4 hrest hgx hx
    go_enter Try.func28, Try.ntmps28
    go_wp2_with (go_at_call 27; (with_reducible refine K.out.mono ?_); rintro e W1 ⟨rfl, hB1⟩)
    go_ret
    exact .inl ⟨i, rfl, HR.out.later hB1, Kept.of _ hB1, HE.out, by omega⟩
end Go.Proofs.Ytlelnoalajeihaa
