/- Texts about the program, one after the other: KEndW, KRng, KBus, KBx, Laid, Srt, Ord, HAI, HBI. -/
import Derived.Test.YtngmaiiibinkaaaGreatG8
import Derived.Test.YtngmaiiibinkaaaGreatG9
import Derived.Test.YtngmaiiibinkaaaGreatG7
import Derived.RangeFuncRecord
import Derived.Lib.SliceRun
import Derived.Sort.CutIn
import Derived.Shelf.SlSortCmp.Whole1
import Derived.Ground.SlsfProg
import Derived.Ground.SlgnProg
import Derived.Test.YtngmaiiibinkaaaGreatProg
import Derived.Test.YtngmaiiibinkaaaGreatG4
import Derived.Laws.MakeOwn
import Derived.Shelf.SlSortCmp.NoneTotal
/- trace.Ends: its walk. -/
namespace Go.Proofs.YtngmaiiibinkaaaGreat
open Go.RowKit Go.Shelf
set_option linter.unusedVariables false
set_option linter.unusedSimpArgs false
attribute [local go_sem ↓] Go.wp_at_zero Go.wp_at_succ
theorem EdS.start {w w2 : World} {g n B : Nat} {js : List Fv} (h : w2.ownsRow B T64 1 (.slice (some ⟨g, 0, none⟩) n n) n (List.replicate n (.int .i64 (-1)))) (hB : w.heap.size ≤ B) (hb : Below w.heap.size w w2) : EdS w g w2.heap.size n js [] (w2.alloc (.map #[] 0)) := by
  have hb2 : Below w2.heap.size w2 (w2.alloc (.map #[] 0)) := (Below.refl _ _).alloc (Nat.le_refl _) _
  have e : numL (List.replicate n (-1)) = List.replicate n (.int .i64 (-1)) := by simp [numL]
  refine ⟨⟨List.replicate n (-1), ?_, by simp, fun i hi => ?_⟩, (MapI.made w2).of (fun s => ?_), hb.trans (hb2.mono hb.size), hb.size, ?_⟩
  · rw [e]; exact (Kept.of [] hb2).row (own_base h hB) (by simp)
  · rw [kO_rep _ _ _ hi]; rfl
  · unfold ranQ; rw [if_neg (by simp [totQ])]
  · have := (h.lt g rfl).2; omega
theorem mul9 {a b : Int} (ha : -1000000000000000000 ≤ a ∧ a ≤ 1000000000000000000) (hb : -1000000000000000000 ≤ b ∧ b ≤ 1000000000000000000) : wrap64 (a - b) = a - b ∧ wrap64 (a + b) = a + b := ⟨IntWalk.wrap64_in _ (by omega), IntWalk.wrap64_in _ (by omega)⟩
theorem max0 {a : Int} (h : 0 < a) : max 0 a = a := by omega
set_option maxRecDepth 100000 in
set_option maxHeartbeats 8000000 in
theorem ends_any {A R : Option Addr} {cap rc : Nat} {js : List Fv} {l : List Sq} (w : World) (hJ : FRow w R rc js) (hS : SqR w A cap l) (H : EdH js l) : Calls Tryz.prog 13 #[.slice R js.length rc, .slice A l.length cap] w (EndP js l w) := by
  obtain ⟨n, hn⟩ : ∃ n, js.length = n := ⟨_, rfl⟩
  obtain ⟨m, hm⟩ : ∃ m, l.length = m := ⟨_, rfl⟩
  have fj := H.fj
  have fl := H.fl
  have hle := hS.le
  have hmx := hS.mx
  have jle := hJ.le
  have jmx := hJ.mx
  rw [hn] at fj jle
  rw [hm] at fl hle
  have HJ := Lib.hid hJ
  have HS := Lib.hid hS
  have HH := Lib.hid H
  have HN := Lib.hid hn
  have HM := Lib.hid hm
  have hx0 : (w.alloc (.cells #[.int .i64 (-1)] T64)).cell? ⟨w.heap.size, 0, none⟩ = some (.int .i64 (-1)) := by
    rw [cell_of_row _ _ _ _ _ _ (heap_alloc_new w _)]; rfl
  have KR := Lib.hid (repeat_any n w.heap.size fj _ hx0)
  have PP := Lib.hid (fun g r wr (h : EdS w g r n js l wr) => h.done hn.symm H)
  have K1 := Lib.hid (fun i hi => (H.k1 i hi).1)
  have KI := Lib.hid (fun i n W => isPlace_any i n W)
  have hmm := @run_makeMap Tryz.prog
  rw [hn, hm]
  clear hJ hS H hn hm hx0
  generalize hPP : EndP js l w = Post at *
  clear hPP
  go_enter Tryz.func13, Tryz.ntmps13
  go_upto_region 2 with (go_at_call 28; (with_reducible refine KR.out.mono ?_); rintro e w2 ⟨g, rfl, hg, ho, hb⟩; have HG := Lib.hid hg; have HO := Lib.hid ho; have HB := Lib.hid hb; clear hg ho hb)
  go_upto_region 3 with (fail)
  have ba : Below w.heap.size w (w.alloc (.cells #[.int .i64 (-1)] T64)) := (Below.refl _ _).alloc (Nat.le_refl _) _
  have HS0 := Lib.hid (EdS.start (js := js) HO.out (by simp) (ba.trans (HB.out.mono (by simp))))
  obtain ⟨r, hr⟩ : ∃ r, w2.heap.size = r := ⟨_, rfl⟩
  obtain ⟨W3, hW3⟩ : ∃ W3, w2.alloc (.map #[] 0) = W3 := ⟨_, rfl⟩
  rw [hr, hW3] at HS0 ⊢
  clear KR HG HO HB ba hr hW3 hmm
  go_wp2
  go_loopw [21] (fun i wr => ∃ k : Nat, k ≤ m ∧ i = .int .i64 (k : Int) ∧ Hid (EdS w g r n js (l.take k) wr)) (fun i _ => m - (intOf i).toNat)
  case atStart => exact ⟨0, Nat.zero_le _, rfl, HS0⟩
  case round =>
    obtain ⟨k, hk, rfl, hE⟩ := hrel
    by_cases hlt : k < m
    · obtain ⟨b, o, x, rfl, hx, hbl, a0, a1, a2⟩ := (HS.out.later hE.out.bel).get (k := k) (by rw [HM.out]; exact hlt)
      have hi0 : (0 : Int) ≤ (k : Int) := by omega
      have hi1 : (k : Int) < (m : Int) := by omega
      have HT := Lib.hid (show l.take (k + 1) = l.take k ++ [x] by rw [List.take_add_one, hx]; rfl)
      have HBX := Lib.hid (HH.out.bd x (List.mem_of_getElem? hx))
      have HWX := Lib.hid (HS.out.wf x (List.mem_of_getElem? hx))
      clear hx hbl
      go_upto_region 6 with (fail)
      have HE1 := Lib.hid (hE.out.later ((Below.refl _ _).alloc (Nat.le_refl _) (.cells #[.int .i64 x.j, .int .i64 x.f, .int .i64 x.t] TSp)))
      have hgx : g < wr.heap.size := by
        obtain ⟨es, h1, -, -⟩ := hE.out.own
        exact (h1.lt g rfl).2
      have Z := Lib.hid (cells3 wr TSp (.int .i64 x.j) (.int .i64 x.f) (.int .i64 x.t))
      obtain ⟨xb, hxb⟩ : ∃ xb, wr.heap.size = xb := ⟨_, rfl⟩
      rw [hxb] at Z hgx ⊢
      have HGX := Lib.hid hgx
      clear hgx
      generalize wr.alloc (.cells #[.int .i64 x.j, .int .i64 x.f, .int .i64 x.t] TSp) = W1 at *
      obtain ⟨z0, z1, z2⟩ := Z.out
      have hln0 := (mul9 (a := x.t) (b := x.f) ⟨HBX.out.2.2.1, HBX.out.2.2.2⟩ ⟨HBX.out.1, HBX.out.2.1⟩).1
      obtain ⟨ln, hLN⟩ : ∃ ln, x.t - x.f = ln := ⟨_, rfl⟩
      have hln := hln0.trans hLN
      clear hln0
      have HLN := Lib.hid hLN
      clear hxb a0 a1 a2 hLN hE Z
      by_cases hp : 0 ≤ x.j ∧ x.j < (n : Int)
      · have p1 : decide (0 ≤ x.j) = true := decide_eq_true hp.1
        have p2 : decide (x.j < (n : Int)) = true := decide_eq_true hp.2
        have KP := Lib.hid (fun W => KI.out x.j n W)
        rw [p1, p2] at KP
        obtain ⟨i, hi⟩ : ∃ i : Nat, x.j = (i : Int) := ⟨x.j.toNat, by omega⟩
        have HX := Lib.hid hi
        have hin : i < n := by omega
        clear hp
        rw [hi] at z0 KP p1 p2
        clear hi
        have arm := True.intro
        by_cases hl0 : ln ≤ 0
        · have HE2 := Lib.hid (HE1.out.skip (x := x) K1.out HN.out.symm (.inr (by rw [HLN.out]; exact hl0)))
          rw [← HT.out] at HE2
          have t1 : decide (ln ≤ 0) = true := decide_eq_true hl0
          clear hl0
          go_upto_region 8 with (go_at_call 29; (with_reducible refine (KP.out _).mono ?_); rintro e w5 ⟨rfl, rfl⟩)
          go_roundw
          case rel => exact ⟨k + 1, by omega, by go_num, HE2⟩
          case measure => simp [intOf]; omega
        · have t1 : decide (ln ≤ 0) = false := decide_eq_false hl0
          obtain ⟨bj, oj, y, C, cc, rfl, hy, hbj, hF⟩ := (HJ.out.later HE1.out.bel).get (k := i) (by rw [HN.out]; exact hin)
          have hc3 := hF.c3
          have hyk : (jb js i).k = y.k := by rw [jb_get hy]
          have ii0 : (0 : Int) ≤ (i : Int) := by omega
          have ii1 : (i : Int) < (n : Int) := by omega
          have hlk := HE1.out.look K1.out HN.out.symm hin
          have HW := Lib.hid (HH.out.k1 i (by rw [HN.out]; exact hin))
          rw [hyk] at hlk HW
          have HYK := Lib.hid hyk
          have HIN := Lib.hid hin
          have HL0 := Lib.hid hl0
          have h0 := totQ_pos (i : Int) (l.take k)
          obtain ⟨W, hW⟩ : ∃ W, y.k = W := ⟨_, rfl⟩
          obtain ⟨tt, htt⟩ : ∃ tt, totQ (i : Int) (l.take k) = tt := ⟨_, rfl⟩
          have HTT := Lib.hid htt
          rw [hW] at hlk HW hc3 HYK
          rw [htt] at hlk h0
          clear hF hy hyk hbj hin hl0 htt hW
          by_cases hpast : W ≤ tt
          · have HE2 := Lib.hid (HE1.out.past (x := x) K1.out HN.out.symm HIN.out HX.out (by rw [HYK.out, HTT.out]; exact hpast))
            rw [← HT.out] at HE2
            have h01 : 0 < tt := by have := HW.out; omega
            have e1 : min W tt = W := by omega
            rw [e1, decide_eq_true h01] at hlk
            have t2 : decide (W ≥ W) = true := decide_eq_true (Int.le_refl _)
            have t3 : decide (W ≤ W) = true := decide_eq_true (Int.le_refl _)
            clear h0 hpast h01 e1
            go_upto_region 11 with (go_at_call 29; (with_reducible refine (KP.out _).mono ?_); rintro e w5 ⟨rfl, rfl⟩)
            go_roundw
            case rel => exact ⟨k + 1, by omega, by go_num, HE2⟩
            case measure => simp [intOf]; omega
          · have e1 : min W tt = tt := by omega
            rw [e1] at hlk
            have HLT := Lib.hid (show tt < W ∧ 0 ≤ tt by omega)
            have t2 : decide (tt ≥ W) = false := decide_eq_false (by omega)
            have t3 : decide (W ≤ tt) = false := decide_eq_false (by omega)
            obtain ⟨lf, hlf⟩ : ∃ lf, W - tt = lf := ⟨_, rfl⟩
            have hw20 := (mul9 (a := W) (b := tt) (by have := HW.out; omega) (by have := HW.out; omega)).1
            have hlf0 : 0 < lf := by omega
            have hw2 := hw20.trans hlf
            clear hw20
            have hm0 := max0 hlf0
            have HLF := Lib.hid (show W - tt = lf ∧ 0 < lf by omega)
            obtain ⟨bg, hbg⟩ : ∃ bg, decide (0 < tt) = bg := ⟨_, rfl⟩
            rw [hbg] at hlk
            clear h0 hpast e1 hbg hlf hlf0
            have hK := Lib.hid (fun i hi => K1.out i hi)
            have HKW := Lib.hid (show (jb js i).k = W from HYK.out)
            by_cases hend : lf ≤ ln
            · have t4 : decide (lf ≤ ln) = true := decide_eq_true hend
              have e2 : min lf ln = lf := by omega
              have e2' : min ln lf = lf := by omega
              have hw3 := (mul9 (a := x.f) (b := lf) ⟨HBX.out.1, HBX.out.2.1⟩ (by have := HLF.out; have := HW.out; have := HLT.out; omega)).2
              obtain ⟨ev, hev⟩ : ∃ ev, x.f + lf = ev := ⟨_, rfl⟩
              have hw3' := hw3.trans hev
              have hw4 : wrap64 (tt + lf) = W := (mul9 (a := tt) (b := lf) (by have := HW.out; have := HLT.out; omega) (by have := HLF.out; have := HW.out; have := HLT.out; omega)).2.trans (by have := HLF.out; omega)
              obtain ⟨o, ho, HE2⟩ := HE1.out.ends (x := x) (v := W) (e := ev) K1.out HN.out.symm HIN.out HX.out (by rw [HLN.out]; have := HL0.out; omega) (by rw [HTT.out, HKW.out]; exact HLT.out.1) (by rw [HTT.out, HKW.out, HLN.out]; have := HLF.out; omega) HKW.out.symm (by rw [HTT.out, HKW.out, ← hev]; have := HLF.out; omega)
              rw [← HT.out] at HE2
              have fz := HE1.out.fz (Nat.lt_of_le_of_lt (Nat.zero_le _) HIN.out) i
              obtain ⟨cv, hcv⟩ := HE1.out.cell HIN.out
              have HEV := Lib.hid HE2
              obtain ⟨bs, hgr⟩ : ∃ q : Hid (g ≠ r), True := ⟨Lib.hid HE1.out.ne, trivial⟩
              have z0' : (W1.setCell ⟨g, i, none⟩ (.int .i64 ev)).cell? ⟨xb, 0, none⟩ = some (.int .i64 (i : Int)) := (World.cell?_of_block (w := W1) (a := ⟨xb, 0, none⟩) (Below.heap_setCell _ _ _ _ (fun e => by have h1 : xb = g := e; have := HGX.out; omega))).trans z0
              clear hend hw3 hev HE2 hgr
              go_upto_region 13 with (go_at_call 29; (with_reducible refine (KP.out _).mono ?_); rintro e w5 ⟨rfl, rfl⟩)
              all_goals
                go_wp2
                go_roundw
                case rel => exact ⟨k + 1, by omega, by go_num, HEV⟩
                case measure => simp [intOf]; omega
            · have t4 : decide (lf ≤ ln) = false := decide_eq_false hend
              have e2 : min lf ln = ln := by omega
              have e2' : min ln lf = ln := by omega
              have hw3 := (mul9 (a := tt) (b := ln) (by have := HW.out; have := HLT.out; omega) (by have := HLF.out; have := HW.out; have := HL0.out; have := HLT.out; omega)).2
              obtain ⟨ev, hev⟩ : ∃ ev, tt + ln = ev := ⟨_, rfl⟩
              have hw3' := hw3.trans hev
              obtain ⟨o, ho, HE2⟩ := HE1.out.more (x := x) (v := ev) K1.out HN.out.symm HIN.out HX.out (by rw [HLN.out]; have := HL0.out; omega) (by rw [HTT.out, HKW.out]; exact HLT.out.1) (by rw [HTT.out, HKW.out, HLN.out]; have := HLF.out; omega) (by rw [HTT.out, HLN.out, hev])
              rw [← HT.out] at HE2
              have HEV := Lib.hid HE2
              clear hend hw3 hev HE2
              go_upto_region 15 with (go_at_call 29; (with_reducible refine (KP.out _).mono ?_); rintro e w5 ⟨rfl, rfl⟩)
              all_goals
                go_wp2
                go_roundw
                case rel => exact ⟨k + 1, by omega, by go_num, HEV⟩
                case measure => simp [intOf]; omega
      · have hpf : (decide (0 ≤ x.j) && decide (x.j < (n : Int))) = false := by
          rw [Bool.and_eq_false_iff]
          by_cases h : 0 ≤ x.j
          · exact .inr (decide_eq_false (by omega))
          · exact .inl (decide_eq_false h)
        have KP := Lib.hid (fun W => KI.out x.j n W)
        rw [hpf] at KP
        have HE2 := Lib.hid (HE1.out.skip (x := x) K1.out HN.out.symm (.inl hp))
        rw [← HT.out] at HE2
        clear hp hpf
        go_upto_region 8 with (go_at_call 29; (with_reducible refine (KP.out _).mono ?_); rintro e w5 ⟨rfl, rfl⟩)
        go_roundw
        case rel => exact ⟨k + 1, by omega, by go_num, HE2⟩
        case measure => simp [intOf]; omega
    · obtain rfl : k = m := by omega
      have HL : Hid (EdS w g r n js l wr) := Lib.hid (by have := hE.out; rw [List.take_of_length_le (by rw [HM.out]; exact Nat.le_refl _)] at this; exact this)
      go_wp2
      exact PP.out _ _ _ HL.out
end Go.Proofs.YtngmaiiibinkaaaGreat
/- A range over a function that tells what it has copied: the iterator's word, and the law for its caller. -/
namespace Go.Proofs.YtngmaiiibinkaaaGreat
open Go.RowKit Go.Shelf
set_option linter.unusedVariables false
theorem wpIn_named {F : Fence} {n : Nat} {P : Program} {c : Code} {Q : Exit → Act → World → Prop} {a : Act} {w : World} (h : ∀ a', a' = a → Code.wpIn F n P c Q a' w) : Code.wpIn F n P c Q a w := h a rfl
/-- All blocks of cells but these are as they were. -/
structure KeepC (X : List Nat) (W W' : World) : Prop where
  size : W.heap.size ≤ W'.heap.size
  block : ∀ k cs T fr, k ∉ X → W.heap[k]? = some (.cells cs T fr) → W'.heap[k]? = some (.cells cs T fr)
theorem KeepC.refl (X : List Nat) (W : World) : KeepC X W W := ⟨Nat.le_refl _, fun _ _ _ _ _ h => h⟩
theorem KeepC.trans {X : List Nat} {A B C : World} (h : KeepC X A B) (k : KeepC X B C) : KeepC X A C := ⟨Nat.le_trans h.size k.size, fun i cs T fr hx hi => k.block i cs T fr hx (h.block i cs T fr hx hi)⟩
theorem KeepC.kept {X : List Nat} {A B : World} (h : Kept X A B) : KeepC X A B := ⟨h.size, fun i cs T fr hx hi => (h.block i (Array.getElem?_eq_some_iff.1 hi).1 hx).trans hi⟩
theorem KeepC.put {X : List Nat} {W : World} {l : Nat} {o : Obj} (o' : Obj) (h : W.heap[l]? = some o) (ho : o.isCells = false) : KeepC X W (W.putObj l o') := by
  refine ⟨by simp, fun i cs T fr hx hi => ?_⟩
  have hne : i ≠ l := by
    rintro rfl
    rw [h] at hi
    cases hi
    simp [Obj.isCells] at ho
  exact (World.putObj_heap_other hne).trans hi
def postA {E : Type} (B : Nat) (X : List Nat) (I : List E → World → Prop) (Ix : Code → List E → World → Prop) (xs : List E) (W : World) : Exit → Act → World → Prop
  | .normal, _, W' => KeepsFrom B W W' ∧ KeepC X W W' ∧ I xs W'
  | .ret, _, W' => KeepsFrom B W W' ∧ Ix .ret xs W'
  | .exit id, _, W' => KeepsFrom B W W' ∧ Ix (.exit id) xs W'
  | .goto t, _, W' => KeepsFrom B W W' ∧ Ix (.goto t) xs W'
  | .panic _, _, _ => False
  | .outgrown, _, _ => False
/-- An iterator's word. -/
def SeqA {E : Type} (vals : E → Array Value) (n g : Nat) (lb : Array Value) (X : List Nat) (L : List E) (w0 : World) : Prop :=
  ∀ (l : Nat) (J Jx : List E → World → Prop) (W : World), Below w0.heap.size w0 W → (∀ pre W1 W2, J pre W1 → Below W1.heap.size W1 W2 → J pre W2) →
    (∀ pre x r W1, J pre W1 → L = pre ++ x :: r → YieldAt Fence.wide (n - 1) Tryz.prog l (vals x) W1 fun e W' =>
      (e = .returned (.bool true) ∧ J (pre ++ [x]) W' ∧ KeepC X W1 W') ∨ (e = .returned (.bool false) ∧ Jx (pre ++ [x]) W')) →
    J [] W →
    CallsIn Fence.wide n Tryz.prog g (#[.func (.yield l) #[] #[]] ++ lb) W fun e W' => (∃ v, e = .returned v) ∧ (J L W' ∨ (∃ pre x r, L = pre ++ x :: r ∧ Jx (pre ++ [x]) W'))

theorem Two.later {D : Nat} {r : Loop} {W W' : World} (h : Two D r W) (hk : Below W.heap.size W W') : Two D r W' :=
  ⟨(hk.block D (Array.getElem?_eq_some_iff.1 h.d).1).trans h.d, (hk.block (D + 1) (Array.getElem?_eq_some_iff.1 h.l).1).trans h.l⟩
theorem grown_below {W W' : World} (h : Below W.heap.size W W') : W.grownBy W' none := ⟨h.os, h.tape, h.output, h.size, fun k hk _ => h.block k hk⟩

set_option maxHeartbeats 1000000 in
/-- The law for a caller. fr: what the assignment to the loop's variables leaves. -/
theorem rangeA {E : Type} {vals : E → Array Value} {g : Operand} {ps : Array Tmp} {assign body : Code} {Q : Exit → Act → World → Prop} {a : Act} {w : World} {n gf : Nat} {lb : Array Value} {X : List Nat} {L : List E} {w0 : World}
    (hg : a.eval g = .func (.func gf) #[] lb) (eg : ∀ args w, (callFunc gf args).run Tryz.prog w = .ok (.enter gf args) w)
    (hseq : SeqA vals (n - 1) gf lb X L w0) (hb0 : Below w0.heap.size w0 w) (hps : ∀ x, (vals x).size = ps.size)
    (I : List E → World → Prop) (Ix : Code → List E → World → Prop) (hI : OwnFrom w.heap.size I) (hIx : ∀ c, OwnFrom w.heap.size (Ix c)) (h0 : I [] w)
    (fr : E → Act)
    (hassign : ∀ (l : Nat) (x : E) (W : World) (K : Act → World → Prop), K (fr x) W →
      assign.wpIn (Fence.wide.inRound l) (n - 1 - 1) Tryz.prog (Exit.then K (fun _ _ _ => False)) { tmps := (ps.zip (vals x)).foldl (fun t (p, v) => t.setIfInBounds p v) a.tmps, defers := [] } W)
    (hbody : ∀ (l : Nat) (pre : List E) (x : E) (r : List E) (W : World), I pre W → L = pre ++ x :: r →
      body.wpIn (Fence.wide.inRound l) (n - 1 - 1) Tryz.prog (postA w.heap.size X I Ix (pre ++ [x]) W) (fr x) W)
    (hdone : ∀ (D : Nat) (W : World), w.heap.size ≤ D → I L W → W.heap[D]? = some (.deferred (some [])) → Q .normal { a with defers := { target := .collected D, args := #[] } :: a.defers } W)
    (hstop : ∀ (D : Nat) (c : Code) (pre : List E) (x : E) (r : List E) (W : World), w.heap.size ≤ D → L = pre ++ x :: r → Ix c (pre ++ [x]) W → W.heap[D]? = some (.deferred (some [])) → c.wpIn Fence.wide n Tryz.prog Q { a with defers := { target := .collected D, args := #[] } :: a.defers } W) :
    (Code.rangeFunc g ps assign body).wpIn Fence.wide n Tryz.prog Q a w := by
  refine wpIn_rangeFunc fun fn hfn => ?_
  obtain ⟨D, hD⟩ : ∃ D, D = w.heap.size := ⟨_, rfl⟩
  obtain ⟨rc, hrc⟩ : ∃ rc : LoopState → Option Code → Loop, rc = fun st pe => { state := st, pending := pe, fn, tmps := a.tmps, params := ps, assign, body, defers := D } := ⟨_, rfl⟩
  obtain ⟨V, hV⟩ : ∃ V, (w.alloc (.deferred (some []))).alloc (.loop (rc .ready none)) = V := ⟨_, rfl⟩
  have hV2 : Two D (rc .ready none) V := by
    rw [← hV, hD]
    refine ⟨(Below.heap_alloc _ _ _ (by simp)).trans (World.alloc_heap_new w _), ?_⟩
    have := World.alloc_heap_new (w.alloc (.deferred (some []))) (.loop (rc .ready none))
    rwa [World.size_alloc] at this
  have hVI : I [] V := by rw [← hV]; exact hI.alloc _ (hI.alloc _ h0)
  have hVb : Below w.heap.size w V := by
    rw [← hV]
    exact (((Below.refl _ w).alloc (Nat.le_refl _) _).alloc (by simp) _)
  have put : ∀ {pre : List E} {W : World} {r : Loop} (r' : Loop), I pre W → Two D r W → I pre (W.putObj (D + 1) (.loop r')) := fun r' hi h2 => hI.putObj _ hi (by omega) h2.l rfl
  have putx : ∀ {c : Code} {pre : List E} {W : World} {r : Loop} (r' : Loop), Ix c pre W → Two D r W → Ix c pre (W.putObj (D + 1) (.loop r')) := fun r' hi h2 => (hIx _).putObj _ hi (by omega) h2.l rfl
  refine ⟨D + 1, [{ target := .collected D, args := #[] }], V, { target := .fn (.func gf) lb, args := #[.func (.yield (D + 1)) #[] #[]] }, V, gf, #[.func (.yield (D + 1)) #[] #[]] ++ lb, V, ?_, ?_, ?_, ?_, ?_, ?_⟩
  · rw [← hV, hrc, hD]; exact run_enterLoop_outer _ _ _ _ _
  · simp only [resolve, hg]
    simp [go_sem]
  · intro f' _; trivial
  · simp [invoke, go_sem, eg]
  · intro h; cases h
  · refine (hseq (D + 1) (fun pre W => I pre W ∧ Two D (rc .ready none) W) (fun pre W => ∃ c, Ix c pre W ∧ Two D (rc .done (some c)) W) V (hb0.trans (hVb.mono hb0.size))
      (fun s X Z hs hk => ⟨hI s X Z none hs.1 (grown_below hk) (by simp), hs.2.later hk⟩)
      ?_ ⟨hVI, hV2⟩).mono ?_
    · rintro pre x r W ⟨hi, h2⟩ hL
      have hy := run_yield (P := Tryz.prog) (args := vals x) h2.l (by rw [hrc]; exact hps x)
      rw [hrc] at hy
      refine ⟨fn, _, assign, body, hy, roundIn_of_wpIn trivial (hassign _ x W _ ?_)⟩
      clear hy
      refine ⟨_, run_beginRound h2.l (by rw [hrc]), ?_⟩
      have h2b := h2.put { rc .ready none with state := .busy }
      have kc := KeepC.put (X := X) (.loop { rc .ready none with state := .busy }) h2.l rfl
      refine wpIn_mono (hbody _ pre x r _ (put _ hi h2) hL) ?_
      generalize W.putObj (D + 1) (.loop { rc .ready none with state := .busy }) = Wb at *
      rw [← hD]
      have fin : ∀ (jump : Option Code) (W3 : World), KeepsFrom D Wb W3 →
          (Instr.endRound (D + 1) jump).run Tryz.prog W3 = .ok (.bool jump.isNone) (W3.putObj (D + 1) (.loop (rc (if jump.isNone then .ready else .done) jump))) ∧ Two D { rc .ready none with state := .busy } W3 := fun jump W3 hk3 => by
        have h3 := h2b.from hk3
        have := run_endRound (P := Tryz.prog) jump h3.l
        rw [hrc] at this h3 ⊢
        exact ⟨this, h3⟩
      rintro e a3 W3 hp
      cases e with
      | normal =>
        obtain ⟨hk3, hc3, hi3⟩ := hp
        obtain ⟨hr, h3⟩ := fin none W3 hk3
        exact ⟨_, _, hr, .inl ⟨rfl, ⟨put _ hi3 h3, h3.put _⟩, (kc.trans hc3).trans (KeepC.put _ h3.l rfl)⟩⟩
      | ret =>
        obtain ⟨hk3, hi3⟩ := hp
        obtain ⟨hr, h3⟩ := fin (some .ret) W3 hk3
        exact ⟨_, _, hr, .inr ⟨rfl, ⟨.ret, putx _ hi3 h3, h3.put _⟩⟩⟩
      | exit id =>
        obtain ⟨hk3, hi3⟩ := hp
        obtain ⟨hr, h3⟩ := fin (some (.exit id)) W3 hk3
        exact ⟨_, _, hr, .inr ⟨rfl, ⟨.exit id, putx _ hi3 h3, h3.put _⟩⟩⟩
      | goto t =>
        obtain ⟨hk3, hi3⟩ := hp
        obtain ⟨hr, h3⟩ := fin (some (.goto t)) W3 hk3
        exact ⟨_, _, hr, .inr ⟨rfl, ⟨.goto t, putx _ hi3 h3, h3.put _⟩⟩⟩
      | panic ch => exact hp.elim
      | outgrown => exact hp.elim
    · rintro e W2 ⟨⟨v, rfl⟩, (⟨hi, h2⟩ | ⟨pre, x, r, hL, ⟨c, hi, h2⟩⟩)⟩
      · have he := run_endLoop (P := Tryz.prog) h2.l (by rw [hrc]; simp)
        rw [hrc] at he
        exact ⟨none, _, he, hdone D _ (Nat.le_of_eq hD.symm) (put _ hi h2) ((World.putObj_heap_other (by omega)).trans h2.d)⟩
      · have he := run_endLoop (P := Tryz.prog) h2.l (by rw [hrc]; simp)
        rw [hrc] at he
        exact ⟨some c, _, he, hstop D c pre x r _ (Nat.le_of_eq hD.symm) hL (putx _ hi h2) ((World.putObj_heap_other (by omega)).trans h2.d)⟩
theorem KeepC.below {X : List Nat} {A B : World} (h : Below A.heap.size A B) : KeepC X A B := KeepC.kept (Kept.of X h)
theorem KeepC.cell {X : List Nat} {A B : World} (h : KeepC X A B) {b i : Nat} {v : Value} (hc : A.cell? ⟨b, i, none⟩ = some v) (hx : b ∉ X) : B.cell? ⟨b, i, none⟩ = some v := by
  have hl := World.block_lt_of_cell? A _ hc
  cases ho : A.heap[b]? with
  | none => simp [World.cell?, ho] at hc
  | some o =>
    cases o with
    | cells cs T fr => rw [World.cell?_of_block (w := A) (a := ⟨b, i, none⟩) ((h.block b cs T fr hx ho).trans ho.symm)]; exact hc
    | _ => simp [World.cell?, ho] at hc
theorem KeepC.row {X : List Nat} {W W' : World} (h : KeepC X W W') {base e size k : Nat} {v : Value} {xs : List Value} (hr : W.ownsRow base e size v k xs) (hx : ∀ g, v.ownBlock = some g → g ∉ X) : W'.ownsRow base e size v k xs := by
  obtain ⟨h1, h2⟩ := hr
  refine ⟨h1, ?_⟩
  rcases h2 with h2 | ⟨g, cap, cur, hv, hg, hh, r⟩
  · exact .inl h2
  · subst hv
    exact .inr ⟨g, cap, cur, rfl, hg, h.block g _ _ _ (hx g rfl) hh, r⟩
theorem KeepC.box {X : List Nat} {W W' : World} {b : Nat} {t : TypeId} {v : Value} (h : KeepC X W W') (hb : Boxed W b t v) (hx : b ∉ X) : Boxed W' b t v := h.block b _ _ _ hx hb
end Go.Proofs.YtngmaiiibinkaaaGreat
/- Busy rows: slices.Clone of spans, Busy, its iterator. -/
namespace Go.Proofs.YtngmaiiibinkaaaGreat
open Go.RowKit Go.Shelf
set_option linter.unusedVariables false
set_option linter.unusedSimpArgs false
abbrev TSl : TypeId := 30
theorem sqC_inv : ∀ (l : List Sq) (j : Nat) (u : Value), (sqC l)[j]? = some u → ∃ i x r, l[i]? = some x ∧ (sqL x)[r]? = some u ∧ j = i * 3 + r
  | [], j, u, h => by simp [sqC] at h
  | a :: l, j, u, h => by
    have e : sqC (a :: l) = sqL a ++ sqC l := rfl
    rw [e] at h
    rcases Nat.lt_or_ge j 3 with hj | hj
    · rw [List.getElem?_append_left (by simp [sqL]; omega)] at h
      exact ⟨0, a, j, rfl, h, by omega⟩
    · rw [List.getElem?_append_right (by simp [sqL]; omega)] at h
      obtain ⟨i, x, r, h1, h2, h3⟩ := sqC_inv l _ u h
      have : (sqL a).length = 3 := rfl
      exact ⟨i + 1, x, r, by simpa using h1, h2, by omega⟩
theorem SqR.flat {w : World} {a : Addr} {cap : Nat} {l : List Sq} (h : SqR w (some a) cap l) : ∀ j u, (sqC l)[j]? = some u → w.cell? (a.add j) = some u := by
  intro j u hu
  obtain ⟨i, x, r, h1, h2, rfl⟩ := sqC_inv l j u hu
  obtain ⟨b, o, e, hr⟩ := h.at_ i x h1
  simp only [Option.some.injEq] at e
  subst e
  rw [add_none, ← Nat.add_assoc]
  exact hr r u h2
theorem sqC_one (l : List Sq) : ∀ u ∈ sqC l, u.oneCell' = true := by
  intro u hu
  obtain ⟨p, -, hp⟩ := List.mem_flatMap.1 hu
  exact sqL_one p u hp
def ClnP (l : List Sq) (w : World) (e : Ending) (w' : World) : Prop := ∃ v, e = .returned v ∧ w'.ownsRow w.heap.size TSp 3 v l.length (sqC l) ∧ Below w.heap.size w w'
section
attribute [local go_sem ↓] Go.wp_at_zero Go.wp_at_succ
set_option maxRecDepth 100000 in
set_option maxHeartbeats 4000000 in
theorem cloneS_any {A : Option Addr} {cap : Nat} {l : List Sq} (w : World) (h : SqR w A cap l) (hl : l.length ≤ 1000000) :
    Calls Tryz.prog 30 #[.slice A l.length cap] w (ClnP l w) := by
  obtain ⟨i0, hi, hz0, hz1, hz2⟩ := info_parts infoSp
  cases A with
  | none =>
    have hl0 : l = [] := by
      cases l with
      | nil => rfl
      | cons x r =>
        obtain ⟨b, o, e, _⟩ := h.at_ 0 x rfl
        cases e
    subst hl0
    have hne := fun w => Lib.run_eql_slice_nil (P := Tryz.prog) w TSl _ none 0 cap 0 0 Tryz.underlying30
    clear h
    go_enter Tryz.func30, Tryz.ntmps30
    go_wp2
    go_ret
    exact ⟨_, rfl, World.ownsRow_nil _ _ _ _, Below.refl _ _⟩
  | some a =>
    have hle := h.le
    have hmx := h.mx
    have HC := Lib.hid ((h.later ((Below.refl _ _).alloc (Nat.le_refl _) (.cells #[] TSp))).flat)
    have HL := Lib.hid (sqC_len l)
    have HO := Lib.hid (show (w.alloc (.cells #[] TSp)).ownsRow w.heap.size TSp 3 (.slice (some ⟨w.heap.size, 0, none⟩) 0 0) 0 [] from World.ownsRow_lit w #[] 0 (Nat.le_refl _) (by unfold maxLen; omega) rfl)
    have HA := Lib.hid (show Below w.heap.size w (w.alloc (.cells #[] TSp)) from (Below.refl _ _).alloc (Nat.le_refl _) _)
    have H1 := Lib.hid (sqC_one l)
    have PP := Lib.hid (fun v w' (h1 : w'.ownsRow w.heap.size TSp 3 v l.length (sqC l)) (h2 : Below w.heap.size w w') => show ClnP l w (.returned v) w' from ⟨v, rfl, h1, h2⟩)
    generalize sqC l = cs at *
    generalize hn : l.length = n at *
    have hne := fun w => Lib.run_eql_slice_nil (P := Tryz.prog) w TSl _ (some a) n cap 0 0 Tryz.underlying30
    clear h hn
    go_enter Tryz.func30, Tryz.ntmps30
    go_wp2_with (at_builtin; go_loud (refine wpList_append_own _ rfl _ _ TSl rfl w.heap.size TSp i0 _ 3 24 Tryz.underlying30 hi hz0 hz1 hz2 rfl (by decide) (.slice (some ⟨w.heap.size, 0, none⟩) 0 0) 0 [] rfl HO.out a n cap cs rfl HL.out HC.out H1.out (by unfold maxLen; omega) (by omega) (by simp) ?_; intro v' w1 hown hgrow hnil; have hB1 : Below w.heap.size w w1 := HA.out.grown hgrow (by simp) (fun k e => by simp [Value.ownBlock] at e; omega)))
    go_ret
    exact PP.out _ _ (by simpa using hown) hB1
/-- Busy: its iterator holds a copy. -/
def BusP (l : List Sq) (w : World) (e : Ending) (w' : World) : Prop := ∃ B v, e = .returned (.func (.func 31) #[] #[.pointer (some ⟨B, 0, none⟩)]) ∧ Boxed w' B TSl v ∧ w.heap.size ≤ B ∧ w'.ownsRow w.heap.size TSp 3 v l.length (sqC l) ∧ Below w.heap.size w w'
set_option maxRecDepth 100000 in
set_option maxHeartbeats 4000000 in
theorem busy_any {A : Option Addr} {cap : Nat} {l : List Sq} (w : World) (h : SqR w A cap l) (hl : l.length ≤ 1000000) : Calls Tryz.prog 17 #[.slice A l.length cap] w (BusP l w) := by
  have KC := Lib.hid (cloneS_any w h hl)
  clear h
  go_enter Tryz.func17, Tryz.ntmps17
  go_wp2_with (go_at_call 30; (with_reducible refine KC.out.mono ?_); rintro e w2 ⟨v, rfl, ho, hb⟩; obtain ⟨A', c', rfl, -, -⟩ := own_len ho; have HO := Lib.hid ho; have HB := Lib.hid hb; clear ho hb)
  go_ret
  have ba : Below w2.heap.size w2 (w2.alloc (.cells #[.slice A' l.length c'] TSl)) := (Below.refl _ _).alloc (Nat.le_refl _) _
  exact ⟨_, _, rfl, Boxed.new _ _ _, HB.out.size, (Kept.of [] ba).row HO.out (by simp), HB.out.trans (ba.mono HB.out.size)⟩
end
theorem run_eql_seq2 (fn : Fn) (a b : Array Value) (w : World) : (binOp .eql 48 (.func fn a b) .nilFunc).run Tryz.prog w = .ok (.bool false) w := by
  have h : ∀ d, (Op.equalIn (d + 1) 48 (.func fn a b) .nilFunc).run Tryz.prog w = .ok false w := fun d => by simp [Op.equalIn, run_underlying Tryz.underlying48]
  simp only [binOp]
  simp [Op.equal, Op.maxDepth, h 9999]
/-- What the iterator holds. -/
structure BuS (X : List Nat) (B Bn : Nat) (v : Value) (l : List Sq) (W : World) : Prop where
  box : Boxed W Bn TSl v
  row : W.ownsRow B TSp 3 v l.length (sqC l)
  nx : Bn ∉ X
  ng : ∀ g, v.ownBlock = some g → g ∉ X
theorem BuS.keep {X : List Nat} {B Bn : Nat} {v : Value} {l : List Sq} {W W' : World} (h : BuS X B Bn v l W) (hk : KeepC X W W') : BuS X B Bn v l W' := ⟨hk.box h.box h.nx, hk.row h.row h.ng, h.nx, h.ng⟩
theorem BuS.later {X : List Nat} {B Bn : Nat} {v : Value} {l : List Sq} {W W' : World} (h : BuS X B Bn v l W) (hb : Below W.heap.size W W') : BuS X B Bn v l W' := h.keep (KeepC.below hb)
theorem BuS.get {X : List Nat} {B Bn : Nat} {v : Value} {l : List Sq} {W : World} (h : BuS X B Bn v l W) {A : Option Addr} {m c : Nat} (hv : v = .slice A m c) {k : Nat} {x : Sq} (hx : l[k]? = some x) : ∃ g, A = some ⟨g, 0, none⟩ ∧ W.cell? ⟨g, k * 3 + 1, none⟩ = some (.int .i64 x.f) ∧ W.cell? ⟨g, k * 3 + 2, none⟩ = some (.int .i64 x.t) := by
  have hk := (List.getElem?_eq_some_iff.1 hx).1
  obtain ⟨g, cap, e, -, -, -, -, -⟩ := own_form h.row (by omega)
  rw [hv] at e
  simp only [Value.slice.injEq] at e
  obtain ⟨rfl, _, rfl⟩ := e
  refine ⟨g, rfl, ?_, ?_⟩
  · exact own_cell h.row (g := g) (by rw [hv]; rfl) (sqC_get l k x hx 1 _ rfl)
  · exact own_cell h.row (g := g) (by rw [hv]; rfl) (sqC_get l k x hx 2 _ rfl)
theorem drop_sq {l : List Sq} {k : Nat} {x : Sq} (h : l[k]? = some x) : l.drop k = x :: l.drop (k + 1) := by
  have hk := (List.getElem?_eq_some_iff.1 h).1
  rw [List.drop_eq_getElem_cons hk, (List.getElem?_eq_some_iff.1 h).2]
attribute [local go_sem] Oper.semAt_some
set_option maxRecDepth 100000 in
set_option maxHeartbeats 8000000 in
theorem busy_seq (n : Nat) (hn1 : 1 ≤ n) (X : List Nat) (B Bn : Nat) (v : Value) (l : List Sq) (w0 : World) (hl : l.length ≤ 1000000) (hS : BuS X B Bn v l w0) :
    SeqA (fun x : Int × Int => #[.int .i64 x.1, .int .i64 x.2]) n 31 #[.pointer (some ⟨Bn, 0, none⟩)] X (busyQ l) w0 := by
  intro lp J Jx W hW hJB hY hJ
  have hS1 : BuS X B Bn v l W := hS.keep ⟨hW.size, fun k cs T fr _ hk => (hW.block k (Array.getElem?_eq_some_iff.1 hk).1).trans hk⟩
  obtain ⟨A, c, hv, hle, hmx⟩ := own_len hS1.row
  obtain ⟨m, hm⟩ : ∃ m, l.length = m := ⟨_, rfl⟩
  rw [hm] at hv hl hle
  have b1 := hS1.box.cell
  rw [hv] at b1
  have HS := Lib.hid hS1
  have HV := Lib.hid hv
  have HY := Lib.hid hY
  have HJ := Lib.hid hJ
  have HB := Lib.hid hJB
  have HM := Lib.hid hm
  clear hW hS hS1 hv hJB hY hJ hm hmx hle
  refine callsIn_of_wp Tryz.func31 rfl trivial ?_ rfl
  simp only [Tryz.ntmps31, List.size_toArray, List.length_cons, List.length_nil, Nat.reduceAdd, Nat.reduceSub, Array.replicate_succ, Array.replicate_zero, List.push_toArray, List.append_toArray, List.nil_append, List.cons_append]
  gi_wp2
  gi_loopw [3] (fun i wr => ∃ (k : Nat) (pre : List (Int × Int)), k ≤ m ∧ i = .int .i64 k ∧ Hid (busyQ l = pre ++ busyQ (l.drop k)) ∧ Hid (J pre wr) ∧ Hid (BuS X B Bn v l wr)) (fun i _ => m - (intOf i).toNat)
  case atStart => exact ⟨0, [], by omega, rfl, Lib.hid rfl, HJ, HS⟩
  case round =>
    obtain ⟨k, pre, hk, rfl, hQ, hJ2, hS2⟩ := hrel
    clear HJ HS b1
    have b1 := hS2.out.box.cell
    rw [HV.out] at b1
    by_cases hlt : k < m
    · obtain ⟨x, hx⟩ : ∃ x, l[k]? = some x := ⟨l[k]'(by rw [HM.out]; exact hlt), List.getElem?_eq_getElem _⟩
      obtain ⟨g, rfl, x1, x2⟩ := hS2.out.get HV.out hx
      have hi1 : (k : Int) < (m : Int) := by omega
      have hi0 : (0 : Int) ≤ (k : Int) := by omega
      have HX := Lib.hid hx
      clear hx
      gi_upto_region 2 with (fail)
      refine (wpIn_wide (n := n)).2 ?_
      go_quiet (fail)
      have HS3 := Lib.hid (hS2.out.later (below_drewN2 wr nq))
      have HJ3 := Lib.hid (HB.out _ _ _ hJ2.out (below_drewN2 wr nq))
      have HK0 := Lib.hid hlt
      have hw1 : wrap64 ((k : Int) + 1) = ((k + 1 : Nat) : Int) := by rw [IntWalk.wrap64_in _ (by omega)]; omega
      generalize wr.drewN nq = W2 at *
      clear hJ2 hS2 b1 x1 x2 hi1 hi0 hlt
      gi_wp2
      gi_loopw [3, 5] (fun s3 s5 wr2 => ∃ (k2 : Nat) (t : Int), k < k2 ∧ k2 ≤ m ∧ s3 = .int .i64 k2 ∧ s5 = .int .i64 t ∧ Hid (runQ x.t (l.drop (k + 1)) = runQ t (l.drop k2)) ∧ wr2 = W2) (fun s3 _ _ => m - (intOf s3).toNat)
      case atStart => exact ⟨k + 1, x.t, by omega, by have := HK0.out; omega, by first | rfl | go_num, rfl, Lib.hid rfl, rfl⟩
      case round =>
        obtain ⟨k2, t, hk1, hk2, rfl, rfl, hR, rfl⟩ := hrel
        by_cases hc : ∃ y, l[k2]? = some y ∧ y.f = t
        · obtain ⟨y, hy, hyt⟩ := hc
          obtain ⟨g', hg', y1, y2⟩ := HS3.out.get HV.out hy
          have b1 := HS3.out.box.cell
          rw [HV.out] at b1
          cases hg'
          have hlt2 : k2 < m := by rw [← HM.out]; exact (List.getElem?_eq_some_iff.1 hy).1
          have hi1 : (k2 : Int) < (m : Int) := by omega
          have hi0 : (0 : Int) ≤ (k2 : Int) := by omega
          have hw2 : wrap64 ((k2 : Int) + 1) = ((k2 + 1 : Nat) : Int) := by rw [IntWalk.wrap64_in _ (by omega)]; omega
          have hR2 : Hid (runQ x.t (l.drop (k + 1)) = runQ y.t (l.drop (k2 + 1))) := Lib.hid (by rw [hR.out, drop_sq hy, runQ, if_pos hyt])
          have ht : (y.f == t) = true := by rw [hyt]; simp
          obtain ⟨yf, hyf⟩ : ∃ a, y.f = a := ⟨_, rfl⟩
          obtain ⟨yt, hyt2⟩ : ∃ a, y.t = a := ⟨_, rfl⟩
          rw [hyf] at y1 ht
          rw [hyt2] at y2 hR2
          clear hyt hy hyf hyt2
          gi_wp2
          go_roundw
          case rel => exact ⟨k2 + 1, yt, by omega, by omega, by go_num, rfl, hR2, trivial⟩
          case measure => simp [intOf]; omega
        · have hEnd : Hid (runQ x.t (l.drop (k + 1)) = (t, l.drop k2)) := Lib.hid (by
            rw [hR.out]
            cases hd : l[k2]? with
            | none => rw [List.drop_of_length_le (List.getElem?_eq_none_iff.1 hd), runQ]
            | some y => rw [drop_sq hd, runQ, if_neg (fun e => hc ⟨y, hd, e⟩)])
          have hQ2 : Hid (busyQ l = pre ++ (x.f, t) :: busyQ (l.drop k2)) := Lib.hid (by rw [hQ.out, drop_sq HX.out, busyQ, hEnd.out])
          have b1 := HS3.out.box.cell
          rw [HV.out] at b1
          obtain ⟨fn, tmps, assign, body, hy, hRd⟩ := HY.out pre (x.f, t) _ _ HJ3.out hQ2.out
          dsimp only at hy
          have HQ2 : Hid (busyQ l = (pre ++ [(x.f, t)]) ++ busyQ (l.drop k2)) := Lib.hid (by rw [hQ2.out]; simp)
          rcases (by omega : k2 = m ∨ k2 < m) with rfl | hlt2
          · clear hR hEnd hQ hc
            gi_wp2
            refine hRd.mono ?_
            rintro e W3 (⟨rfl, hJ4, hk4⟩ | ⟨rfl, hJx4⟩)
            · have HS4 := Lib.hid (HS3.out.keep hk4)
              have HJ4 := Lib.hid hJ4
              clear hJ4 hk4 hRd hy HS3 HJ3
              gi_wp2
              go_roundw
              case rel => exact ⟨k2, _, by omega, rfl, HQ2, HJ4, HS4⟩
              case measure => simp [intOf]; omega
            · gi_wp2
              refine bodyPost_ret (results_none rfl _ _ _) rfl ?_
              exact ⟨⟨_, rfl⟩, .inr ⟨pre, (x.f, t), _, hQ2.out, hJx4⟩⟩
          · obtain ⟨y, hy'⟩ : ∃ y, l[k2]? = some y := ⟨l[k2]'(by rw [HM.out]; exact hlt2), List.getElem?_eq_getElem _⟩
            obtain ⟨g', hg', y1, y2⟩ := HS3.out.get HV.out hy'
            cases hg'
            have hi1 : (k2 : Int) < (m : Int) := by omega
            have hi0 : (0 : Int) ≤ (k2 : Int) := by omega
            have ht : (y.f == t) = false := by
              rw [beq_eq_false_iff_ne]; exact fun e => hc ⟨y, hy', e⟩
            obtain ⟨yf, hyf⟩ : ∃ a, y.f = a := ⟨_, rfl⟩
            rw [hyf] at y1 ht
            clear hR hEnd hQ hc hy' hyf y2
            gi_wp2
            refine hRd.mono ?_
            rintro e W3 (⟨rfl, hJ4, hk4⟩ | ⟨rfl, hJx4⟩)
            · have HS4 := Lib.hid (HS3.out.keep hk4)
              have HJ4 := Lib.hid hJ4
              clear hJ4 hk4 hRd hy HS3 HJ3
              gi_wp2
              go_roundw
              case rel => exact ⟨k2, _, by omega, rfl, HQ2, HJ4, HS4⟩
              case measure => simp [intOf]; omega
            · gi_wp2
              refine bodyPost_ret (results_none rfl _ _ _) rfl ?_
              exact ⟨⟨_, rfl⟩, .inr ⟨pre, (x.f, t), _, hQ2.out, hJx4⟩⟩
    · obtain rfl : k = m := by omega
      gi_wp2
      go_end0
      refine ⟨⟨_, rfl⟩, .inl ?_⟩
      have := hQ.out
      rw [List.drop_of_length_le (by rw [HM.out]; exact Nat.le_refl _), show busyQ [] = [] by rw [busyQ], List.append_nil] at this
      rw [this]
      exact hJ2.out
end Go.Proofs.YtngmaiiibinkaaaGreat
/- Boxes that a walk over a range holds; the chapter's example. -/
namespace Go.Proofs.YtngmaiiibinkaaaGreat
open Go.RowKit Go.Shelf
set_option linter.unusedVariables false
set_option linter.unusedSimpArgs false
structure Bx (w0 : World) (bs : List (Nat × TypeId × Value)) (V : World) : Prop where
  bx : ∀ p ∈ bs, Boxed V p.1 p.2.1 p.2.2
  b : Below w0.heap.size w0 V
  bge : ∀ p ∈ bs, w0.heap.size ≤ p.1
section
variable {w0 V V' : World} {bs bs' : List (Nat × TypeId × Value)}
theorem Bx.later (h : Bx w0 bs V) (hb : Below V.heap.size V V') : Bx w0 bs V' :=
  ⟨fun p hp => (hb.block _ (h.bx p hp).lt).trans (h.bx p hp), h.b.trans (hb.mono h.b.size), h.bge⟩
theorem Bx.own {row : Option Nat} {D : Nat} (h : Bx w0 bs V) (hg : V.grownBy V' row) (hr : ∀ r, row = some r → D ≤ r ∧ ∃ o : Obj, V.heap[r]? = some o ∧ o.isCells = false) (hB : w0.heap.size ≤ D) : Bx w0 bs V' :=
  ⟨fun p hp => (grownBy_keeps_cells hg (fun r e => (hr r e).2) (h.bx p hp) rfl).trans (h.bx p hp), h.b.grown hg h.b.size (fun k e => by have := (hr k e).1; omega), h.bge⟩
/-- A box gets another value. -/
theorem Bx.set (h : Bx w0 bs V) {c : Nat} {t : TypeId} {v : Value} (u : Value) (hm : (c, t, v) ∈ bs) (hs : ∀ p ∈ bs', p = (c, t, u) ∨ (p ∈ bs ∧ p.1 ≠ c)) : Bx w0 bs' (V.setCell ⟨c, 0, none⟩ u) := by
  have hg := h.bge _ hm
  refine ⟨fun p hp => ?_, h.b.setCell hg _, fun p hp => ?_⟩
  · rcases hs p hp with rfl | ⟨h1, h2⟩
    · exact Boxed.set u (h.bx _ hm)
    · exact (Below.heap_setCell _ _ _ _ h2).trans (h.bx p h1)
  · rcases hs p hp with rfl | ⟨h1, _⟩
    · exact hg
    · exact h.bge p h1
/-- A new box. -/
theorem Bx.new (h : Bx w0 bs V) (t : TypeId) (v : Value) : Bx w0 ((V.heap.size, t, v) :: bs) (V.alloc (.cells #[v] t)) := by
  have h1 := h.later ((Below.refl _ V).alloc (Nat.le_refl _) (.cells #[v] t))
  refine ⟨fun p hp => ?_, h1.b, fun p hp => ?_⟩
  · rcases List.mem_cons.1 hp with rfl | hp
    · exact Boxed.new _ _ _
    · exact h1.bx p hp
  · rcases List.mem_cons.1 hp with rfl | hp
    · exact h.b.size
    · exact h.bge p hp
theorem Bx.sub (h : Bx w0 bs V) (hs : ∀ p ∈ bs', p ∈ bs) : Bx w0 bs' V := ⟨fun p hp => h.bx p (hs p hp), h.b, fun p hp => h.bge p (hs p hp)⟩
theorem Bx.nil (w0 : World) : Bx w0 [] w0 := ⟨by simp, Below.refl _ _, by simp⟩
theorem Bx.cell (h : Bx w0 bs V) {c : Nat} {t : TypeId} {v : Value} (hm : (c, t, v) ∈ bs) : V.cell? ⟨c, 0, none⟩ = some v := (h.bx _ hm).cell
theorem Bx.fz (h : Bx w0 bs V) {c : Nat} {t : TypeId} {v : Value} (hm : (c, t, v) ∈ bs) : V.frozen? ⟨c, 0, none⟩ = false := (h.bx _ hm).frozen
end
/-! ### The example -/
def exQ : List Sq := [⟨0, 0, 2⟩, ⟨1, 2, 3⟩, ⟨0, 5, 6⟩]
theorem exQ_busy : busyQ exQ = [(0, 3), (5, 6)] := by
  simp [exQ, busyQ, runQ]
theorem exQ_row (W : World) : SqR (W.alloc (.cells #[.int .i64 0, .int .i64 0, .int .i64 2, .int .i64 1, .int .i64 2, .int .i64 3, .int .i64 0, .int .i64 5, .int .i64 6] TSp)) (some ⟨W.heap.size, 0, none⟩) 3 exQ := by
  refine ⟨by decide, by omega, fun x hx => ?_, fun i x hx => ⟨_, 0, rfl, fun j v hv => ?_⟩⟩
  · simp [exQ] at hx
    rcases hx with rfl | rfl | rfl <;> (unfold in64; simp)
  · have hi := (List.getElem?_eq_some_iff.1 hx).1
    have hi : i < 3 := hi
    have hj := (List.getElem?_eq_some_iff.1 hv).1
    have hj : j < 3 := hj
    rw [cell_of_row _ _ _ _ _ _ (heap_alloc_new W _)]
    rcases (by omega : i = 0 ∨ i = 1 ∨ i = 2) with rfl | rfl | rfl <;> simp [exQ] at hx <;> subst hx <;>
      rcases (by omega : j = 0 ∨ j = 1 ∨ j = 2) with rfl | rfl | rfl <;> simpa [sqL] using hv
def OkW (w : World) (e : Ending) (w' : World) : Prop := e = .returned (.bool true) ∧ Below w.heap.size w w'
abbrev pqV (x : Int × Int) : Array Value := #[.int .i64 x.1, .int .i64 x.2]
/-- The iterator's word, in the world at hand. -/
theorem BusP.seq {l : List Sq} {w w' : World} {B : Nat} {v : Value} (hbx : Boxed w' B TSl v) (hge : w.heap.size ≤ B) (ho : w'.ownsRow w.heap.size TSp 3 v l.length (sqC l)) (n : Nat) (hn : 1 ≤ n) (X : List Nat) (hX : ∀ k ∈ X, k < w.heap.size ∨ w'.heap.size ≤ k) {W : World} (hb : Below w'.heap.size w' W) (hl : l.length ≤ 1000000) :
    SeqA pqV n 31 #[.pointer (some ⟨B, 0, none⟩)] X (busyQ l) W := by
  have hlt := hbx.lt
  refine busy_seq n hn X w.heap.size B v l W hl ⟨(hb.block B hlt).trans hbx, (Kept.of [] hb).row ho (by simp), fun hm => ?_, fun g hg hm => ?_⟩
  · have := hX B hm; omega
  · have := ho.lt g hg
    have := hX g hm
    omega
attribute [local go_sem] Oper.semAt_some
set_option maxRecDepth 100000 in
set_option maxHeartbeats 4000000 in
theorem awake_any (w : World) : Calls Tryz.prog 7 #[] w (OkW w) := by
  have ba : Below w.heap.size w (w.alloc (.cells #[.int .i64 0, .int .i64 0, .int .i64 2, .int .i64 1, .int .i64 2, .int .i64 3, .int .i64 0, .int .i64 5, .int .i64 6] TSp)) := (Below.refl _ _).alloc (Nat.le_refl _) _
  have KB := Lib.hid (busy_any _ (exQ_row w) (by decide))
  have HBA := Lib.hid ba
  obtain ⟨W1, hW1⟩ : ∃ W1, w.alloc (.cells #[.int .i64 0, .int .i64 0, .int .i64 2, .int .i64 1, .int .i64 2, .int .i64 3, .int .i64 0, .int .i64 5, .int .i64 6] TSp) = W1 := ⟨_, rfl⟩
  rw [hW1] at KB HBA
  have HW1 := Lib.hid hW1
  have hfn := run_eql_seq2
  clear ba hW1
  refine (callsIn_wide (n := 9)).1 ?_
  refine callsIn_of_wp_marks Tryz.func7 rfl trivial ?_ rfl
  simp only [Tryz.ntmps7, List.size_toArray, List.length_cons, List.length_nil, Nat.reduceAdd, Nat.reduceSub, Array.replicate_succ, Array.replicate_zero, List.push_toArray, List.append_toArray, List.nil_append, List.cons_append]
  gi_wp2_with (refine ⟨trivial, ?_⟩; gi_at_call 17; rw [HW1.out]; refine (callsIn_wide.2 KB.out).mono ?_; rintro e w2 ⟨B, v, rfl, hbx, hge, ho, hb⟩; have HBX := Lib.hid hbx; have HGE := Lib.hid hge; have HO := Lib.hid ho; have HB := Lib.hid hb; clear hbx hge ho hb)
  clear hfn KB HW1
  have X0 := Lib.hid (((Bx.nil w).later HBA.out).later HB.out)
  have X1 := Lib.hid (X0.out.new T64 (.int .i64 0))
  have HB3 := Lib.hid (show Below w2.heap.size w2 (w2.alloc (.cells #[.int .i64 0] T64)) from (Below.refl _ _).alloc (Nat.le_refl _) _)
  obtain ⟨bq, hbq⟩ : ∃ bq, w2.heap.size = bq := ⟨_, rfl⟩
  obtain ⟨W3, hW3⟩ : ∃ W3, w2.alloc (.cells #[.int .i64 0] T64) = W3 := ⟨_, rfl⟩
  have SQ := BusP.seq HBX.out HGE.out HO.out (9 - 1) (by omega) [bq] (by simp; omega) HB3.out (by decide)
  rw [hW3, exQ_busy] at SQ
  rw [hW3, hbq] at X1
  rw [hW3] at HB3
  have SQ := Lib.hid SQ
  simp only [hW3, hbq]
  clear hW3 hbq X0 HBX HGE HO
  have HSZ := Lib.hid (X1.out.b.size)
  refine wpIn_named fun fr hfr => ?_
  refine rangeA (vals := pqV) (gf := 31) (lb := #[.pointer (some ⟨B, 0, none⟩)]) (by rw [hfr]; rfl) (enters_of Tryz.func31 (by kernel_rfl) rfl)
    SQ.out (Below.refl _ _) (fun x => rfl)
    (fun pre V => Bx w [(bq, T64, .int .i64 (pre.foldl (fun n x => 100 * n + 10 * x.1 + x.2) 0))] V) (fun _ _ _ => False)
    (fun pre X Y row h hg hr => h.own hg hr HSZ.out) (fun c s X Y row h _ _ => h) X1.out
    (fun x => { tmps := (((fr.tmps.setIfInBounds 13 (.int .i64 x.1)).setIfInBounds 14 (.int .i64 x.2)).setIfInBounds 3 (.int .i64 x.1)).setIfInBounds 4 (.int .i64 x.2), defers := [] })
    ?assign ?body ?done ?stop
  case assign =>
    intro l2 x V K hK
    subst hfr
    gi_wp2
    exact hK
  case body =>
    intro l2 pre x r V hS hL
    subst hfr
    have cb := hS.cell (List.mem_singleton.2 rfl)
    have fb := hS.fz (List.mem_singleton.2 rfl)
    have SE := Lib.hid (fun u => hS.set (bs' := [(bq, T64, u)]) u (List.mem_singleton.2 rfl) (by intro p hp; exact .inl (List.mem_singleton.1 hp)))
    clear hS
    rcases pre with _ | ⟨p0, _ | ⟨p1, q⟩⟩
    · simp at hL
      obtain ⟨rfl, -⟩ := hL
      dsimp only [List.setIfInBounds_toArray, List.set_cons_succ, List.set_cons_zero]
      simp only [List.foldl_nil] at cb
      gi_wp2
      refine ⟨(KeepsOthers.setCell _ _ _).from _, KeepC.kept ((Kept.refl _ _).set _ _ _ (by simp)), ?_⟩
      exact SE.out _
    · simp at hL
      obtain ⟨rfl, rfl, -⟩ := hL
      dsimp only [List.setIfInBounds_toArray, List.set_cons_succ, List.set_cons_zero]
      simp [List.foldl] at cb
      gi_wp2
      refine ⟨(KeepsOthers.setCell _ _ _).from _, KeepC.kept ((Kept.refl _ _).set _ _ _ (by simp)), ?_⟩
      exact SE.out _
    · simp at hL
  case done =>
    rintro D V hD hS hK
    subst hfr
    have cb := hS.cell (List.mem_singleton.2 rfl)
    simp [List.foldl] at cb
    have HSb := Lib.hid hS.b
    clear hS
    gi_wp2
    refine ⟨by simp, .inl ⟨_, _, rfl, run_takeDeferred hK, ?_⟩⟩
    exact ⟨.bool true, by simp [results, Tryz.f7, go_sem], rfl, HSb.out.trans (belowK_b (w := w) (Nat.le_refl _) V D _ _ (by have := HSZ.out; omega) hK rfl rfl)⟩
  case stop =>
    rintro D c pre x r V hD hL h hK
    exact h.elim
end Go.Proofs.YtngmaiiibinkaaaGreat
/- The library's contract, laid at this seat's translation. -/
namespace Go.Proofs
open Go.Shelf
def Tryz.sortL_ren : Go.Shelf.Ren := ⟨fun | 6 => 67 | 15 => 85 | 14 => 84 | 28 => 107 | 29 => 108 | 20 => 99 | 21 => 100 | 22 => 101 | 23 => 102 | 24 => 103 | 25 => 104 | 26 => 105 | 27 => 106 | 46 => 114 | 47 => 115 | 48 => 116 | 49 => 117 | 50 => 118 | 57 => 121 | n => n, fun | 22 => 36 | 24 => 3 | 25 => 50 | 3 => 3 | 39 => 87 | 0 => 0 | 53 => 109 | 55 => 112 | 4 => 4 | 46 => 157 | 45 => 156 | 50 => 130 | 5 => 5 | 9 => 9 | 66 => 168 | 70 => 172 | 76 => 178 | 77 => 179 | n => n, fun | n => n⟩
theorem Tryz.sortL : Go.Proofs.SlLaysF.n6 Tryz.prog Tryz.sortL_ren := {
  mixed := by kernel_rfl
  f6 := ⟨Tryz.f67.name, by decide, Tryz.func67.trans (congrArg some (by kernel_rfl))⟩
  f14 := ⟨Tryz.f84.name, by decide, Tryz.func84.trans (congrArg some (by kernel_rfl))⟩
  f15 := Tryz.func85.trans (congrArg some (by kernel_rfl))
  f20 := ⟨Tryz.f99.name, by decide, Tryz.func99.trans (congrArg some (by kernel_rfl))⟩
  f21 := ⟨Tryz.f100.name, by decide, Tryz.func100.trans (congrArg some (by kernel_rfl))⟩
  f22 := ⟨Tryz.f101.name, by decide, Tryz.func101.trans (congrArg some (by kernel_rfl))⟩
  f23 := ⟨Tryz.f102.name, by decide, Tryz.func102.trans (congrArg some (by kernel_rfl))⟩
  f24 := ⟨Tryz.f103.name, by decide, Tryz.func103.trans (congrArg some (by kernel_rfl))⟩
  f25 := ⟨Tryz.f104.name, by decide, Tryz.func104.trans (congrArg some (by kernel_rfl))⟩
  f26 := ⟨Tryz.f105.name, by decide, Tryz.func105.trans (congrArg some (by kernel_rfl))⟩
  f27 := ⟨Tryz.f106.name, by decide, Tryz.func106.trans (congrArg some (by kernel_rfl))⟩
  f28 := Tryz.func107.trans (congrArg some (by kernel_rfl))
  f29 := Tryz.func108.trans (congrArg some (by kernel_rfl))
  f46 := ⟨Tryz.f114.name, by decide, Tryz.func114.trans (congrArg some (by kernel_rfl))⟩
  f47 := Tryz.func115.trans (congrArg some (by kernel_rfl))
  f48 := Tryz.func116.trans (congrArg some (by kernel_rfl))
  f49 := ⟨Tryz.f117.name, by decide, Tryz.func117.trans (congrArg some (by kernel_rfl))⟩
  f50 := ⟨Tryz.f118.name, by decide, Tryz.func118.trans (congrArg some (by kernel_rfl))⟩
  f57 := ⟨Tryz.f121.name, by decide, Tryz.func121.trans (congrArg some (by kernel_rfl))⟩
  t0 := Tryz.underlying0
  a0 := Tryz.isAgg0
  z0 := Tryz.sizeOf0
  v0 := Tryz.zeroValue0
  t3 := Tryz.underlying3
  a3 := Tryz.isAgg3
  z3 := Tryz.sizeOf3
  v3 := Tryz.zeroValue3
  t4 := Tryz.underlying4
  a4 := Tryz.isAgg4
  z4 := Tryz.sizeOf4
  v4 := Tryz.zeroValue4
  t5 := Tryz.underlying5
  a5 := Tryz.isAgg5
  z5 := Tryz.sizeOf5
  v5 := Tryz.zeroValue5
  t9 := Tryz.underlying9
  a9 := Tryz.isAgg9
  z9 := Tryz.sizeOf9
  v9 := Tryz.zeroValue9
  t22 := Tryz.underlying36
  a22 := Tryz.isAgg36
  z22 := Tryz.sizeOf36
  v22 := Tryz.zeroValue36
  a24 := Tryz.isAgg3
  z24 := Tryz.sizeOf3
  t25 := Tryz.underlying50
  a25 := Tryz.isAgg50
  z25 := Tryz.sizeOf50
  v25 := Tryz.zeroValue50
  t39 := Tryz.underlying87
  a39 := Tryz.isAgg87
  z39 := Tryz.sizeOf87
  v39 := Tryz.zeroValue87
  t45 := Tryz.underlying156
  a45 := Tryz.isAgg156
  z45 := Tryz.sizeOf156
  v45 := Tryz.zeroValue156
  t46 := Tryz.underlying157
  a46 := Tryz.isAgg157
  z46 := Tryz.sizeOf157
  v46 := Tryz.zeroValue157
  t50 := Tryz.underlying130
  a50 := Tryz.isAgg130
  z50 := Tryz.sizeOf130
  v50 := Tryz.zeroValue130
  t53 := Tryz.underlying109
  a53 := Tryz.isAgg109
  z53 := Tryz.sizeOf109
  v53 := Tryz.zeroValue109
  t55 := Tryz.underlying112
  a55 := Tryz.isAgg112
  z55 := Tryz.sizeOf112
  v55 := Tryz.zeroValue112
  t66 := Tryz.underlying168
  a66 := Tryz.isAgg168
  z66 := Tryz.sizeOf168
  v66 := Tryz.zeroValue168
  t70 := Tryz.underlying172
  a70 := Tryz.isAgg172
  z70 := Tryz.sizeOf172
  v70 := Tryz.zeroValue172
  t76 := Tryz.underlying178
  a76 := Tryz.isAgg178
  z76 := Tryz.sizeOf178
  v76 := Tryz.zeroValue178
  t77 := Tryz.underlying179
  a77 := Tryz.isAgg179
  z77 := Tryz.sizeOf179
  v77 := Tryz.zeroValue179 }
end Go.Proofs
/- The order of jobs: what is compared. -/
namespace Go.Proofs.YtngmaiiibinkaaaGreat
open Go.RowKit Go.Shelf Go.Lib Go.Sort
set_option linter.unusedVariables false
set_option linter.unusedSimpArgs false
attribute [local go_sem ↓] Go.wp_at_zero Go.wp_at_succ
theorem cmp64_any (x y : Int) (w : World) : Calls Tryz.prog 70 #[.int .i64 x, .int .i64 y] w fun e w' => e = .returned (.int .i64 (Lib.compareInt x y)) ∧ w' = w := by
  unfold Lib.compareInt
  by_cases h1 : x < y
  · have t1 : decide (x < y) = true := decide_eq_true h1
    rw [if_pos h1]
    clear h1
    go_enter Tryz.func70, Tryz.ntmps70
    go_wp2
    go_ret
    exact ⟨rfl, rfl⟩
  · have t1 : decide (x < y) = false := decide_eq_false h1
    rw [if_neg h1]
    by_cases h2 : x > y
    · have t2 : decide (x > y) = true := decide_eq_true h2
      have t3 : decide (y < x) = true := decide_eq_true h2
      rw [if_pos h2]
      clear h1 h2
      go_enter Tryz.func70, Tryz.ntmps70
      go_wp2
      go_ret
      exact ⟨rfl, rfl⟩
    · have t2 : decide (x > y) = false := decide_eq_false h2
      have t3 : decide (y < x) = false := decide_eq_false h2
      rw [if_neg h2]
      clear h1 h2
      go_enter Tryz.func70, Tryz.ntmps70
      go_wp2
      go_ret
      exact ⟨rfl, rfl⟩
theorem cmpI_any (x y : Int) (w : World) : Calls Tryz.prog 71 #[.int .i64 x, .int .i64 y] w fun e w' => e = .returned (.int .i64 (Lib.compareInt x y)) ∧ w' = w := by
  unfold Lib.compareInt
  by_cases h1 : x < y
  · have t1 : decide (x < y) = true := decide_eq_true h1
    rw [if_pos h1]
    clear h1
    go_enter Tryz.func71, Tryz.ntmps71
    go_wp2
    go_ret
    exact ⟨rfl, rfl⟩
  · have t1 : decide (x < y) = false := decide_eq_false h1
    rw [if_neg h1]
    by_cases h2 : x > y
    · have t2 : decide (x > y) = true := decide_eq_true h2
      have t3 : decide (y < x) = true := decide_eq_true h2
      rw [if_pos h2]
      clear h1 h2
      go_enter Tryz.func71, Tryz.ntmps71
      go_wp2
      go_ret
      exact ⟨rfl, rfl⟩
    · have t2 : decide (x > y) = false := decide_eq_false h2
      have t3 : decide (y < x) = false := decide_eq_false h2
      rw [if_neg h2]
      clear h1 h2
      go_enter Tryz.func71, Tryz.ntmps71
      go_wp2
      go_ret
      exact ⟨rfl, rfl⟩
set_option maxRecDepth 100000 in
set_option maxHeartbeats 2000000 in
theorem or_any (g : Nat) (a b : Int) (w : World) (h0 : w.cell? ⟨g, 0, none⟩ = some (.int .i64 a)) (h1 : w.cell? ⟨g, 1, none⟩ = some (.int .i64 b)) :
    Calls Tryz.prog 69 #[.slice (some ⟨g, 0, none⟩) 2 2] w fun e w' => e = .returned (.int .i64 (if a = 0 then b else a)) ∧ w' = w := by
  by_cases ha : a = 0
  · subst ha
    rw [if_pos rfl]
    by_cases hb : b = 0
    · subst hb
      go_enter Tryz.func69, Tryz.ntmps69
      go_wp2
      go_loopw [8] (fun i wr => ∃ k : Nat, k ≤ 2 ∧ i = .int .i64 (k : Int) ∧ wr = w) (fun i _ => 2 - (intOf i).toNat)
      case atStart => exact ⟨0, by omega, rfl, rfl⟩
      case round =>
        obtain ⟨k, hk, rfl, rfl⟩ := hrel
        rcases (show k = 0 ∨ k = 1 ∨ k = 2 by omega) with rfl | rfl | rfl
        · go_wp2
          refine ⟨⟨1, by omega, by go_num, by first | rfl | trivial⟩, by first | (simp [intOf]; done) | omega⟩
        · go_wp2
          refine ⟨⟨2, by omega, by go_num, by first | rfl | trivial⟩, by first | (simp [intOf]; done) | omega⟩
        · go_wp2
          go_ret
          exact ⟨rfl, rfl⟩
    · have tb : (b == 0) = false := by simpa using hb
      have tb2 : (b != 0) = true := by simpa using hb
      clear hb
      go_enter Tryz.func69, Tryz.ntmps69
      go_wp2
      go_loopw [8] (fun i wr => ∃ k : Nat, k ≤ 1 ∧ i = .int .i64 (k : Int) ∧ wr = w) (fun i _ => 2 - (intOf i).toNat)
      case atStart => exact ⟨0, by omega, rfl, rfl⟩
      case round =>
        obtain ⟨k, hk, rfl, rfl⟩ := hrel
        rcases (show k = 0 ∨ k = 1 by omega) with rfl | rfl
        · go_wp2
          refine ⟨⟨1, by omega, by go_num, by first | rfl | trivial⟩, by first | (simp [intOf]; done) | omega⟩
        · go_wp2
          go_ret
          exact ⟨rfl, rfl⟩
  · rw [if_neg ha]
    have tb : (a == 0) = false := by simpa using ha
    have tb2 : (a != 0) = true := by simpa using ha
    clear ha
    go_enter Tryz.func69, Tryz.ntmps69
    go_wp2
    go_loopw [8] (fun i wr => i = .int .i64 0 ∧ wr = w) (fun i _ => 0)
    case atStart => exact ⟨rfl, rfl⟩
    case round =>
      obtain ⟨rfl, rfl⟩ := hrel
      go_wp2
      go_ret
      exact ⟨rfl, rfl⟩
/-- What is compared. -/
def cf2 (rx ry x y : Int) : Int := if Lib.compareInt rx ry = 0 then Lib.compareInt x y else Lib.compareInt rx ry
set_option maxRecDepth 100000 in
set_option maxHeartbeats 8000000 in
theorem ord1_any (bx b o n cap x y : Nat) (rx ry : Int) (W : World) (hb : W.cell? ⟨bx, 0, none⟩ = some (.slice (some ⟨b, o, none⟩) n cap)) (hx : W.cell? ⟨b, o + x * 5 + 2, none⟩ = some (.int .i64 rx)) (hy : W.cell? ⟨b, o + y * 5 + 2, none⟩ = some (.int .i64 ry)) (hxn : x < n) (hyn : y < n) :
    Calls Tryz.prog 68 #[.int .i64 (x : Int), .int .i64 (y : Int), .pointer (some ⟨bx, 0, none⟩)] W fun e w' => e = .returned (.int .i64 (cf2 rx ry x y)) ∧ ∃ q os', w' = grow (W.drewN q) os' := by
  have ix0 : (0 : Int) ≤ (x : Int) := by omega
  have ix1 : (x : Int) < (n : Int) := by omega
  have iy0 : (0 : Int) ≤ (y : Int) := by omega
  have iy1 : (y : Int) < (n : Int) := by omega
  have K1 := Lib.hid (fun V => cmp64_any rx ry V)
  have K2 := Lib.hid (fun V => cmpI_any (x : Int) (y : Int) V)
  obtain ⟨r, hr⟩ : ∃ r, cf2 rx ry x y = r := ⟨_, rfl⟩
  rw [hr]
  unfold cf2 at hr
  generalize Lib.compareInt rx ry = c1 at *
  generalize Lib.compareInt (x : Int) (y : Int) = c2 at *
  have HR := Lib.hid hr
  have T0 := Lib.hid (show W.drew.cell? ⟨bx, 0, none⟩ = some (.slice (some ⟨b, o, none⟩) n cap) ∧ W.drew.cell? ⟨b, o + x * 5 + 2, none⟩ = some (.int .i64 rx) ∧ W.drew.cell? ⟨b, o + y * 5 + 2, none⟩ = some (.int .i64 ry) from ⟨hb, hx, hy⟩)
  have T1 : Hid ((W.alloc (.cells #[.int .i64 c1, .int .i64 c2] 3)).drew.cell? ⟨bx, 0, none⟩ = some (.slice (some ⟨b, o, none⟩) n cap) ∧ (W.alloc (.cells #[.int .i64 c1, .int .i64 c2] 3)).drew.cell? ⟨b, o + x * 5 + 2, none⟩ = some (.int .i64 rx) ∧ (W.alloc (.cells #[.int .i64 c1, .int .i64 c2] 3)).drew.cell? ⟨b, o + y * 5 + 2, none⟩ = some (.int .i64 ry)) := Lib.hid (by
    have l1 := World.block_lt_of_cell? W _ hb
    have l2 := World.block_lt_of_cell? W _ hx
    have l3 := World.block_lt_of_cell? W _ hy
    exact ⟨(World.cell?_alloc_lt W _ _ l1).trans hb, (World.cell?_alloc_lt W _ _ l2).trans hx, (World.cell?_alloc_lt W _ _ l3).trans hy⟩)
  have KO := (or_any W.heap.size c1 c2 (W.alloc (.cells #[.int .i64 c1, .int .i64 c2] 3)).drew (by show (W.alloc (.cells #[.int .i64 c1, .int .i64 c2] 3)).cell? _ = _; rw [cell_of_row _ _ 0 _ _ _ (heap_alloc_new _ _)]; rfl) (by show (W.alloc (.cells #[.int .i64 c1, .int .i64 c2] 3)).cell? _ = _; rw [cell_of_row _ _ 1 _ _ _ (heap_alloc_new _ _)]; rfl))
  rw [hr] at KO
  have KO := Lib.hid KO
  clear hr hb hx hy
  go_enter Tryz.func68, Tryz.ntmps68
  go_upto_region 1 with (fail)
  go_region_held_law (fun V => V.cell? ⟨bx, 0, none⟩ = some (.slice (some ⟨b, o, none⟩) n cap) ∧ V.cell? ⟨b, o + x * 5 + 2, none⟩ = some (.int .i64 rx) ∧ V.cell? ⟨b, o + y * 5 + 2, none⟩ = some (.int .i64 ry))
    (first | (with_reducible assumption) | (with_reducible exact T0.out) | (with_reducible exact T1.out) | fail)
    (first
    | (go_at_call 70; (with_reducible refine (K1.out _).mono ?_); rintro e w1 ⟨rfl, rfl⟩)
    | (go_at_call 71; (with_reducible refine (K2.out _).mono ?_); rintro e w1 ⟨rfl, rfl⟩)
    | (go_at_call 69; (with_reducible refine KO.out.mono ?_); rintro e w1 ⟨rfl, rfl⟩)
    | fail)
  all_goals (
    go_wp2
    go_ret
    exact ⟨rfl, 1, #[.cells #[.int .i64 c1, .int .i64 c2] 3], by rw [alloc_eq_grow]; rfl⟩)
end Go.Proofs.YtngmaiiibinkaaaGreat
/- The order of jobs. -/
namespace Go.Proofs.YtngmaiiibinkaaaGreat
open Go.RowKit Go.Shelf Go.Lib Go.Sort
set_option linter.unusedVariables false
set_option linter.unusedSimpArgs false
attribute [local go_sem ↓] Go.wp_at_zero Go.wp_at_succ
theorem make_ints (n : Nat) (hn : n ≤ 1000) (W : World) : ∃ c : Array Value, c.size = n ∧ ∀ W : World, (Instr.makeSlice 36 (.int .i64 (n : Int)) (.int .i64 (n : Int))).run Tryz.prog W = .ok (.slice (some ⟨W.heap.size, 0, none⟩) n n) (W.alloc (.cells c 3)) := by
  obtain ⟨i0, hi, hz0, hz1, hz2⟩ := info_parts infoI
  refine ⟨madeCells (Value.cells (.int .i64 0)) (n * i0.size), by rw [size_madeCells, hz1, Nat.mul_one], fun W => ?_⟩
  have h := run_make (P := Tryz.prog) W 36 3 i0 _ Tryz.underlying36 hi hz0 .i64 .i64 n n (by omega) (Int.le_refl _) (by rw [hz2]; omega) (by omega)
  simpa only [Int.toNat_natCast] using h
/-- What is being made. -/
def IRow (w : World) (g n k : Nat) : Prop := ∃ cur : Array Value, w.heap[g]? = some (.cells cur 3 (0, 0)) ∧ cur.size = n ∧ ∀ j, j < k → cur[j]? = some (.int .i64 (j : Int))
theorem IRow.cell {w : World} {g n k : Nat} (h : IRow w g n k) {i : Nat} (hi : i < n) : (∃ v, w.cell? ⟨g, i, none⟩ = some v) ∧ w.frozen? ⟨g, i, none⟩ = false := by
  obtain ⟨cur, h1, h2, h3⟩ := h
  exact ⟨⟨cur[i], by rw [cell_of_row w g i _ _ _ h1]; exact Array.getElem?_eq_getElem (by omega)⟩, frozen_of_row w g i _ _ h1⟩
theorem IRow.step {w : World} {g n k : Nat} (h : IRow w g n k) (hk : k < n) : IRow (w.setCell ⟨g, k, none⟩ (.int .i64 (k : Int))) g n (k + 1) := by
  obtain ⟨cur, h1, h2, h3⟩ := h
  refine ⟨cur.setIfInBounds k (.int .i64 (k : Int)), heap_setCell_same _ _ _ _ _ _ h1, by simp [h2], fun j hj => ?_⟩
  by_cases e : k = j
  · subst e; simp [h2, hk]
  · rw [Array.getElem?_setIfInBounds_ne e]; exact h3 j (by omega)
abbrev encN (m : Nat) : Fin (m + 1) → Value := fun x => .int .i64 (x.val : Int)
def ids (m : Nat) : Array (Fin (m + 1)) := Array.ofFn id
theorem ids_size (m : Nat) : (ids m).size = m + 1 := by simp [ids]
theorem ids_get {m k : Nat} (h : k < m + 1) : (ids m)[k]!.val = k := by
  rw [getElem!_pos (ids m) k (by rw [ids_size]; exact h)]
  simp [ids]
theorem ids_toList (m : Nat) : (ids m).toList.map Fin.val = List.range (m + 1) := by
  apply List.ext_getElem
  · simp [ids]
  · intro i h1 h2
    have hi : i < (ids m).size := by rw [ids_size]; simpa using h2
    have := ids_get (m := m) (k := i) (by simpa using h2)
    rw [getElem!_pos (ids m) i hi] at this
    rw [List.getElem_map, List.getElem_range]
    exact this
theorem IRow.holds {w : World} {g m : Nat} (h : IRow w g (m + 1) (m + 1)) : Holds (encN m) w g 0 (ids m) := by
  intro j hj
  rw [ids_size] at hj
  obtain ⟨cur, h1, h2, h3⟩ := h
  rw [Nat.zero_add, cell_of_row w g j _ _ _ h1, h3 j hj, encN, ids_get hj]
  exact ⟨rfl, frozen_of_row w g j _ _ h1⟩
theorem below_putRow {α : Type} [Inhabited α] {B : Nat} {w0 w : World} (h : RowKit.Below B w0 w) (enc : α → Value) (g off : Nat) (d : Array α) (hg : B ≤ g) : RowKit.Below B w0 (putRow enc w g off d) :=
  h.trans ⟨rfl, rfl, rfl, by simp, fun k hk => by
    unfold putRow mapBlock
    simp only [Array.getElem?_modify]
    rw [if_neg (by omega)]⟩
theorem below_grow {B : Nat} {w0 w : World} (h : RowKit.Below B w0 w) (os : Array Obj) (hB : B ≤ w.heap.size) : RowKit.Below B w0 (grow w os) :=
  h.trans ⟨rfl, rfl, rfl, by simp, fun k hk => heap_grow_old w os (by omega)⟩
theorem cell_sortWorld {α : Type} [Inhabited α] (enc : α → Value) (w : World) (g off m : Nat) (d : Array α) (os : Array Obj) (b i : Nat) (hb : b ≠ g) (hl : b < w.heap.size) : (sortWorld enc w g off m d os).cell? ⟨b, i, none⟩ = w.cell? ⟨b, i, none⟩ := by
  unfold sortWorld
  rw [cell?_grow _ _ _ (by simp; exact hl), cell?_putRow_other _ _ _ _ _ _ (Or.inl hb)]
  rfl
section
variable {m : Nat} (ks : List Int)
def cfK (x y : Fin (m + 1)) : Int := cf2 (kO ks x.val) (kO ks y.val) x.val y.val
theorem ltOf_cfK (x y : Fin (m + 1)) : ltOf (cfK ks) x y = decide (Ahead ks x.val y.val) := by
  unfold ltOf
  rw [Bool.eq_iff_iff, decide_eq_true_eq, decide_eq_true_eq]
  unfold cfK cf2 Ahead Lib.compareInt
  generalize kO ks x.val = a
  generalize kO ks y.val = b
  by_cases h1 : a < b
  · simp [h1]
  · by_cases h2 : a > b
    · have h3 : ¬ a = b := by omega
      simp [h1, h2, h3]
    · have h3 : a = b := by omega
      subst h3
      by_cases h4 : x.val < y.val
      · simp [h4]
      · by_cases h5 : y.val < x.val
        · simp [h4, h5]
        · simp [h4, h5]
theorem swoK : SWO (ltOf (cfK (m := m) ks)) where
  irrefl x := by
    rw [ltOf_cfK, decide_eq_false_iff_not]
    unfold Ahead
    omega
  trans x y z h1 h2 := by
    rw [ltOf_cfK, decide_eq_true_eq] at h1 h2 ⊢
    unfold Ahead at h1 h2 ⊢
    omega
  ntrans x y z h1 h2 := by
    rw [ltOf_cfK, decide_eq_false_iff_not] at h1 h2 ⊢
    unfold Ahead at h1 h2 ⊢
    omega
end
theorem ord_of {m : Nat} {ks : List Int} (hl : ks.length = m + 1) {d : Array (Fin (m + 1))} (h1 : PermIn 0 (ids m).size (ids m) d) (h2 : SortedIn (ltOf (cfK ks)) 0 (ids m).size d) : IsOrd ks (d.toList.map Fin.val) := by
  rw [ids_size] at h1 h2
  have hs : d.size = m + 1 := by rw [h1.1, ids_size]
  have hp : (d.toList.map Fin.val).Perm (List.range ks.length) := by
    have := h1.2.2
    have e1 : d.extract 0 (m + 1) = d := Array.extract_eq_self_of_le (by omega)
    have e2 : (ids m).extract 0 (m + 1) = ids m := Array.extract_eq_self_of_le (by rw [ids_size]; omega)
    rw [e1, e2] at this
    have h3 := this.map Fin.val
    rw [ids_toList] at h3
    rw [hl]
    exact h3
  refine ⟨hp, List.pairwise_iff_getElem.2 fun j k hj hk hjk => ?_⟩
  have hk2 : k < m + 1 := by rw [List.length_map, Array.length_toList, hs] at hk; exact hk
  have hn := h2 j k (Nat.zero_le _) hjk hk2
  rw [getElem!_pos d k (by omega), getElem!_pos d j (by omega), ltOf_cfK] at hn
  have hnd : (d.toList.map Fin.val).Nodup := hp.nodup_iff.2 List.nodup_range
  have hne := List.pairwise_iff_getElem.1 hnd j k hj hk hjk
  simp only [List.getElem_map, Array.getElem_toList] at hne ⊢
  simp only [decide_eq_false_iff_not] at hn
  unfold Ahead at hn ⊢
  omega
def nL (o : List Nat) : List Int := o.map (fun i : Nat => (i : Int))
/-- What Order tells. -/
def OrdPost (ks : List Int) (w : World) (e : Ending) (w' : World) : Prop := ∃ v o, e = .returned v ∧ IsOrd ks o ∧ w'.ownsRow w.heap.size 3 1 v ks.length (numL (nL o)) ∧ Below w.heap.size w w' ∧ ∃ g, v = .slice (some ⟨g, 0, none⟩) ks.length ks.length
/-- What Order's closure reads. -/
structure Asks (W : World) (bx g : Nat) (js : List Fv) : Prop where
  ex : ∃ b o cap, W.cell? ⟨bx, 0, none⟩ = some (.slice (some ⟨b, o, none⟩) js.length cap) ∧ b ≠ g ∧ b < W.heap.size ∧ ∀ (k : Nat) (x : Fv), js[k]? = some x → W.cell? ⟨b, o + k * 5 + 2, none⟩ = some (.int .i64 x.r)
  ne : bx ≠ g
  lt : bx < W.heap.size
abbrev rls (js : List Fv) : List Int := js.map (·.r)
theorem Asks.reads {W : World} {bx g m : Nat} {js : List Fv} (h : Asks W bx g js) (hl : js.length = m + 1) (size : Nat) :
    CmpLays1 Tryz.prog 68 #[.pointer (some ⟨bx, 0, none⟩)] (encN m) (cfK (rls js)) g 0 size W := by
  intro q os dk hdk x y
  obtain ⟨b, o, cap, hc, hne, hlt, ht⟩ := h.ex
  have hx : x.val < js.length := by rw [hl]; exact x.isLt
  have hy : y.val < js.length := by rw [hl]; exact y.isLt
  have ex : js[x.val]? = some js[x.val] := List.getElem?_eq_getElem hx
  have ey : js[y.val]? = some js[y.val] := List.getElem?_eq_getElem hy
  have px : kO (rls js) x.val = js[x.val].r := by simp [kO, rls, ex]
  have py : kO (rls js) y.val = js[y.val].r := by simp [kO, rls, ey]
  show Calls _ _ _ _ fun e w' => e = .returned (.int .i64 (cf2 (kO (rls js) x.val) (kO (rls js) y.val) x.val y.val)) ∧ _
  rw [px, py]
  have hcell : ∀ b' i, b' ≠ g → b' < W.heap.size → (sortWorld (encN m) W g 0 q dk os).cell? ⟨b', i, none⟩ = W.cell? ⟨b', i, none⟩ := fun b' i h1 h2 => cell_sortWorld _ _ _ _ _ _ _ _ _ h1 h2
  exact ord1_any bx b o js.length cap x.val y.val _ _ _ ((hcell _ _ h.ne h.lt).trans hc) ((hcell _ _ hne hlt).trans (ht _ _ ex)) ((hcell _ _ hne hlt).trans (ht _ _ ey)) hx hy
theorem own_sorted {m : Nat} {w : World} {g n B : Nat} {d : Array (Fin (m + 1))} {os : Array Obj} (hI : IRow w g (m + 1) (m + 1)) (hB : B ≤ g) (hd : d.size = m + 1) (hm : m + 1 ≤ 1000) (o : List Nat) (ho : d.toList.map Fin.val = o) :
    (sortWorld (encN m) w g 0 n d os).ownsRow B 3 1 (.slice (some ⟨g, 0, none⟩) (m + 1) (m + 1)) (m + 1) (numL (nL o)) := by
  have hH := hI.holds
  obtain ⟨cur, h1, h2, h3⟩ := hI
  have hgl := (Array.getElem?_eq_some_iff.1 h1).1
  have hblk : (sortWorld (encN m) w g 0 n d os).heap[g]? = some (.cells (putCells (encN m) 0 d cur) 3 (0, 0)) := by
    unfold sortWorld
    rw [heap_grow_old _ _ (by simp; exact hgl)]
    unfold putRow mapBlock
    simp only [Array.getElem?_modify, if_true]
    show (w.heap[g]?).map _ = _
    rw [h1]; rfl
  have hol : o.length = m + 1 := by rw [← ho, List.length_map, Array.length_toList, hd]
  refine ⟨by simp [numL, nL, hol], .inr ⟨g, m + 1, _, rfl, hB, hblk, by omega, by unfold maxLen; omega, by simp [putCells, h2], ?_⟩⟩
  refine List.ext_getElem? fun j => ?_
  rw [List.getElem?_take]
  by_cases hj : j < m + 1
  · rw [if_pos (by omega), Array.getElem?_toList]
    have h4 : (sortWorld (encN m) w g 0 n d os).cell? ⟨g, j, none⟩ = some (encN m d[j]!) := by
      unfold sortWorld
      rw [cell?_grow _ _ _ (by simp; exact hgl)]
      have h5 := (holds_putRow (encN m) (Sort.ahead w n) g 0 (ids m) d (holds_ahead (encN m) w n g 0 (ids m) hH) (by rw [hd, ids_size]) j (by omega)).1
      rwa [Nat.zero_add] at h5
    rw [cell_of_row _ g j _ _ _ hblk] at h4
    rw [h4, ← ho]
    simp only [numL, nL, List.getElem?_map, Array.getElem?_toList]
    rw [Array.getElem?_eq_getElem (by omega), getElem!_pos d j (by omega)]
    rfl
  · rw [if_neg (by omega), List.getElem?_eq_none]
    simp [numL, nL, hol]; omega
set_option maxRecDepth 100000 in
set_option maxHeartbeats 4000000 in
theorem order_any (A : Option Addr) (cap : Nat) (js : List Fv) (w : World) (hR : FRow w A cap js) (hn : js.length ≤ 1000) :
    Calls Tryz.prog 53 #[.slice A js.length cap] w (OrdPost (rls js) w) := by
  obtain ⟨c, hc, hmk⟩ := make_ints js.length (by omega) w
  obtain ⟨W0, hW0, hbx, hI0, hB0, hs0⟩ : ∃ W0, (w.alloc (.cells #[.slice A js.length cap] 27)).alloc (.cells c 3) = W0 ∧ W0.cell? ⟨w.heap.size, 0, none⟩ = some (.slice A js.length cap) ∧ IRow W0 (w.heap.size + 1) js.length 0 ∧ RowKit.Below w.heap.size w W0 ∧ W0.heap.size = w.heap.size + 1 + 1 := by
    refine ⟨_, rfl, ?_, ⟨c, ?_, hc, fun j hj => absurd hj (by omega)⟩, ((Below.refl w.heap.size w).alloc (Nat.le_refl _) _).alloc (by simp) _, by simp⟩
    · rw [World.cell?_alloc_lt _ _ _ (by simp), cell_of_row _ _ 0 _ _ _ (heap_alloc_new w _)]; rfl
    · have := heap_alloc_new (w.alloc (.cells #[.slice A js.length cap] 27)) (.cells c 3)
      rwa [World.size_alloc] at this
  have HW0 := Lib.hid hW0
  have ROW := Lib.hid hR
  have HB0 := Lib.hid hB0
  have HBX := Lib.hid hbx
  clear hW0 hR hc hB0
  go_enter Tryz.func53, Tryz.ntmps53
  go_upto_region 2 with (fail)
  rw [HW0.out]
  clear HW0 hmk
  go_wp2
  go_loopw [10] (fun i wr => ∃ k : Nat, k ≤ js.length ∧ i = .int .i64 k ∧ IRow wr (w.heap.size + 1) js.length k ∧ (∀ b i, b ≠ w.heap.size + 1 → b < W0.heap.size → wr.cell? ⟨b, i, none⟩ = W0.cell? ⟨b, i, none⟩) ∧ wr.heap.size = W0.heap.size ∧ RowKit.Below w.heap.size w wr) (fun i _ => js.length - (intOf i).toNat)
  case atStart => exact ⟨0, Nat.zero_le _, rfl, hI0, fun _ _ _ _ => rfl, rfl, HB0.out⟩
  case round =>
    obtain ⟨k, hk, rfl, hI, hkeep, hsz, hB⟩ := hrel
    clear hI0
    by_cases hlt : k < js.length
    · obtain ⟨⟨v, cv⟩, fv⟩ := hI.cell hlt
      have hi0 : (0 : Int) ≤ (k : Int) := by omega
      have hi1 : (k : Int) < (js.length : Int) := by omega
      have HI := Lib.hid hI
      have HK := Lib.hid hkeep
      have HB := Lib.hid hB
      have HS := Lib.hid hsz
      clear hI hkeep hB hsz hs0
      go_wp2
      go_roundw
      case rel => exact ⟨k + 1, by omega, by go_num, HI.out.step hlt, fun b i h1 h2 => by rw [World.cell?_setCell_other _ _ _ _ (by intro e; exact h1 (congrArg Addr.block e).symm)]; exact HK.out b i h1 h2, by simp [HS.out], HB.out.setCell (p := ⟨w.heap.size + 1, k, none⟩) (by simp) _⟩
      case measure => simp [intOf]; omega
    · obtain rfl : k = js.length := by omega
      have hbox : wr.cell? ⟨w.heap.size, 0, none⟩ = some (.slice A js.length cap) := (hkeep _ _ (by omega) (by omega)).trans HBX.out
      have HB := Lib.hid hB
      have HS : Hid (wr.heap.size = w.heap.size + 1 + 1) := Lib.hid (hsz.trans hs0)
      by_cases h0 : js = []
      · subst h0
        have S := AnyF.slices_SortFunc_none { Tryz.sortL with } (some ⟨w.heap.size + 1, 0, none⟩) 0 (.func (.func 68) #[] #[.pointer (some ⟨w.heap.size, 0, none⟩)]) wr
        change Calls Tryz.prog 67 _ _ _ at S
        have HSS := Lib.hid S
        have HI := Lib.hid hI
        clear hI hkeep hsz hs0 S
        simp only [List.length_nil] at *
        go_wp2_with (go_at_call 67; (with_reducible refine HSS.out.mono ?_); rintro e w2 ⟨rfl, rfl⟩)
        go_ret
        obtain ⟨cur, h1, h2, _⟩ := HI.out
        exact ⟨_, [], rfl, ⟨by simp, by simp⟩, ⟨rfl, .inr ⟨w.heap.size + 1, 0, cur, rfl, by omega, h1, Nat.le_refl _, by unfold maxLen; omega, by simpa using h2, by simp [numL, nL]⟩⟩, HB.out, ⟨_, rfl⟩⟩
      · obtain ⟨m, hm⟩ : ∃ m, js.length = m + 1 := ⟨js.length - 1, by have : js.length ≠ 0 := fun h => h0 (List.eq_nil_of_length_eq_zero h); omega⟩
        obtain ⟨b, o, x0, C0, cc0, rfl, hx0, hbl, hT0⟩ := ROW.out.get (k := 0) (by omega)
        have hA : Asks wr w.heap.size (w.heap.size + 1) js := ⟨⟨b, o, cap, hbox, by omega, by omega, fun k x hx => by
          obtain ⟨b', o', C, cc, e, hF⟩ := ROW.out.at_ k x hx
          cases e
          exact (hF.later HB.out).c2⟩, by omega, by omega⟩
        have hI2 := hI
        rw [hm] at hI2
        have hH := hI2.holds
        have eg : ∀ args w, (callFunc 68 args).run Tryz.prog w = .ok (.enter 68 args) w := enters_of Tryz.func68 (by kernel_rfl) rfl
        have S := Any.slices_SortFunc Tryz.sortL (encN m) (fun _ => rfl) (cfK (rls js)) (swoK _) 68 #[.pointer (some ⟨w.heap.size, 0, none⟩)] (w.heap.size + 1) 0 js.length (ids m) wr eg (hA.reads hm _) hH (by omega) (by rw [ids_size]; omega)
        change Calls Tryz.prog 67 _ _ _ at S
        have e0 : (ids m).size = js.length := by rw [ids_size, hm]
        have S2 := S
        rw [e0] at S2
        have HSS := Lib.hid S2
        have HM := Lib.hid hm
        have HI2 := Lib.hid hI2
        have HE := Lib.hid e0
        clear hI hkeep hsz hs0 hA hI2 hH h0 hx0 hT0 hm S S2 eg e0
        go_wp2_with (go_at_call 67; (with_reducible refine HSS.out.mono ?_); rintro e w2 ⟨rfl, d', nq, os, hp, hs, rfl⟩; have HP := Lib.hid hp; have HQ := Lib.hid hs; clear hp hs)
        go_ret
        have hks : (rls js).length = m + 1 := by rw [List.length_map, HM.out]
        have hO := ord_of hks (by rw [HE.out]; exact HP.out) (by rw [HE.out]; exact HQ.out)
        have hds : d'.size = m + 1 := by have := HP.out.1; rw [this, ids_size]
        refine ⟨_, _, rfl, hO, ?_, ?_, ⟨w.heap.size + 1, by rw [List.length_map]; rfl⟩⟩
        · rw [hks, HM.out]
          exact own_sorted HI2.out (by omega) hds (by have := HM.out; omega) _ rfl
        · unfold sortWorld
          have hb1 : RowKit.Below w.heap.size w (Sort.ahead wr nq) := HB.out.trans ⟨rfl, rfl, rfl, Nat.le_refl _, fun _ _ => rfl⟩
          exact below_grow (below_putRow hb1 (encN m) (w.heap.size + 1) 0 d' (by omega)) os (by have := HS.out; simp [Sort.ahead]; omega)
end Go.Proofs.YtngmaiiibinkaaaGreat
/- A heap in memory; what goes first. -/
namespace Go.Proofs.YtngmaiiibinkaaaGreat
open Go.RowKit
set_option linter.unusedVariables false
set_option linter.unusedSimpArgs false

/-- What less reads: tasks, of which it asks how urgent they are; where they lie. -/
structure LK where
  bl : Nat
  lb : Nat
  lo : Nat
  cap : Nat
  ps : List Int
/-- What orders things of the heap. -/
abbrev LK.fv (K : LK) : Value := .func (.func 55) #[] #[.pointer (some ⟨K.bl, 0, none⟩)]
def keyK (K : LK) (x : Int) : Int := (K.ps[x.toNat]?).getD 0
def okK (K : LK) (x : Int) : Prop := ∃ i : Nat, x = (i : Int) ∧ i < K.ps.length
structure LessOk (K : LK) (B : Nat) (w : World) : Prop where
  lt : K.bl < B
  lb : K.lb < B
  sz : B ≤ w.heap.size
  few : K.ps.length ≤ 1000000
  cp : K.ps.length ≤ K.cap ∧ K.cap ≤ 9223372036854775807
  box : w.cell? ⟨K.bl, 0, none⟩ = some (.slice (some ⟨K.lb, K.lo, none⟩) K.ps.length K.cap)
  rd : ∀ (i : Nat) (p : Int), K.ps[i]? = some p → w.cell? ⟨K.lb, K.lo + i * 7 + 6, none⟩ = some (.int .i64 p)
theorem LessOk.off {K : LK} {B : Nat} {w : World} (h : LessOk K B w) {k : Nat} (hk : B ≤ k) : k ≠ K.bl ∧ k ≠ K.lb := by
  have := h.lt; have := h.lb; omega
theorem LessOk.kept {K : LK} {B : Nat} {X : List Nat} {w w' : World} (h : LessOk K B w) (hk : Kept X w w') (hz : ∀ k ∈ X, k ≠ K.bl ∧ k ≠ K.lb) : LessOk K B w' := by
  have l1 := h.lt
  have l2 := h.lb
  have l3 := h.sz
  exact ⟨l1, l2, Nat.le_trans l3 hk.size, h.few, h.cp, (hk.cell (by omega) (fun e => (hz _ e).1 rfl)).trans h.box, fun i p hp => (hk.cell (by omega) (fun e => (hz _ e).2 rfl)).trans (h.rd i p hp)⟩
theorem LessOk.later {K : LK} {B : Nat} {w w' : World} (h : LessOk K B w) (hb : Below w.heap.size w w') : LessOk K B w' := h.kept (Kept.of [] hb) (by simp)
variable {K : LK}
/-- The cells of a thing with its turn. -/
def thI (p : Int × Nat) : List Value := [.int .i64 p.1, .int .i64 (p.2 : Int)]
def thCI (l : List (Int × Nat)) : List Value := l.flatMap thI
theorem th_lenI (p : Int × Nat) : (thI p).length = 2 := rfl
theorem thC_lenI : ∀ l : List (Int × Nat), (thCI l).length = l.length * 2
  | [] => rfl
  | p :: l => by
    have := thC_lenI l
    rw [thCI, List.flatMap_cons, List.length_append, th_lenI, List.length_cons]
    rw [thCI] at this
    omega
theorem thC_appI (a b : List (Int × Nat)) : thCI (a ++ b) = thCI a ++ thCI b := by simp [thCI]
theorem thC_getI (l : List (Int × Nat)) : ∀ (i : Nat) (p : Int × Nat), l[i]? = some p → ∀ j u, (thI p)[j]? = some u → (thCI l)[i * 2 + j]? = some u := by
  induction l with
  | nil => intro i p h; simp at h
  | cons a r ih =>
    intro i p h j v hv
    have hj : j < 2 := by
      rcases Nat.lt_or_ge j 2 with h | h
      · exact h
      · rw [List.getElem?_eq_none (by rw [th_lenI]; exact h)] at hv; cases hv
    cases i with
    | zero =>
      simp at h; subst h
      rw [Nat.zero_mul, Nat.zero_add, thCI, List.flatMap_cons, List.getElem?_append_left (by rw [th_lenI]; exact hj)]
      exact hv
    | succ i =>
      simp only [List.getElem?_cons_succ] at h
      have := ih i p h j v hv
      rw [thCI, List.flatMap_cons, List.getElem?_append_right (by rw [th_lenI]; omega), th_lenI]
      rw [show (i + 1) * 2 + j - 2 = i * 2 + j by omega]
      exact this
theorem thC_setI (l : List (Int × Nat)) : ∀ (i : Nat) (p : Int × Nat), i < l.length → thCI (l.set i p) = (((thCI l).set (i * 2) (.int .i64 p.1)).set (i * 2 + 1) (.int .i64 (p.2 : Int))) := by
  induction l with
  | nil => intro i p h; simp at h
  | cons a r ih =>
    intro i p h
    cases i with
    | zero => simp [thCI, thI]
    | succ i =>
      have := ih i p (by simpa using h)
      rw [List.set_cons_succ, thCI, List.flatMap_cons]
      rw [thCI] at this
      rw [this]
      have e : thCI (a :: r) = thI a ++ thCI r := by simp [thCI]
      rw [e]
      simp only [thI, List.cons_append, List.nil_append, show (i + 1) * 2 = i * 2 + 2 by omega, show ∀ m : Nat, i * 2 + 2 + m = i * 2 + m + 2 by intro m; omega]
      simp [thCI]
theorem thC_takeI (l : List (Int × Nat)) : ∀ m, m ≤ l.length → thCI (l.take m) = (thCI l).take (m * 2) := by
  induction l with
  | nil => intro m h; simp at h; subst h; simp [thCI]
  | cons a r ih =>
    intro m h
    cases m with
    | zero => simp [thCI]
    | succ m =>
      have := ih m (by simpa using h)
      rw [List.take_succ_cons, thCI, List.flatMap_cons]
      rw [thCI] at this
      rw [this]
      have e : thCI (a :: r) = thI a ++ thCI r := by simp [thCI]
      rw [e, List.take_append, th_lenI, show (m + 1) * 2 - 2 = m * 2 by omega, List.take_of_length_le (l := thI a) (by rw [th_lenI]; omega)]

/-- Block b is a heap: v its row, of which c came; l the things. -/
structure HBI (K : LK) (B : Nat) (w : World) (b : Nat) (v : Value) (c : Nat) (l : List (Int × Nat)) : Prop where
  hB : B ≤ b
  is : w.heap[b]? = some (.cells #[K.fv, v, .int .i64 (c : Int)] 122 (0, 0))
  row : w.ownsRow B 147 2 v l.length (thCI l)
  ok : ∀ p ∈ l, okK K p.1
  few : ∀ p ∈ l, p.2 < 1000000
  lim : c ≤ 1000000
  less : LessOk K B w
section
variable {B : Nat} {w w' : World} {b c : Nat} {v : Value} {l : List (Int × Nat)}
theorem HBI.lt (h : HBI K B w b v c l) : b < w.heap.size := (Array.getElem?_eq_some_iff.1 h.is).1
theorem HBI.cell (h : HBI K B w b v c l) (i : Nat) : w.cell? ⟨b, i, none⟩ = (#[K.fv, v, .int .i64 (c : Int)] : Array Value)[i]? := cell_of_row w b i _ _ _ h.is
theorem HBI.c0 (h : HBI K B w b v c l) : w.cell? ⟨b, 0, none⟩ = some (K.fv) := h.cell 0
theorem HBI.c1 (h : HBI K B w b v c l) : w.cell? ⟨b, 1, none⟩ = some v := h.cell 1
theorem HBI.c2 (h : HBI K B w b v c l) : w.cell? ⟨b, 2, none⟩ = some (.int .i64 (c : Int)) := h.cell 2
theorem HBI.fz (h : HBI K B w b v c l) (i : Nat) : w.frozen? ⟨b, i, none⟩ = false := by simp [World.frozen?, h.is]
theorem HBI.ne (h : HBI K B w b v c l) : v.ownBlock ≠ some b := own_ne h.row h.is (by decide)
theorem HBI.kept {X : List Nat} (h : HBI K B w b v c l) (hk : Kept X w w') (hx : ∀ k ∈ blk b v, k ∉ X) (hz : ∀ k ∈ X, k ≠ K.bl ∧ k ≠ K.lb) : HBI K B w' b v c l :=
  ⟨h.hB, (hk.block b h.lt (hx b (by simp [blk]))).trans h.is, hk.row h.row (fun g hg => hx g (by simp [blk, hg])), h.ok, h.few, h.lim, h.less.kept hk hz⟩
theorem HBI.later (h : HBI K B w b v c l) (hb : Below w.heap.size w w') : HBI K B w' b v c l := h.kept (Kept.of [] hb) (by simp) (by simp)
theorem HBI.blk_ge (h : HBI K B w b v c l) : ∀ k ∈ blk b v, B ≤ k ∧ k < w.heap.size := by
  intro k hk
  simp only [blk, List.mem_cons] at hk
  rcases hk with rfl | hk
  · exact ⟨h.hB, h.lt⟩
  · exact h.row.lt k (by simpa using hk)
end

theorem run_neq_nilI (fn : Fn) (a b : Array Value) (w : World) : (binOp .neq 73 (.func fn a b) .nilFunc).run Tryz.prog w = .ok (.bool true) w := by
  have h : ∀ d, (Op.equalIn (d + 1) 73 (.func fn a b) .nilFunc).run Tryz.prog w = .ok false w := fun d => by simp [Op.equalIn, run_underlying Tryz.underlying73]
  simp only [binOp]
  simp [Op.equal, Op.maxDepth, h 9999]
set_option maxRecDepth 100000 in
set_option maxHeartbeats 4000000 in
theorem less_anyI {B : Nat} (x y : Int) (w : World) (hL : LessOk K B w) (hx : okK K x) (hy : okK K y) : Calls Tryz.prog 55 #[.int .i64 x, .int .i64 y, .pointer (some ⟨K.bl, 0, none⟩)] w (Ans (decide (keyK K x < keyK K y)) w) := by
  obtain ⟨i, rfl, hi⟩ := hx
  obtain ⟨j, rfl, hj⟩ := hy
  obtain ⟨p, hp⟩ : ∃ p, K.ps[i]? = some p := ⟨K.ps[i], List.getElem?_eq_getElem hi⟩
  obtain ⟨q, hq⟩ : ∃ q, K.ps[j]? = some q := ⟨K.ps[j], List.getElem?_eq_getElem hj⟩
  have ep : keyK K (i : Int) = p := by simp [keyK, hp]
  have eq : keyK K (j : Int) = q := by simp [keyK, hq]
  rw [ep, eq]
  have c0 := hL.box
  have c1 := hL.rd i p hp
  have c2 := hL.rd j q hq
  have i0 : (0 : Int) ≤ (i : Int) := by omega
  have j0 : (0 : Int) ≤ (j : Int) := by omega
  have i1 : (i : Int) < (K.ps.length : Int) := by omega
  have j1 : (j : Int) < (K.ps.length : Int) := by omega
  generalize K.ps.length = n at *
  clear hL hp hq ep eq
  go_enter Tryz.func55, Tryz.ntmps55
  go_upto_region 1 with (fail)
  go_quiet (fail)
  go_wp2
  go_ret
  exact ⟨rfl, below_drewN2 _ _⟩
end Go.Proofs.YtngmaiiibinkaaaGreat
/- Which of two things goes first. -/
namespace Go.Proofs.YtngmaiiibinkaaaGreat
open Go.RowKit
set_option linter.unusedVariables false
set_option linter.unusedSimpArgs false
variable {K : LK}

set_option maxRecDepth 100000 in
set_option maxHeartbeats 2000000 in
theorem isLessI {B b : Nat} (x y : Int) (w : World) (h0 : w.cell? ⟨b, 0, none⟩ = some (K.fv)) (hL : LessOk K B w) (hx : okK K x) (hy : okK K y) :
    Calls Tryz.prog 119 #[.pointer (some ⟨b, 0, none⟩), .int .i64 x, .int .i64 y] w (Ans (decide ((keyK K) x < (keyK K) y)) w) := by
  have KL := Lib.hid (less_anyI x y w hL hx hy)
  generalize decide ((keyK K) x < (keyK K) y) = t at *
  have hb : b < w.heap.size := World.block_lt_of_cell? w _ h0
  have hnn := run_neq_nilI (.func 55) #[] #[.pointer (some ⟨K.bl, 0, none⟩)]
  clear hL hx hy
  go_enter Tryz.func119, Tryz.ntmps119
  go_wp2_with (go_at_call 55; (with_reducible refine KL.out.mono ?_); rintro e w' ⟨rfl, hB⟩)
  go_ret
  exact ⟨rfl, hB⟩

set_option maxRecDepth 100000 in
set_option maxHeartbeats 2000000 in
theorem firstI {B b : Nat} (p q : Int × Nat) (w : World) (h0 : w.cell? ⟨b, 0, none⟩ = some (K.fv)) (hL : LessOk K B w) (hx : okK K p.1) (hy : okK K q.1) :
    Calls Tryz.prog 109 #[.pointer (some ⟨b, 0, none⟩), .agg #[.int .i64 p.1, .int .i64 (p.2 : Int)], .agg #[.int .i64 q.1, .int .i64 (q.2 : Int)]] w (Ans (lexB (keyK K) p q) w) := by
  have hb : b < w.heap.size := World.block_lt_of_cell? w _ h0
  have C : ((w.alloc (.cells #[.int .i64 p.1, .int .i64 (p.2 : Int)] 147)).alloc (.cells #[.int .i64 q.1, .int .i64 (q.2 : Int)] 147)).cell? ⟨b, 0, none⟩ = some (K.fv) := by
    rw [World.cell?_alloc_lt _ _ _ (by simp; omega), World.cell?_alloc_lt _ _ _ (by simpa using hb)]; exact h0
  have hL2 := hL.later (((Below.refl w.heap.size w).alloc (Nat.le_refl _) (.cells #[.int .i64 p.1, .int .i64 (p.2 : Int)] 147)).alloc (by simp) (.cells #[.int .i64 q.1, .int .i64 (q.2 : Int)] 147))
  have K1 := Lib.hid (isLessI q.1 p.1 _ C hL2 hy hx)
  have K2 := Lib.hid (isLessI p.1 q.1 _ C hL2 hx hy)
  clear hL hL2 hx hy
  have hB0 : Below w.heap.size w ((w.alloc (.cells #[.int .i64 p.1, .int .i64 (p.2 : Int)] 147)).alloc (.cells #[.int .i64 q.1, .int .i64 (q.2 : Int)] 147)) := ((Below.refl _ _).alloc (Nat.le_refl _) _).alloc (by simp) _
  have hlx := lexB_first (keyK K) p q
  by_cases hlt : p.2 < q.2
  · rw [if_pos hlt] at hlx
    rw [hlx]
    have ht : decide (p.2 < q.2) = true := decide_eq_true hlt
    have HB := Lib.hid hB0
    clear hlx C h0 hB0
    go_enter Tryz.func109, Tryz.ntmps109
    go_wp2_with (go_at_call 119; (with_reducible refine K1.out.mono ?_); rintro e w' ⟨rfl, hB⟩)
    go_ret
    exact ⟨rfl, HB.out.trans (hB.mono HB.out.size)⟩
  · rw [if_neg hlt] at hlx
    rw [hlx]
    have ht : decide (p.2 < q.2) = false := decide_eq_false hlt
    have HB := Lib.hid hB0
    clear hlx C h0 hB0
    go_enter Tryz.func109, Tryz.ntmps109
    go_wp2_with (go_at_call 119; (with_reducible refine K2.out.mono ?_); rintro e w' ⟨rfl, hB⟩)
    go_ret
    exact ⟨rfl, HB.out.trans (hB.mono HB.out.size)⟩
end Go.Proofs.YtngmaiiibinkaaaGreat
