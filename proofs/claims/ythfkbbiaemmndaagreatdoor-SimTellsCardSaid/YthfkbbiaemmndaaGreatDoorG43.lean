/- Texts about the program, one after the other: YNot, ESame, ERf, ERs. -/
import Derived.WalkKit
import Derived.ProofKit
import Derived.Handy
import Derived.Lib.Hide
import Derived.Deep.MidRow
import Derived.Deep.QuietTactic
import Derived.BigQuiet
import Derived.Deep.RegionHeld3
import Derived.Laws.Externs
import Derived.RangeFuncBox
import Derived.Deep.CutBlock
import Derived.Deep.LoopGhost
import Derived.WalkMore
import Derived.OrdersIn
import Derived.Stop.RegionWithIn
import Derived.Deep.RegionLaw
import Derived.Laws.OwnMore
import Derived.Deep.CutRange
import Derived.Deep.Quiet
import Derived.Deep.RegionHeld
import Derived.Laws.AppendOwn
import Derived.Below
import Derived.LaidMore
import Derived.Laws.CopyOwn
import Derived.IntWalk
import Derived.OwnWalk
import Derived.BigRegion
import Derived.Deep.DrawnRows
import Derived.Deep.RegionHeldLaw
import Derived.LoopIn
import Derived.LoopNIn
import Derived.TacticsInMore
import Derived.OwnWalkIn
import Derived.RangeFuncNested
import Derived.RangeFuncBound
import Derived.RangeFuncCalls
import Derived.RangeFuncLeaves
import Derived.RangeFuncWrites
import Derived.Shelf.Abstract
import Derived.StillTailTactics
import Derived.Lib.SliceRun
import Derived.Deep.AppendSrc
import Derived.Deep.Upon
import Derived.Deep.DeepAppendWide
import Derived.Sort.LoopGhostIn
import Derived.Laws.ShiftsVarLaws
import Derived.Outline
import Derived.Laws.Bits128
import Derived.Deep.RegionWith
import Derived.Shelf.RegionOpen
import Derived.Laws.BytesString
import Derived.RangeFuncRecord
import Derived.MapKept
import Derived.Maps.AppendAt
import Derived.Laws.AppendOwnNone
import Derived.Shelf.Small.Bits
import Derived.Shelf.Small.Strs
import Derived.Shelf.Small.Wraps
import Derived.Shelf.Strconv.Itoa0
import Derived.Shelf.LaysM
import Derived.Shelf.Strconv.Clone
import Derived.Shelf.Strings.Search1
import Derived.Shelf.Bits.Mul64
import Derived.Ground.Names2Prog
import Derived.Shelf.Slices.SearchI
import Derived.ChangeOld
import Derived.OpenShut
import Derived.Test.YthfkbbiaemmndaaGreatDoorRows
import Derived.Test.YthfkbbiaemmndaaGreatDoorProg
import Derived.Test.YthfkbbiaemmndaaGreatDoorG4
import Derived.Test.YthfkbbiaemmndaaGreatDoorG6
import Derived.Test.YthfkbbiaemmndaaGreatDoorG7
import Derived.Test.YthfkbbiaemmndaaGreatDoorG8
import Derived.Test.YthfkbbiaemmndaaGreatDoorG9
import Derived.Test.YthfkbbiaemmndaaGreatDoorG11
import Derived.Test.YthfkbbiaemmndaaGreatDoorG14
import Derived.Test.YthfkbbiaemmndaaGreatDoorG28
import Derived.Test.YthfkbbiaemmndaaGreatDoorG41
set_option linter.unusedVariables false
set_option linter.unusedSimpArgs false
set_option maxRecDepth 100000
set_option maxHeartbeats 16000000
namespace Go.Proofs.YthfkbbiaemmndaaGreatDoor
section
open Go.RowKit
theorem rcrit_not (A : Option Addr) (cap : Nat) (l : List Ts) (i : Int) (w : World) (hR : Row w A cap l) (hi : in64 i) (hb : isB l i = false) :
  Calls Tryz.prog 50 #[.slice A l.length cap, .int .i64 i] w fun e w' => e = .returned (.agg #[.slice none 0 0, .int .i64 0, .int .i64 1]) ∧ Below w.heap.size w w' := by
 obtain ⟨W1, hW1, hR1, B1⟩ : ∃ W1, w.alloc (.cells #[.slice none 0 0, .int .i64 0, .int .i64 0] TGo15) = W1 ∧ RB0 w.heap.size W1 ∧ Below w.heap.size w W1 := ⟨_, rfl, World.alloc_heap_new w _, (Below.refl _ _).alloc (Nat.le_refl _) _⟩
 have K0 := ris_any A cap l i W1 (hR.later B1) hi
 rw [hb] at K0
 have K := Lib.hid K0
 have HR1 := Lib.hid hR1
 have HB1 := Lib.hid B1
 clear hR hR1 B1 hb K0
 go_enter Tryz.func50, Tryz.ntmps50
 go_upto_region 1 with (fail)
 clear hW1
 go_upto_region 3 with (go_at_call 46; (with_reducible refine K.out.mono ?_); rintro e w2 ⟨rfl, h2⟩; have H2 := Lib.hid h2; clear h2)
 obtain ⟨r0, r1, r2, f0, f1, f2⟩ := got_cells (HR1.out.later H2.out)
 obtain ⟨t1, t2, t3⟩ := rb_fin (x := .slice none 0 0) (y := .int .i64 0) (z := .int .i64 1) (Nat.le_refl w.heap.size) (HR1.out.later H2.out) (FOwn.nil TJb w.heap.size w2) (by simp)
 have T1 := Lib.hid t1
 have T3 := Lib.hid ((HB1.out.trans (H2.out.mono HB1.out.size)).trans t3)
 clear t1 t2 t3
 go_wp2
 exact bodyPost_ret (v := .agg #[.slice none 0 0, .int .i64 0, .int .i64 1]) (results_got15 rfl _ _ _ rfl T1.out) rfl ⟨rfl, T3.out⟩
end
section
open Go.RowKit
attribute [local go_sem ↓] Go.wp_at_zero Go.wp_at_succ
theorem SpR.later {w w' : World} {A : Option Addr} {cap : Nat} {l : List Spn} (h : SpR w A cap l) (hb : Below w.heap.size w w') : SpR w' A cap l := ⟨h.le, h.mx, fun i x hx => by
 obtain ⟨b, o, e, hr⟩ := h.at_ i x hx
 exact ⟨b, o, e, fun j v hv => cells_below hb _ _ _ (hr j v hv)⟩⟩
theorem SpR.get {w : World} {A : Option Addr} {cap : Nat} {l : List Spn} (h : SpR w A cap l) {k : Nat} (hk : k < l.length) : ∃ b o x, A = some ⟨b, o, none⟩ ∧ l[k]? = some x ∧ b < w.heap.size ∧
  w.cell? ⟨b, o + k * 3, none⟩ = some (.int .i64 (x.j : Int)) ∧ w.cell? ⟨b, o + k * 3 + 1, none⟩ = some (.int .i64 x.f) ∧ w.cell? ⟨b, o + k * 3 + 2, none⟩ = some (.int .i64 x.t) := by
 have hx : l[k]? = some l[k] := List.getElem?_eq_getElem hk
 obtain ⟨b, o, e, hr⟩ := h.at_ k _ hx
 have h0 := hr 0 _ rfl
 exact ⟨b, o, _, e, hx, World.block_lt_of_cell? w _ h0, h0, hr 1 _ rfl, hr 2 _ rfl⟩
theorem SpR.nil {w : World} (A : Option Addr) (cap : Nat) (h : cap ≤ 9223372036854775807) : SpR w A cap [] := ⟨by simp, h, by simp⟩
theorem sameS_any {A A' : Option Addr} {cap cap' n : Nat} {l : List Spn} (w : World) (h1 : SpR w A cap l) (h2 : SpR w A' cap' l) (hn : l.length = n) :
  Calls Tryz.prog 26 #[.slice A n cap, .slice A' n cap'] w fun e w' => e = .returned (.bool true) ∧ Below w.heap.size w w' := by
 have H1 := Lib.hid h1
 have H2 := Lib.hid h2
 have HN := Lib.hid hn
 have hmx := h1.mx
 have hle := h1.le
 rw [hn] at hle
 clear h1 h2 hn
 go_enter Tryz.func26, Tryz.ntmps26
 go_wp2
 go_loopw [5] (fun i wr => ∃ k : Nat, k ≤ n ∧ i = .int .i64 (k : Int) ∧ Hid (Below w.heap.size w wr)) (fun i _ => n - (intOf i).toNat)
 case atStart => exact ⟨0, Nat.zero_le _, rfl, Lib.hid (Below.refl _ _)⟩
 case round =>
  obtain ⟨k, hk, rfl, hB⟩ := hrel
  by_cases hlt : k < n
  ·obtain ⟨b, o, x, rfl, hx, hbl, a0, a1, a2⟩ := (H1.out.later hB.out).get (k := k) (by rw [HN.out]; exact hlt)
   obtain ⟨b', o', x', rfl, hx', hbl', c0, c1, c2⟩ := (H2.out.later hB.out).get (k := k) (by rw [HN.out]; exact hlt)
   obtain rfl : x = x' := by rw [hx] at hx'; simpa using hx'
   have hi0 : (0 : Int) ≤ (k : Int) := by omega
   have hi1 : (k : Int) < (n : Int) := by omega
   clear hx hx'
   go_upto_region 6 with (fail)
   go_quiet (fail)
   go_wp2
   go_roundw
   case rel => exact ⟨k + 1, by omega, by go_num, Lib.hid (hB.out.trans ((below_drewN2 wr _).mono hB.out.size))⟩
   case measure => simp [intOf]; omega
  ·obtain rfl : k = n := by omega
   go_wp2
   go_ret
   exact ⟨rfl, hB.out⟩
end
section
open Go.RowKit
attribute [local go_sem ↓] Go.wp_at_zero Go.wp_at_succ
theorem sum_take (c : List Int) (h : Pos1 c) (k : Nat) : 0 ≤ (c.take k).sum ∧ (c.take k).sum ≤ c.sum := by
 have h1 : Pos1 (c.take k) := fun x hx => h x (List.mem_of_mem_take hx)
 have h2 : Pos1 (c.drop k) := fun x hx => h x (List.mem_of_mem_drop hx)
 have := congrArg List.sum (List.take_append_drop k c)
 rw [List.sum_append] at this
 have := h1.sum
 have := h2.sum
 omega
theorem wthS_step {c : List Int} {k : Nat} {a d : Int} (hk : c[k]? = some a) : wthS (c.drop k) (d - (c.take k).sum) = ((decide (d > (c.take k).sum) && decide (d < (c.take k).sum + a)) || wthS (c.drop (k + 1)) (d - (c.take (k + 1)).sum)) := by
 have hlt := (List.getElem?_eq_some_iff.1 hk).1
 have e : c.drop k = a :: c.drop (k + 1) := by
  rw [List.drop_eq_getElem_cons hlt]
  congr 1
  have := List.getElem?_eq_getElem hlt
  rw [hk] at this
  simpa using this.symm
 rw [e, wthS, take_one hk, List.sum_append]
 congr 1
 ·congr 1
  ·exact decide_eq_decide.2 (by omega)
  ·exact decide_eq_decide.2 (by omega)
 ·congr 1
  simp; omega
theorem rwithin_any (x : Fv) (Cc : Option Addr) (cc : Nat) (d : Int) (w : World) (hc : CRow w Cc cc x.c) (hp : Pos1 x.c) (hs : x.c.sum ≤ 2147483647) (hd : 0 ≤ d ∧ d ≤ 2147483647) :
  Calls Tryz.prog 83 #[fvV x Cc cc, .int .i64 d] w fun e w' => e = .returned (.bool (wthS x.c d)) ∧ Below w.heap.size w w' := by
 obtain ⟨xt, xa, xr, xk, c⟩ := x
 simp only at hc hp hs
 show Calls Tryz.prog 83 #[.agg #[.int .i64 xt, .int .i64 xa, .int .i64 xr, .int .i64 xk, .slice Cc c.length cc], .int .i64 d] w fun e w' => e = .returned (.bool (wthS c d)) ∧ Below w.heap.size w w'
 have b0 : Below w.heap.size w (w.alloc (.cells #[.int .i64 xt, .int .i64 xa, .int .i64 xr, .int .i64 xk, .slice Cc c.length cc] 74)) := (Below.refl _ _).alloc (Nat.le_refl _) _
 have c4 := cell_of_row (w.alloc (.cells #[.int .i64 xt, .int .i64 xa, .int .i64 xr, .int .i64 xk, .slice Cc c.length cc] 74)) w.heap.size 4 _ _ _ (heap_alloc_new w _)
 simp only [List.getElem?_toArray, List.getElem?_cons_zero, List.getElem?_cons_succ] at c4
 have hR := hc.later b0
 have hle := hc.le
 have hmx := hc.mx
 obtain ⟨n, hn⟩ : ∃ n, c.length = n := ⟨_, rfl⟩
 obtain ⟨W1, hW1⟩ : ∃ W1, w.alloc (.cells #[.int .i64 xt, .int .i64 xa, .int .i64 xr, .int .i64 xk, .slice Cc c.length cc] 74) = W1 := ⟨_, rfl⟩
 rw [hW1] at b0 c4 hR
 rw [hn] at hW1 c4 hle ⊢
 obtain ⟨bj, hbj⟩ : ∃ bj, w.heap.size = bj := ⟨_, rfl⟩
 rw [hbj] at c4
 have HR := Lib.hid hR
 have HN := Lib.hid hn
 have HP := Lib.hid hp
 have HB0 := Lib.hid b0
 have hst := fun k => sum_take c hp k
 have HST := Lib.hid hst
 have HW := Lib.hid (show wthS (c.drop 0) (d - (c.take 0).sum) = wthS c d by simp)
 clear hc hR hn hp hst b0
 go_enter Tryz.func83, Tryz.ntmps83
 go_upto_region 1 with (fail)
 try rw [hW1]
 try rw [hbj]
 clear hW1 hbj
 go_wp2
 go_loopw [5, 6] (fun a i wr => wr = W1 ∧ ∃ k : Nat, k ≤ n ∧ i = .int .i64 (k : Int) ∧ a = .int .i64 (c.take k).sum ∧ Hid (wthS (c.drop k) (d - (c.take k).sum) = wthS c d)) (fun _ i _ => n - (intOf i).toNat)
 case atStart => exact ⟨rfl, 0, Nat.zero_le _, rfl, by simp, HW⟩
 case round =>
  obtain ⟨hwr, k, hk, rfl, rfl, hI⟩ := hrel
  obtain rfl : W1 = wr := hwr.symm
  clear HW
  by_cases hlt : k < n
  ·obtain ⟨b, o, a, rfl, hx, hwf, hbl, hcl⟩ := HR.out.get (k := k) (by rw [HN.out]; exact hlt)
   have hstep := wthS_step (d := d) hx
   rw [hI.out] at hstep
   have t1 := (HST.out k)
   have t2 := (HST.out (k + 1))
   have ht : (c.take (k + 1)).sum = (c.take k).sum + a := by rw [take_one hx, List.sum_append]; simp
   have ha := HP.out a (List.mem_of_getElem? hx)
   have HT := Lib.hid ht
   have HS := Lib.hid hstep
   rw [ht] at t2
   have hi0 : (0 : Int) ≤ (k : Int) := by omega
   have hi1 : (k : Int) < (n : Int) := by omega
   generalize (c.take k).sum = s at *
   clear ht hstep hx
   obtain ⟨g, hg⟩ : ∃ g, (decide (d > s) && decide (d < s + a)) = g := ⟨_, rfl⟩
   have HG := Lib.hid hg
   cases g with
   | true =>
     obtain ⟨g1, g2⟩ : d > s ∧ d < s + a := by simpa using hg
     have e1 : decide (d > s) = true := decide_eq_true g1
     have e1' : decide (s < d) = true := decide_eq_true g1
     have e2 : decide (d < s + a) = true := decide_eq_true g2
     clear hg
     go_wp2
     go_ret
     refine ⟨?_, HB0.out⟩
     rw [HS.out, HG.out]; rfl
   | false =>
     have HNX : Hid (wthS (c.drop (k + 1)) (d - (c.take (k + 1)).sum) = wthS c d) := Lib.hid (by rw [HS.out, HG.out]; rfl)
     by_cases g1 : d > s
     ·have g2 : ¬ (d < s + a) := fun h => by rw [decide_eq_true g1, decide_eq_true h] at hg; cases hg
      have e1 : decide (d > s) = true := decide_eq_true g1
      have e1' : decide (s < d) = true := decide_eq_true g1
      have e2 : decide (d < s + a) = false := decide_eq_false g2
      clear hg
      go_wp2
      go_roundw
      case rel => exact ⟨trivial, k + 1, by omega, by go_num, by rw [HT.out], HNX⟩
      case measure => simp [intOf]; omega
     ·have e1 : decide (d > s) = false := decide_eq_false g1
      have e1' : decide (s < d) = false := decide_eq_false g1
      clear hg
      go_wp2
      go_roundw
      case rel => exact ⟨trivial, k + 1, by omega, by go_num, by rw [HT.out], HNX⟩
      case measure => simp [intOf]; omega
  ·obtain rfl : k = n := by omega
   go_wp2
   go_ret
   refine ⟨?_, HB0.out⟩
   have := hI.out
   rw [List.drop_of_length_le (by rw [HN.out]; exact Nat.le_refl _)] at this
   rw [← this]; rfl
def pkI : Option Nat → Int | none => -1 | some b => (b : Int)
theorem rpick_any {A R D : Option Addr} {cap rc dc : Nat} {ts : List Ts} {js : List Fv} {dn : List Int} (t : Int) (w : World) (hT : Row w A cap ts) (hR : FRow w R rc js) (hD : CRow w D dc dn) (hl : dn.length = js.length) (ht : ∀ i, i < js.length → 0 ≤ (jb js i).t ∧ (jb js i).t < ts.length) (hn : js.length ≤ 1000) (hm : ts.length ≤ 1000) :
  Calls Tryz.prog 84 #[.slice A ts.length cap, .slice R js.length rc, .slice D js.length dc, .int .i64 t] w fun e w' => e = .returned (.int .i64 (pkI (pkN ts js dn t js.length))) ∧ Below w.heap.size w w' := by
 have HT := Lib.hid hT
 have HR := Lib.hid hR
 have HD := Lib.hid hD
 have HTT := Lib.hid ht
 have HL := Lib.hid hl
 have HB := Lib.hid (fun k => (pkN_spec (ts := ts) (js := js) (dn := dn) (t := t) k).2)
 have r1 := hR.le
 have r2 := hR.mx
 have d1 := hD.le
 have d2 := hD.mx
 have e1 := hT.le
 have e2 := hT.mx
 rw [hl] at d1
 obtain ⟨n, hn0⟩ : ∃ n, js.length = n := ⟨_, rfl⟩
 obtain ⟨m, hm0⟩ : ∃ m, ts.length = m := ⟨_, rfl⟩
 have HN := Lib.hid hn0
 have HM := Lib.hid hm0
 rw [hn0] at hn r1 d1 ⊢
 rw [hm0] at hm e1 ⊢
 clear hT hR hD ht hl hn0 hm0
 go_enter Tryz.func84, Tryz.ntmps84
 go_wp2
 go_loopw [9, 10] (fun b i wr => ∃ k : Nat, k ≤ n ∧ i = .int .i64 (k : Int) ∧ b = .int .i64 (pkI (pkN ts js dn t k)) ∧ Hid (Below w.heap.size w wr)) (fun _ i _ => n - (intOf i).toNat)
 case atStart => exact ⟨0, Nat.zero_le _, rfl, rfl, Lib.hid (Below.refl _ _)⟩
 case round =>
  obtain ⟨k, hk, rfl, rfl, hB⟩ := hrel
  by_cases hlt : k < n
  ·have hkj : k < js.length := by rw [HN.out]; exact hlt
   obtain ⟨rb, ro, x, C, cc, rfl, hx, hrl, hF⟩ := (HR.out.later hB.out).get (k := k) hkj
   obtain ⟨db, d0, y, rfl, hy, hyw, hdl, hyc⟩ := (HD.out.later hB.out).get (k := k) (by rw [HL.out]; exact hkj)
   have hxe := jb_get hx
   subst hxe
   have hye : kO dn k = y := by simp [kO, hy]
   have c0 := hF.c0
   have c2 := hF.c2
   have c3 := hF.c3
   have hi0 : (0 : Int) ≤ (k : Int) := by omega
   have hi1 : (k : Int) < (n : Int) := by omega
   have hs := pkN_succ (ts := ts) (js := js) (dn := dn) (t := t) k
   unfold pk1 at hs
   have HS := Lib.hid hs
   have HY := Lib.hid hye
   clear hs hx hy hye hF
   by_cases g1 : (jb js k).r ≤ t
   ·have t1 : decide ((jb js k).r ≤ t) = true := decide_eq_true g1
    by_cases g2 : y < (jb js k).k
    ·have t2 : decide (y < (jb js k).k) = true := decide_eq_true g2
     have hrd : rdy js dn t k = true := rdy_iff.2 ⟨g1, by rw [HY.out]; exact g2⟩
     obtain ⟨p0, p1⟩ := HTT.out k hkj
     obtain ⟨tb, tq, z, rfl, hz, hzw, htb, hZ⟩ := (HT.out.later hB.out).get (k := (jb js k).t.toNat) (by omega)
     have hzt : tk ts (jb js k).t = z := by have := tk_get hz; rw [show (((jb js k).t.toNat : Nat) : Int) = (jb js k).t by omega] at this; exact this
     have z6 := hZ.c6
     cases hp : pkN ts js dn t k with
     | none =>
       have HNX : Hid (pkN ts js dn t (k + 1) = some k) := Lib.hid (by rw [HS.out, hrd, hp] <;> rfl)
       have t3 : decide ((-1 : Int) < 0) = true := rfl
       simp only [pkI]
       clear hZ hz hzt z6 hrd hp HS
       go_upto_region 5 with (fail)
       go_quiet (fail)
       go_wp2
       go_roundw
       case rel => exact ⟨k + 1, by omega, by go_num, by rw [HNX.out] <;> rfl, Lib.hid (hB.out.trans ((below_drewN2 wr _).mono hB.out.size))⟩
       case measure => simp [intOf]; omega
     | some b =>
       have hbs := HB.out k b hp
       have hbj : b < js.length := by have := hbs.1; omega
       obtain ⟨q0, q1⟩ := HTT.out b hbj
       obtain ⟨rb', ro', x', C', cc', hRe, hx', hrl', hF'⟩ := (HR.out.later hB.out).get (k := b) hbj
       simp only [Option.some.injEq, Addr.mk.injEq, and_true] at hRe
       obtain ⟨rfl, rfl⟩ := hRe
       have hxe' := jb_get hx'
       subst hxe'
       have b0 := hF'.c0
       obtain ⟨tb', tq', z', hTe, hz', hzw', htb', hZ'⟩ := (HT.out.later hB.out).get (k := (jb js b).t.toNat) (by omega)
       simp only [Option.some.injEq, Addr.mk.injEq, and_true] at hTe
       obtain ⟨rfl, rfl⟩ := hTe
       have hzt' : tk ts (jb js b).t = z' := by have := tk_get hz'; rw [show (((jb js b).t.toNat : Nat) : Int) = (jb js b).t by omega] at this; exact this
       have z6' := hZ'.c6
       have t3 : decide ((b : Int) < 0) = false := decide_eq_false (by omega)
       have j0 : (0 : Int) ≤ (b : Int) := by omega
       have j1 : (b : Int) < (n : Int) := by have := hbs.1; omega
       obtain ⟨u, hu⟩ : ∃ u : Nat, (jb js k).t = (u : Int) := ⟨(jb js k).t.toNat, by omega⟩
       obtain ⟨u', hu'⟩ : ∃ u' : Nat, (jb js b).t = (u' : Int) := ⟨(jb js b).t.toNat, by omega⟩
       rw [hu] at c0 z6 p1
       rw [hu'] at b0 z6' q1
       simp only [Int.toNat_natCast] at z6 z6'
       have l0 : (0 : Int) ≤ (u : Int) := by omega
       have l1 : (u : Int) < (m : Int) := by rw [← HM.out]; exact p1
       have l0' : (0 : Int) ≤ (u' : Int) := by omega
       have l1' : (u' : Int) < (m : Int) := by rw [← HM.out]; exact q1
       simp only [pkI]
       by_cases g4 : z.p < z'.p
       ·have t4 : decide (z.p < z'.p) = true := decide_eq_true g4
        have HNX : Hid (pkN ts js dn t (k + 1) = some k) := Lib.hid (by
         rw [HS.out, hrd, hp]
         simp only [prO, hzt, hzt', t4, Bool.and_self, if_true])
        clear hZ hz hzt hrd hp HS hbs hF' hx' hZ' hz' hzt' hu hu' p0 p1 q0 q1
        go_upto_region 5 with (fail)
        go_quiet (fail)
        go_wp2
        go_roundw
        case rel => exact ⟨k + 1, by omega, by go_num, by rw [HNX.out] <;> rfl, Lib.hid (hB.out.trans ((below_drewN2 wr _).mono hB.out.size))⟩
        case measure => simp [intOf]; omega
       ·have t4 : decide (z.p < z'.p) = false := decide_eq_false g4
        have HNX : Hid (pkN ts js dn t (k + 1) = some b) := Lib.hid (by
         rw [HS.out, hrd, hp]
         simp only [prO, hzt, hzt', t4, Bool.and_false, Bool.false_eq_true, if_false])
        clear hZ hz hzt hrd hp HS hbs hF' hx' hZ' hz' hzt' hu hu' p0 p1 q0 q1
        go_upto_region 5 with (fail)
        go_quiet (fail)
        go_wp2
        go_roundw
        case rel => exact ⟨k + 1, by omega, by go_num, by rw [HNX.out] <;> rfl, Lib.hid (hB.out.trans ((below_drewN2 wr _).mono hB.out.size))⟩
        case measure => simp [intOf]; omega
    ·have t2 : decide (y < (jb js k).k) = false := decide_eq_false g2
     have HNX : Hid (pkN ts js dn t (k + 1) = pkN ts js dn t k) := Lib.hid (by
      have hrd : rdy js dn t k = false := by rw [← Bool.not_eq_true, rdy_iff]; rw [HY.out]; omega
      rw [HS.out, hrd] <;> rfl)
     clear HS
     go_upto_region 5 with (fail)
     go_quiet (fail)
     go_wp2
     go_roundw
     case rel => exact ⟨k + 1, by omega, by go_num, by rw [HNX.out], Lib.hid (hB.out.trans ((below_drewN2 wr _).mono hB.out.size))⟩
     case measure => simp [intOf]; omega
   ·have t1 : decide ((jb js k).r ≤ t) = false := decide_eq_false g1
    have HNX : Hid (pkN ts js dn t (k + 1) = pkN ts js dn t k) := Lib.hid (by
     have hrd : rdy js dn t k = false := by rw [← Bool.not_eq_true, rdy_iff]; omega
     rw [HS.out, hrd] <;> rfl)
    clear HS
    go_upto_region 5 with (fail)
    go_quiet (fail)
    go_wp2
    go_roundw
    case rel => exact ⟨k + 1, by omega, by go_num, by rw [HNX.out], Lib.hid (hB.out.trans ((below_drewN2 wr _).mono hB.out.size))⟩
    case measure => simp [intOf]; omega
  ·obtain rfl : k = n := by omega
   go_wp2
   go_ret
   exact ⟨rfl, hB.out⟩
end
section
open Go.RowKit
attribute [local go_sem ↓] Go.wp_at_zero Go.wp_at_succ
abbrev TGo : TypeId := 109
structure RfS (w0 : World) (n bg ge gd : Nat) (st : TSt) (vs : Value) (wr : World) : Prop where
 bel : Below w0.heap.size w0 wr
 box : wr.heap[bg]? = some (Obj.cells #[vs, .slice (some ⟨ge, 0, none⟩) n n, .slice (some ⟨gd, 0, none⟩) n n] TGo (0, 0))
 spn : wr.ownsRow w0.heap.size TSp 3 vs st.sp.length (spC st.sp)
 ens : wr.ownsRow w0.heap.size T64 1 (.slice (some ⟨ge, 0, none⟩) n n) n (numL st.en)
 dns : wr.ownsRow w0.heap.size T64 1 (.slice (some ⟨gd, 0, none⟩) n n) n (numL st.dn)
 ne : ge ≠ gd
 gb : w0.heap.size ≤ bg
 nb : bg ≠ w0.heap.size
 res : wr.heap[w0.heap.size]? = some (Obj.cells #[.slice none 0 0, .slice none 0 0, .slice none 0 0] TGo (0, 0))
structure RfS' (w0 : World) (n ge gd : Nat) (st : TSt) (vs : Value) (wr : World) : Prop where
 spn : wr.ownsRow w0.heap.size TSp 3 vs st.sp.length (spC st.sp)
 ens : wr.ownsRow w0.heap.size T64 1 (.slice (some ⟨ge, 0, none⟩) n n) n (numL st.en)
 bel : Below w0.heap.size w0 wr
theorem infoG10 : (Tryz.prog.info? TGo).map (·.size) = some 3 := by kernel_rfl
theorem results_got10 {fn : Func} {p : Tmp} (h : fn.results = #[.cell p TGo]) (tmps : Array Value) (w : World) (b : Nat) {x y z : Value} (hp : tmps.getD p undef = .pointer (some ⟨b, 0, none⟩)) (hb : w.heap[b]? = some (.cells #[x, y, z] TGo (0, 0))) :
  (results fn tmps).run Tryz.prog w = .ok (.agg #[x, y, z]) w :=
 results_cell_row h tmps w b _ _ _ _ hp hb Tryz.underlying109 rfl infoG10
section
variable {w0 wr : World} {n bg ge gd : Nat} {st : TSt} {vs : Value}
theorem RfS.cell (h : RfS w0 n bg ge gd st vs wr) (i : Nat) : wr.cell? ⟨bg, i, none⟩ = (#[vs, .slice (some ⟨ge, 0, none⟩) n n, .slice (some ⟨gd, 0, none⟩) n n] : Array Value)[i]? := cell_of_row wr bg i _ _ _ h.box
theorem RfS.c0 (h : RfS w0 n bg ge gd st vs wr) : wr.cell? ⟨bg, 0, none⟩ = some vs := h.cell 0
theorem RfS.c1 (h : RfS w0 n bg ge gd st vs wr) : wr.cell? ⟨bg, 1, none⟩ = some (.slice (some ⟨ge, 0, none⟩) n n) := h.cell 1
theorem RfS.c2 (h : RfS w0 n bg ge gd st vs wr) : wr.cell? ⟨bg, 2, none⟩ = some (.slice (some ⟨gd, 0, none⟩) n n) := h.cell 2
theorem RfS.later {w' : World} (h : RfS w0 n bg ge gd st vs wr) (hb : Below wr.heap.size wr w') : RfS w0 n bg ge gd st vs w' := by
 have k : KT [] wr w' := KT.of hb
 exact ⟨h.bel.trans (hb.mono h.bel.size), k.blk _ _ _ h.box (by simp), k.row h.spn (by simp), k.row h.ens (by simp), k.row h.dns (by simp), h.ne, h.gb, h.nb, k.blk _ _ _ h.res (by simp)⟩
theorem RfS.ru (h : RfS w0 n bg ge gd st vs wr) (r : Option Nat) : RfS w0 n bg ge gd { st with ru := r } vs wr := ⟨h.bel, h.box, h.spn, h.ens, h.dns, h.ne, h.gb, h.nb, h.res⟩
theorem RfS.grow {l : List Spn} {x : Spn} {g cap : Nat} (h : RfS w0 n bg ge gd st (.slice (some ⟨g, 0, none⟩) (l.length + 1) cap) wr) (hsp : st.sp = l ++ [x]) (t : Int) :
  RfS w0 n bg ge gd { st with sp := l ++ [⟨x.j, x.f, t⟩] } (.slice (some ⟨g, 0, none⟩) (l.length + 1) cap) (wr.setCell ⟨g, l.length * 3 + 2, none⟩ (.int .i64 t)) := by
 have hs := h.spn
 rw [hsp] at hs
 obtain ⟨cs, hcs⟩ := own_ty hs (g := g) rfl
 have k : KT [TSp] wr (wr.setCell ⟨g, l.length * 3 + 2, none⟩ (.int .i64 t)) := KT.set hcs (by simp)
 have h2 : (l ++ [x]).length = l.length + 1 := by simp
 have h3 := own_set hs (g := g) rfl (i := l.length * 3 + 2) (by rw [h2]; omega) (.int .i64 t)
 rw [sp_set] at h3
 exact ⟨below_set h.bel (hs.lt g rfl).1 h.bel.size, k.blk _ _ _ h.box (by decide), by simpa using h3, k.row h.ens (by decide), k.row h.dns (by decide), h.ne, h.gb, h.nb, k.blk _ _ _ h.res (by decide)⟩
theorem RfS.more {vs2 : Value} {w1 w2 : World} {x : Spn} (h : RfS w0 n bg ge gd st vs wr) (hB : Below wr.heap.size wr w1) (hown : w2.ownsRow w0.heap.size TSp 3 vs2 (st.sp.length + 1) (spC st.sp ++ snL x)) (hg : w1.grownBy w2 vs.ownBlock) :
  (w2.cell? ⟨bg, 0, none⟩ = some vs ∧ ∀ i, w2.frozen? ⟨bg, i, none⟩ = false) ∧ RfS w0 n bg ge gd { st with sp := st.sp ++ [x] } vs2 (w2.setCell ⟨bg, 0, none⟩ vs2) := by
 have h1 := h.later hB
 have hk : Kept vs.ownBlock.toList w1 w2 := kept_grown hg (fun k hk => by simp [hk])
 have kt : KT [TGo, TSp] w1 w2 := KT.kept hk (fun k hm => by
  obtain ⟨cs, hc⟩ := own_ty h1.spn (g := k) (by simpa using hm)
  exact ⟨cs, _, hc, by simp⟩)
 have hbox2 : w2.heap[bg]? = some (Obj.cells #[vs, .slice (some ⟨ge, 0, none⟩) n n, .slice (some ⟨gd, 0, none⟩) n n] TGo (0, 0)) := by
  refine (hk.block bg (Array.getElem?_eq_some_iff.1 h1.box).1 (fun hm => ?_)).trans h1.box
  exact own_ne h1.spn h1.box (by decide) (by simpa using hm)
 have kt2 : KT [TGo, TSp] w1 (w2.setCell ⟨bg, 0, none⟩ vs2) := kt.trans (KT.set hbox2 (by simp))
 have b2 : Below w0.heap.size w0 w2 := h1.bel.trans (hk.below h1.bel.size (fun k hm => (h1.spn.lt k (by simpa using hm)).1))
 refine ⟨⟨cell_of_row w2 bg 0 _ _ _ hbox2, fun i => by simp [World.frozen?, hbox2]⟩, below_set b2 h.gb b2.size, heap_setCell_same _ _ 0 _ _ _ hbox2, ?_, kt2.row h1.ens (by decide), kt2.row h1.dns (by decide), h.ne, h.gb, h.nb, ?_⟩
 rotate_left
 ·have q1 := h1.res
  rw [Below.heap_setCell _ _ _ _ (by simpa using Ne.symm h.nb)]
  exact (hk.block _ (Array.getElem?_eq_some_iff.1 q1).1 (fun hm => own_ne h1.spn q1 (by decide) (by simpa using hm))).trans q1
 have hne : ∀ g, vs2.ownBlock = some g → g ∉ [bg] := fun g hg2 => by
  rw [List.mem_singleton]
  intro e
  subst e
  exact own_ne hown hbox2 (by decide) hg2
 have := ((Kept.refl [bg] w2).set bg 0 vs2 (by simp)).row hown hne
 rw [List.length_append, spC_app]
 exact this
theorem RfS.done (h : RfS w0 n bg ge gd st vs wr) {i : Nat} (hi : i < n) (v : Int) : RfS w0 n bg ge gd { st with dn := st.dn.set i v } vs (wr.setCell ⟨gd, i, none⟩ (.int .i64 v)) := by
 obtain ⟨cs, hcs⟩ := own_ty h.dns (g := gd) rfl
 have k : KT [T64] wr (wr.setCell ⟨gd, i, none⟩ (.int .i64 v)) := KT.set hcs (by simp)
 have h3 := own_set h.dns (g := gd) rfl (i := i) (by omega) (.int .i64 v)
 have e : numL (st.dn.set i v) = (numL st.dn).set i (.int .i64 v) := by simp [numL, List.map_set]
 exact ⟨below_set h.bel (h.dns.lt gd rfl).1 h.bel.size, k.blk _ _ _ h.box (by decide), k.row h.spn (by decide), ((Kept.refl [gd] wr).set gd i _ (by simp)).row h.ens (fun g hg => by simp [Value.ownBlock] at hg; simp; intro e; exact h.ne (by rw [hg]; exact e)), by rw [e]; exact h3, h.ne, h.gb, h.nb, k.blk _ _ _ h.res (by decide)⟩
theorem RfS.ended (h : RfS w0 n bg ge gd st vs wr) {i : Nat} (hi : i < n) (v : Int) : RfS w0 n bg ge gd { st with en := st.en.set i v } vs (wr.setCell ⟨ge, i, none⟩ (.int .i64 v)) := by
 obtain ⟨cs, hcs⟩ := own_ty h.ens (g := ge) rfl
 have k : KT [T64] wr (wr.setCell ⟨ge, i, none⟩ (.int .i64 v)) := KT.set hcs (by simp)
 have h3 := own_set h.ens (g := ge) rfl (i := i) (by omega) (.int .i64 v)
 have e : numL (st.en.set i v) = (numL st.en).set i (.int .i64 v) := by simp [numL, List.map_set]
 exact ⟨below_set h.bel (h.ens.lt ge rfl).1 h.bel.size, k.blk _ _ _ h.box (by decide), k.row h.spn (by decide), by rw [e]; exact h3, ((Kept.refl [ge] wr).set ge i _ (by simp)).row h.dns (fun g hg => by simp [Value.ownBlock] at hg; simp; intro e; exact h.ne (by rw [hg]; exact e.symm)), h.ne, h.gb, h.nb, k.blk _ _ _ h.res (by decide)⟩
theorem RfS.final (h : RfS w0 n bg ge gd st vs wr) : (((wr.setCell ⟨w0.heap.size, 0, none⟩ vs).setCell ⟨w0.heap.size, 1, none⟩ (.slice (some ⟨ge, 0, none⟩) n n)).setCell ⟨w0.heap.size, 2, none⟩ (.slice (some ⟨gd, 0, none⟩) n n)).heap[w0.heap.size]? = some (Obj.cells #[vs, .slice (some ⟨ge, 0, none⟩) n n, .slice (some ⟨gd, 0, none⟩) n n] TGo (0, 0)) ∧
  RfS' w0 n ge gd st vs (((wr.setCell ⟨w0.heap.size, 0, none⟩ vs).setCell ⟨w0.heap.size, 1, none⟩ (.slice (some ⟨ge, 0, none⟩) n n)).setCell ⟨w0.heap.size, 2, none⟩ (.slice (some ⟨gd, 0, none⟩) n n)) := by
 have e1 := heap_setCell_same _ _ 0 _ _ vs h.res
 have e2 := heap_setCell_same _ _ 1 _ _ (.slice (some ⟨ge, 0, none⟩) n n) e1
 have e3 := heap_setCell_same _ _ 2 _ _ (.slice (some ⟨gd, 0, none⟩) n n) e2
 have k : KT [TGo] wr _ := ((KT.set (i := 0) (v := vs) h.res (by simp)).trans (KT.set (i := 1) (v := .slice (some ⟨ge, 0, none⟩) n n) e1 (by simp))).trans (KT.set (i := 2) (v := .slice (some ⟨gd, 0, none⟩) n n) e2 (by simp))
 have hs := h.bel.size
 have b1 := below_set (i := 0) (v := vs) h.bel (Nat.le_refl _) hs
 have b2 := below_set (i := 1) (v := .slice (some ⟨ge, 0, none⟩) n n) b1 (Nat.le_refl _) b1.size
 have b3 := below_set (i := 2) (v := .slice (some ⟨gd, 0, none⟩) n n) b2 (Nat.le_refl _) b2.size
 exact ⟨e3, k.row h.spn (by decide), k.row h.ens (by decide), b3⟩
theorem zero_own {B g n : Nat} {w : World} (h : w.heap[g]? = some (Obj.cells (madeCells (Value.cells (.int .i64 0)) n) T64 (0, 0))) (hB : B ≤ g) (hn : n ≤ 1000) : w.ownsRow B T64 1 (.slice (some ⟨g, 0, none⟩) n n) n (numL (List.replicate n 0)) := by
 refine ⟨by simp [numL], .inr ⟨g, n, _, rfl, hB, h, Nat.le_refl _, by unfold maxLen; omega, by rw [size_madeCells]; omega, ?_⟩⟩
 have e : Value.cells (.int .i64 0) = #[.int .i64 0] := rfl
 rw [e, toList_madeCells_one, Nat.mul_one, List.take_of_length_le (by simp)]
 simp [numL]
end
end
end Go.Proofs.YthfkbbiaemmndaaGreatDoor
