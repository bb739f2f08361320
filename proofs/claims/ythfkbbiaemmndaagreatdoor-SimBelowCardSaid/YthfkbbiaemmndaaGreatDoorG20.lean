/- Texts about the program, one after the other: FFP, EMem, EQui, ERel. -/
import Derived.WalkKit
import Derived.ProofKit
import Derived.Handy
import Derived.Lib.Hide
import Derived.Deep.MidRow
import Derived.Deep.QuietTactic
import Derived.BigQuiet
import Derived.Deep.RegionHeld3
import Derived.Laws.Externs
import Derived.RangeFuncBox
import Derived.Deep.CutBlock
import Derived.Deep.LoopGhost
import Derived.WalkMore
import Derived.Below
import Derived.LaidMore
import Derived.Laws.AppendOwn
import Derived.Laws.CopyOwn
import Derived.IntWalk
import Derived.OwnWalk
import Derived.Deep.RegionLaw
import Derived.BigRegion
import Derived.Deep.DrawnRows
import Derived.Deep.Quiet
import Derived.Deep.RegionHeldLaw
import Derived.LoopIn
import Derived.LoopNIn
import Derived.TacticsInMore
import Derived.OwnWalkIn
import Derived.RangeFuncNested
import Derived.RangeFuncBound
import Derived.RangeFuncCalls
import Derived.RangeFuncLeaves
import Derived.RangeFuncWrites
import Derived.Shelf.Abstract
import Derived.StillTailTactics
import Derived.Lib.SliceRun
import Derived.Deep.AppendSrc
import Derived.Deep.Upon
import Derived.Deep.DeepAppendWide
import Derived.OrdersIn
import Derived.Sort.LoopGhostIn
import Derived.Shelf.SlGeneric
import Derived.Shelf.Spec.SlicesGrow
import Derived.Ground.Names8Prog
import Derived.Laws.OwnMore
import Derived.Laws.BytesString
import Derived.RangeFuncRecord
import Derived.MapKept
import Derived.Shelf.Small.Bits
import Derived.Shelf.Small.Strs
import Derived.Shelf.Small.Wraps
import Derived.Shelf.Strconv.Itoa0
import Derived.Shelf.LaysM
import Derived.Shelf.Strconv.Clone
import Derived.Shelf.Strings.Search1
import Derived.Shelf.Bits.Mul64
import Derived.Ground.Names2Prog
import Derived.Shelf.Slices.SearchI
import Derived.ChangeOld
import Derived.OpenShut
import Derived.Maps.AppendAt
import Derived.Test.YthfkbbiaemmndaaGreatDoorRows
import Derived.Test.YthfkbbiaemmndaaGreatDoorProg
import Derived.Shelf.SlSortCmp.Whole1
import Derived.Ground.SlsfProg
import Derived.Ground.SlgnProg
import Derived.Laws.MakeOwn
import Derived.Shelf.SlSortCmp.NoneTotal
import Derived.Test.YthfkbbiaemmndaaGreatDoorG4
import Derived.Test.YthfkbbiaemmndaaGreatDoorG6
import Derived.Test.YthfkbbiaemmndaaGreatDoorG7
import Derived.Test.YthfkbbiaemmndaaGreatDoorG8
import Derived.Test.YthfkbbiaemmndaaGreatDoorG16
import Derived.Test.YthfkbbiaemmndaaGreatDoorG17
import Derived.Test.YthfkbbiaemmndaaGreatDoorG19
set_option linter.unusedVariables false
set_option linter.unusedSimpArgs false
set_option maxRecDepth 100000
set_option maxHeartbeats 16000000
namespace Go.Proofs.YthfkbbiaemmndaaGreatDoor
section
open Go.RowKit
attribute [local go_sem ↓] Go.wp_at_zero Go.wp_at_succ
theorem at_inP {B b o N f : Nat} {v : Value} {l : List Nat} {i : Nat} {x : Nat} (w : World) (h : FQP B w b o v N f l) (hx : l[i]? = some x) : Calls Tryz.prog 130 #[.pointer (some ⟨b, o, none⟩), .int .i64 (i : Int)] w (Quiet (.tuple #[.pointer (some ⟨x, 0, none⟩), .bool true]) w) := by
 have hil := (List.getElem?_eq_some_iff.1 hx).1
 have hle := h.len_le
 obtain ⟨g, cur, rfl, h1, h2, h3, h4, h5, h6⟩ := h.open (by omega)
 have hlim := h.lim
 have LN := Lib.hid (len_anyP w h)
 have PL := Lib.hid (fun W (hB : Below w.heap.size w W) => place_anyP W (h.later hB) i (by omega) (by omega))
 have c0 := h.c0
 have hm : (f + i) % N < N := Nat.mod_lt _ (by omega)
 have hu : w.cell? ⟨g, (f + i) % N, none⟩ = some (.pointer (some ⟨x, 0, none⟩)) := by rw [cell_of_row w g _ _ _ _ h2]; exact h5 i x hx
 generalize (f + i) % N = r at *
 have hr1 : (r : Int) < (N : Int) := by omega
 have hi0 : ¬ (i : Int) < 0 := by omega
 have hi1 : ¬ ((l.length : Int) ≤ (i : Int)) := by omega
 generalize l.length = n at *
 clear h h2 h5
 go_enter Tryz.func130, Tryz.ntmps130
 go_upto_region 4 with (go_at_call 127; (with_reducible refine LN.out.mono ?_); rintro e w1 ⟨rfl, rfl⟩)
 go_quiet ((go_at_call 148; refine Calls.quiet_of (PL.out _ (below_drewN2 w _))))
 go_wp2
 go_ret2
 exact ⟨rfl, _, rfl⟩
theorem run_clear1P {w : World} {g m k : Nat} {u : Value} (ty : TypeId) (hu : w.cell? ⟨g, m, none⟩ = some u) (hf : w.frozen? ⟨g, m, none⟩ = false) : (Builtin.clear_ #[183] ty #[.slice (some ⟨g, m, none⟩) 1 k]).run Tryz.prog w = .ok (.tuple #[]) (w.setCell ⟨g, m, none⟩ (.pointer none)) := by
 obtain ⟨i0, hi, hz0, hz1, hz2⟩ := info_parts infoTP
 have hu' := run_underlying (P := Tryz.prog) Tryz.underlying183
 have a0 : (⟨g, m, none⟩ : Addr).add 0 = ⟨g, m, none⟩ := by rw [add_none]; rfl
 simp [Builtin.clear_, hu', zeroValue, typeInfo, hi, hz0, Builtin.zeroCells, storeCells, a0, hu, hf, go_sem]
theorem mod_skipP {f i N : Nat} (hf : f < N) (hi : i + 1 < N + 1) : ((f + 1) % N + i) % N = (f + (i + 1)) % N := by
 rw [Nat.mod_add_mod]; congr 1; omega
theorem FQP.pop {B b o N f : Nat} {v : Value} {l : List Nat} {x : Nat} {w : World} (h : FQP B w b o v N f (x :: l)) {g : Nat} (hv : v.ownBlock = some g) :
  FQP B (((w.setCell ⟨g, f, none⟩ (.pointer none)).setCell ⟨b, o + 1, none⟩ (.int .i64 (((f + 1) % N : Nat) : Int))).setCell ⟨b, o + 2, none⟩ (.int .i64 (l.length : Int))) b o v N ((f + 1) % N) l := by
 have hle := h.len_le
 simp at hle
 obtain ⟨g', cur, rfl, h1, h2, h3, h4, h5, h6⟩ := h.open (by omega)
 simp [Value.ownBlock] at hv
 subst hv
 have hgb : g' ≠ b := Ne.symm h6
 refine ⟨h.hB, row_setP (row_setP (row_setP2 h.row hgb)), set_o (set_o (set_g h.c0 hgb) (by omega)) (by omega), set_o (cell_set_at (set_g h.c1 hgb)) (by omega), cell_set_at (set_o (set_g h.c2 hgb) (by omega)), ?_, h.lim⟩
 ·refine .inr ⟨g', cur.setIfInBounds f (.pointer none), rfl, h1, ?_, by simpa using h3, Nat.mod_lt _ (by omega), by omega, ?_⟩
  ·rw [Below.heap_setCell _ _ _ _ (by simpa using Ne.symm h6), Below.heap_setCell _ _ _ _ (by simpa using Ne.symm h6)]
   exact heap_setCell_same _ g' _ _ _ _ h2
  ·intro i y hy
   have hil := (List.getElem?_eq_some_iff.1 hy).1
   have := h5 (i + 1) y (by simpa using hy)
   rw [mod_skipP h4 (by omega)]
   have hne : f ≠ (f + (i + 1)) % N := by
    intro e
    rcases Nat.lt_or_ge (f + (i + 1)) N with ha | ha
    ·rw [Nat.mod_eq_of_lt ha] at e; omega
    ·rw [Nat.mod_eq_sub_mod ha, Nat.mod_eq_of_lt (by omega)] at e; omega
   rw [Array.getElem?_setIfInBounds_ne hne]
   exact this
theorem run_cut1P {g f N : Nat} (h : f < N) (w : World) : (Instr.slice 183 (.slice (some ⟨g, 0, none⟩) N N) (some (.int .i64 (f : Int))) (some (.int .i64 ((f : Int) + 1))) none).run Tryz.prog w = .ok (.slice (some ⟨g, f, none⟩) 1 (N - f)) w := by
 have h1 : (f : Int) ≤ (f : Int) + 1 := by omega
 have h2 : (f : Int) + 1 ≤ (N : Int) := by omega
 have h3 : (0 : Int) ≤ (f : Int) + 1 := by omega
 have h4 : ¬ N = f := by omega
 have h5 : ((f : Int) + 1).toNat = f + 1 := by omega
 have h6 : f + 1 - f = 1 := by omega
 have h7 : (f : Int) ≤ (N : Int) := by omega
 go_simp
def PopPP (B b o N : Nat) (v : Value) (x : Nat) (l : List Nat) (w : World) (e : Ending) (w' : World) : Prop := e = .returned (.tuple #[.pointer (some ⟨x, 0, none⟩), .bool true]) ∧ ∃ f', FQP B w' b o v N f' l ∧ Kept (blk b v) w w' ∧ FrQ b o w w'
theorem pop_someP {B b o N f : Nat} {v : Value} {l : List Nat} {x : Nat} (w : World) (h : FQP B w b o v N f (x :: l)) : Calls Tryz.prog 150 #[.pointer (some ⟨b, o, none⟩)] w (PopPP B b o N v x l w) := by
 have hle := h.len_le
 simp at hle
 obtain ⟨g, cur, rfl, h1, h2, h3, h4, h5, h6⟩ := h.open (by omega)
 have hlim := h.lim
 have AT := Lib.hid (show Calls Tryz.prog 130 #[.pointer (some ⟨b, o, none⟩), .int .i64 0] w (Quiet (.tuple #[.pointer (some ⟨x, 0, none⟩), .bool true]) w) from at_inP w h (i := 0) (x := x) rfl)
 have c0 := h.c0
 have c1 := h.c1
 have c2 := h.c2
 have fb1 := h.fz (o + 1)
 have fb2 := h.fz (o + 2)
 have hu : w.cell? ⟨g, f, none⟩ = some (.pointer (some ⟨x, 0, none⟩)) := by
  have := h5 0 x rfl
  rw [Nat.add_zero, Nat.mod_eq_of_lt h4] at this
  rw [cell_of_row w g _ _ _ _ h2]; exact this
 have fg : w.frozen? ⟨g, f, none⟩ = false := by simp [World.frozen?, h2]
 have hP := fun k => (h.later (below_drewN2 w k)).pop (g := g) rfl
 have hll : ((x :: l).length : Int) = (l.length : Int) + 1 := by simp
 rw [hll] at c2
 have HP := Lib.hid hP
 have PL := Lib.hid (fun W (h0 : W.cell? ⟨b, o, none⟩ = some (.slice (some ⟨g, 0, none⟩) N N)) (h1 : W.cell? ⟨b, o + 1, none⟩ = some (.int .i64 (f : Int))) => show Calls Tryz.prog 148 #[.pointer (some ⟨b, o, none⟩), .int .i64 1] W (Quiet (.int .i64 (((f + 1) % N : Nat) : Int)) W) from place_cP W h0 h1 h4 hlim 1 (by omega))
 have CL := Lib.hid (fun k ty => run_clear1P (w := w.drewN k) (g := g) (m := f) (k := N - f) ty hu fg)
 have hm1 : f + 1 - f = 1 := by omega
 have hbl := h.lt
 have hfN : (f : Int) < (N : Int) := by omega
 have hNf : ¬ N = f := by omega
 have hbg : g ≠ b := Ne.symm h6
 have hrl : (f + 1) % N < N := Nat.mod_lt _ (by omega)
 generalize (f + 1) % N = r at *
 generalize l.length = n at *
 clear hP h5 h2 h
 go_enter Tryz.func150, Tryz.ntmps150
 go_upto_region 4 with (go_at_call 130; (with_reducible refine AT.out.mono ?_); rintro e w1 ⟨rfl, m0, rfl⟩)
 have hw : IntKind.i64.wrap ((f : Int) + 1) = (f : Int) + 1 := by rw [IntKind.wrap_i64]; omega
 have hsl := fun w => run_cut1P (g := g) h4 w
 have d0 : (w.drewN m0).cell? ⟨b, o, none⟩ = _ := c0
 have d1 : (w.drewN m0).cell? ⟨b, o + 1, none⟩ = _ := c1
 have d2 : (w.drewN m0).cell? ⟨b, o + 2, none⟩ = _ := c2
 have e1 : (w.drewN m0).frozen? ⟨b, o + 1, none⟩ = false := fb1
 have e2 : (w.drewN m0).frozen? ⟨b, o + 2, none⟩ = false := fb2
 have BW : Below w.heap.size w (w.drewN m0).drew := ⟨rfl, rfl, rfl, Nat.le_refl _, fun _ _ => rfl⟩
 have CL' := CL.out (m0 + 1)
 have HP' := HP.out (m0 + 1)
 have eqW : w.drewN (m0 + 1) = (w.drewN m0).drew := rfl
 rw [eqW] at CL' HP'
 have HP2 := Lib.hid HP'
 have BW2 := Lib.hid BW
 clear HP HP' CL eqW BW c0 c1 c2 fb1 fb2 AT
 generalize w.drewN m0 = W at *
 go_still_tail 14, (by kernel_rfl)
 change wpList _ _ _ _ _ W.drew
 have e0 : W.drew.cell? ⟨b, o, none⟩ = _ := d0
 have e1' : W.drew.cell? ⟨b, o + 1, none⟩ = _ := d1
 have e2' : W.drew.cell? ⟨b, o + 2, none⟩ = _ := d2
 have f1' : W.drew.frozen? ⟨b, o + 1, none⟩ = false := e1
 have f2' : W.drew.frozen? ⟨b, o + 2, none⟩ = false := e2
 have hcl := CL' 0
 clear d0 d1 d2 e1 e2 CL' hsl hu fg
 generalize W.drew = V at *
 have PL2 := Lib.hid (PL.out (V.setCell ⟨g, f, none⟩ (.pointer none)) ((World.cell?_of_block (a := ⟨b, o, none⟩) (Below.heap_setCell V ⟨g, f, none⟩ _ b (by simpa using h6))).trans e0) ((World.cell?_of_block (a := ⟨b, o + 1, none⟩) (Below.heap_setCell V ⟨g, f, none⟩ _ b (by simpa using h6))).trans e1'))
 clear PL
 go_wp2_with (go_at_call 148; (with_reducible refine PL2.out.mono ?_); rintro e w' ⟨rfl, mm, rfl⟩)
 go_ret2
 exact ⟨rfl, r, HP2.out.later (below_drewN2 _ mm), ((((Kept.of _ BW2.out).set g _ _ (by simp [blk, Value.ownBlock])).set b _ _ (by simp [blk])).set b _ _ (by simp [blk])).later (below_drewN2 _ mm), ((((FrQ.of BW2.out hbl).setg g _ _ hbg).setb _ _ (by omega)).setb _ _ (by omega)).trans (FrQ.of (below_drewN2 _ mm) (by simp; exact Nat.lt_of_lt_of_le hbl BW2.out.size))⟩
end
section
open Go.RowKit
abbrev TX : TypeId := 146
abbrev TRe : TypeId := 165
abbrev TRi : TypeId := 162
abbrev TQu : TypeId := 185
abbrev THe : TypeId := 180
abbrev TTh : TypeId := 208
abbrev TTs : TypeId := 23
structure Com (B : Nat) (w : World) (v : Value) (l : List Nat) : Prop where
 ex : ∃ g off cs, v = .slice (some ⟨g, off, none⟩) l.length l.length ∧ B ≤ g ∧ w.heap[g]? = some (.cells cs TIn (0, 0)) ∧ l.length ≤ 1000 ∧ ∀ (j p : Nat), l[j]? = some p → w.cell? ⟨g, off + j, none⟩ = some (.int .i64 (p : Int))
theorem Com.kt {S : List TypeId} {B : Nat} {w w' : World} {v : Value} {l : List Nat} (h : Com B w v l) (hk : KT S w w') (hS : TIn ∉ S) : Com B w' v l := by
 obtain ⟨g, off, cs, hv, hB, hg, hl, hc⟩ := h.ex
 exact ⟨g, off, cs, hv, hB, hk.blk g cs _ hg hS, hl, fun j p hp => (hk.cell (v := .int .i64 0) hg hS).trans (hc j p hp)⟩
theorem HsI.tys {K : LK} {B : Nat} {w : World} {b c : Nat} {X : List Nat} {L : List Int} (h : HsI K B w b X c L) : ∀ k ∈ X, ∃ cs T, w.heap[k]? = some (.cells cs T (0, 0)) ∧ T ∈ [THe, TTh] := by
 obtain ⟨⟨v, l, h1, rfl, h2⟩, h3⟩ := h
 intro k hk
 simp only [blk, List.mem_cons] at hk
 rcases hk with rfl | hk
 ·exact ⟨_, _, h1.is, by simp⟩
 ·obtain ⟨cs, hcs⟩ := own_ty h1.row (g := k) (by simpa using hk)
  exact ⟨cs, _, hcs, by simp⟩
theorem HsI.kt {S : List TypeId} {K : LK} {B : Nat} {w0 w w' : World} {b c : Nat} {X : List Nat} {L : List Int} (h : HsI K B w b X c L) (hk : KT S w w') (hS : THe ∉ S ∧ TTh ∉ S ∧ TTs ∉ S)
  (hb : Below w0.heap.size w0 w) (hb' : Below w0.heap.size w0 w') (hl : K.lb < w0.heap.size) (hx : ∃ cs, w.heap[K.bl]? = some (.cells cs TTs (0, 0))) : HsI K B w' b X c L := by
 obtain ⟨⟨v, l, h1, h2, h3⟩, h4⟩ := h
 obtain ⟨cs, hcs⟩ := hx
 exact ⟨⟨v, l, ⟨h1.hB, hk.blk _ _ _ h1.is hS.1, hk.row h1.row hS.2.1, h1.ok, h1.few, h1.lim, ⟨h1.less.lt, h1.less.lb, Nat.le_trans h1.less.sz hk.size, h1.less.few, h1.less.cp, (hk.cell (v := .int .i64 0) hcs hS.2.2).trans h1.less.box,
  fun i p hp => ((hb'.cell (p := ⟨K.lb, K.lo + i * 7 + 6, none⟩) hl).trans (hb.cell (p := ⟨K.lb, K.lo + i * 7 + 6, none⟩) hl).symm).trans (h1.less.rd i p hp)⟩⟩, h2, h3⟩, h4⟩
theorem FQP.kt {S : List TypeId} {B b o N f : Nat} {w w' : World} {v : Value} {l : List Nat} (h : FQP B w b o v N f l) (hk : KT S w w') (hS : TQu ∉ S ∧ TRi ∉ S) : FQP B w' b o v N f l := by
 obtain ⟨cur, hc⟩ := h.row
 refine ⟨h.hB, ⟨cur, hk.blk _ _ _ hc hS.1⟩, (hk.cell (v := v) hc hS.1).trans h.c0, (hk.cell (v := v) hc hS.1).trans h.c1, (hk.cell (v := v) hc hS.1).trans h.c2, ?_, h.lim⟩
 rcases h.ring with h | ⟨g, cur, rfl, hg, hh, r⟩
 ·exact .inl h
 ·exact .inr ⟨g, cur, rfl, hg, hk.blk _ _ _ hh hS.2, r⟩
theorem FQP.tys {B b o N f : Nat} {w : World} {v : Value} {l : List Nat} (h : FQP B w b o v N f l) : ∀ k ∈ blk b v, ∃ cs T, w.heap[k]? = some (.cells cs T (0, 0)) ∧ T ∈ [TQu, TRi] := by
 intro k hk
 simp only [blk, List.mem_cons] at hk
 rcases hk with rfl | hk
 ·obtain ⟨cur, hc⟩ := h.row
  exact ⟨_, _, hc, by simp⟩
 ·rcases h.ring with ⟨rfl, _⟩ | ⟨g, cur, rfl, hg, hh, r⟩
  ·simp [Value.ownBlock] at hk
  ·simp [Value.ownBlock] at hk
   subst hk
   exact ⟨_, _, hh, by simp⟩
structure Rst (w0 w : World) (b p : Nat) (k : Int) (c : List Int) : Prop where
 ge : w0.heap.size ≤ b
 is : ∃ A cc, w.heap[b]? = some (.cells #[.int .i64 (p : Int), .int .i64 k, .slice A c.length cc] TRe (0, 0)) ∧ CRow w0 A cc c
theorem Rst.kt {S : List TypeId} {w0 w w' : World} {b p : Nat} {k : Int} {c : List Int} (h : Rst w0 w b p k c) (hk : KT S w w') (hS : TRe ∉ S) : Rst w0 w' b p k c := by
 obtain ⟨A, cc, h1, h2⟩ := h.is
 exact ⟨h.ge, A, cc, hk.blk _ _ _ h1 hS, h2⟩
structure Cfg where
 w0 : World
 R : Option Addr
 rc : Nat
 ts : List Ts
 js : List Fv
 o : List Nat
 K : LK
 bx : Nat
 hb : Nat
 gq : Nat
 Bh : Nat
structure Cok (C : Cfg) : Prop where
 row : FRow C.w0 C.R C.rc C.js
 ord : IsOrd (C.js.map (·.r)) C.o
 few : C.js.length ≤ 1000
 fewT : C.ts.length ≤ 1000
 lg : Lg C.js
 seq : Seq C.js
 dist : Dist C.ts
 t0 : ∀ i, i < C.js.length → 0 ≤ (jb C.js i).t ∧ (jb C.js i).t < C.ts.length
 bd : ∀ i, i < C.js.length → (jb C.js i).r ≤ 35184372088832 ∧ (jb C.js i).k ≤ 2147483647
 ps : C.K.ps = C.ts.map (·.p)
 lb : C.K.lb < C.w0.heap.size
 Bh : C.w0.heap.size ≤ C.Bh
 bx : C.w0.heap.size ≤ C.bx
structure Mv where
 m : Nat
 now : Int
 dn : List Int
 sp : List Spn
 en : List Int
 L : List Int
structure Ex (C : Cfg) (w : World) (M : Mv) (vc vs ve : Value) (rb : Nat → Nat) (rv : Nat → Value) (lf : Nat → Int × List Int) : Prop where
 bel : Below C.w0.heap.size C.w0 w
 box : w.heap[C.bx]? = some (.cells #[.slice C.R C.js.length C.rc, vc, .pointer (some ⟨C.hb, 0, none⟩), .slice (some ⟨C.gq, 0, none⟩) C.ts.length C.ts.length, .int .i64 M.now, vs, ve] TX (0, 0))
 com : Com C.w0.heap.size w vc (C.o.drop M.m)
 spn : w.ownsRow C.w0.heap.size TSp 3 vs M.sp.length (spC M.sp)
 ens : w.ownsRow C.w0.heap.size T64 1 ve C.js.length (numL M.en)
 hp : ∃ X c, HsI C.K C.Bh w C.hb X c M.L ∧ c ≤ M.m
 bl : ∃ cs, w.heap[C.K.bl]? = some (.cells cs TTs (0, 0))
 qs : ∀ τ, τ < C.ts.length → ∃ N f, FQP C.w0.heap.size w C.gq (τ * 3) (rv τ) N f ((quS C.js M.dn (C.o.take M.m) τ).map rb) ∧ N ≤ 2004
 qd : ∀ τ σ g, τ < C.ts.length → σ < C.ts.length → τ ≠ σ → (rv τ).ownBlock = some g → (rv σ).ownBlock ≠ some g
 rs : ∀ p, p ∈ C.o.take M.m → kO M.dn p < (jb C.js p).k → Rst C.w0 w (rb p) p (lf p).1 (lf p).2
 rd : ∀ p q, p ∈ C.o.take M.m → kO M.dn p < (jb C.js p).k → q ∈ C.o.take M.m → kO M.dn q < (jb C.js q).k → p ≠ q → rb p ≠ rb q
end
section
open Go.RowKit
attribute [local go_sem ↓] Go.wp_at_zero Go.wp_at_succ
theorem wrap64_in {n : Int} (h : -9223372036854775808 ≤ n ∧ n ≤ 9223372036854775807) : wrap64 n = n := by unfold wrap64; omega
section
variable {C : Cfg} {w w' : World} {M : Mv} {vc vs ve : Value} {rb : Nat → Nat} {rv : Nat → Value} {lf : Nat → Int × List Int}
theorem Ex.cell (h : Ex C w M vc vs ve rb rv lf) (i : Nat) : w.cell? ⟨C.bx, i, none⟩ = (#[.slice C.R C.js.length C.rc, vc, .pointer (some ⟨C.hb, 0, none⟩), .slice (some ⟨C.gq, 0, none⟩) C.ts.length C.ts.length, .int .i64 M.now, vs, ve] : Array Value)[i]? := cell_of_row w C.bx i _ _ _ h.box
theorem Ex.fz (h : Ex C w M vc vs ve rb rv lf) (i : Nat) : w.frozen? ⟨C.bx, i, none⟩ = false := by simp [World.frozen?, h.box]
theorem Ex.c0 (h : Ex C w M vc vs ve rb rv lf) : w.cell? ⟨C.bx, 0, none⟩ = some (.slice C.R C.js.length C.rc) := h.cell 0
theorem Ex.c1 (h : Ex C w M vc vs ve rb rv lf) : w.cell? ⟨C.bx, 1, none⟩ = some vc := h.cell 1
theorem Ex.c2 (h : Ex C w M vc vs ve rb rv lf) : w.cell? ⟨C.bx, 2, none⟩ = some (.pointer (some ⟨C.hb, 0, none⟩)) := h.cell 2
theorem Ex.c3 (h : Ex C w M vc vs ve rb rv lf) : w.cell? ⟨C.bx, 3, none⟩ = some (.slice (some ⟨C.gq, 0, none⟩) C.ts.length C.ts.length) := h.cell 3
theorem Ex.c4 (h : Ex C w M vc vs ve rb rv lf) : w.cell? ⟨C.bx, 4, none⟩ = some (.int .i64 M.now) := h.cell 4
theorem Ex.c5 (h : Ex C w M vc vs ve rb rv lf) : w.cell? ⟨C.bx, 5, none⟩ = some vs := h.cell 5
theorem Ex.c6 (h : Ex C w M vc vs ve rb rv lf) : w.cell? ⟨C.bx, 6, none⟩ = some ve := h.cell 6
theorem Ex.later (h : Ex C w M vc vs ve rb rv lf) (hC : Cok C) (hb : Below w.heap.size w w') : Ex C w' M vc vs ve rb rv lf := by
 have k : KT [] w w' := KT.of hb
 have b' := h.bel.trans (hb.mono h.bel.size)
 refine ⟨b', k.blk _ _ _ h.box (by simp), h.com.kt k (by simp), k.row h.spn (by simp), k.row h.ens (by simp), ?_, ?_, fun τ hτ => ?_, h.qd, fun p hp hk => (h.rs p hp hk).kt k (by simp), h.rd⟩
 ·obtain ⟨X, c, h1, h2⟩ := h.hp
  exact ⟨X, c, h1.later hb, h2⟩
 ·obtain ⟨cs, hc⟩ := h.bl
  exact ⟨cs, k.blk _ _ _ hc (by simp)⟩
 ·obtain ⟨N, f, h1, h2⟩ := h.qs τ hτ
  exact ⟨N, f, h1.kt k (by simp), h2⟩
def relS (C : Cfg) (M : Mv) : Int := match C.o.drop M.m with | [] => 9223372036854775807 | p :: _ => (jb C.js p).r - M.now
theorem Cok.rel (hC : Cok C) {p : Nat} (hp : p ∈ C.o) : p < C.js.length := by have := hC.ord.mem.1 hp; simpa using this
theorem quiet_any (hC : Cok C) (h : Ex C w M vc vs ve rb rv lf) (hn : 0 ≤ M.now ∧ M.now ≤ 9223372036854775807) : Calls Tryz.prog 108 #[.pointer (some ⟨C.bx, 0, none⟩)] w (Quiet (.int .i64 (relS C M)) w) := by
 obtain ⟨g, off, cs, rfl, hB, hg, hl, hc⟩ := h.com.ex
 have c0 := h.c0
 have c1 := h.c1
 have c4 := h.c4
 unfold relS
 cases hd : C.o.drop M.m with
 | nil =>
   rw [hd] at c1
   simp only [List.length_nil] at c1
   clear h hc hd
   go_enter Tryz.func108, Tryz.ntmps108
   go_wp2
   go_ret
   exact ⟨rfl, 0, rfl⟩
 | cons p r =>
   simp only
   rw [hd] at c1 hl hc
   have hp : p ∈ C.o := List.mem_of_mem_drop (i := M.m) (by rw [hd]; simp)
   have hpl := hC.rel hp
   obtain ⟨jbk, jo, x, A, cc, hR, hx, hjl, hF⟩ := (hC.row.later (h.bel)).get hpl
   have hx2 := jb_get hx
   have e1 := hc 0 p rfl
   rw [Nat.add_zero] at e1
   have e2 := hF.c2
   rw [← hx2] at e2
   have hbd := hC.bd p hpl
   have hr0 := hC.lg.r0 p hpl
   have hnow := hn
   have hfew := hC.few
   have i0 : (0 : Int) ≤ (p : Int) := by omega
   have i1 : (p : Int) < (C.js.length : Int) := by omega
   have ln : (p :: r).length = r.length + 1 := rfl
   rw [ln] at c1
   have lz : ((r.length + 1 : Nat) : Int) ≠ 0 := by omega
   have lp : (0 : Int) < ((r.length + 1 : Nat) : Int) := by omega
   generalize (jb C.js p).r = rr at *
   generalize M.now = now at *
   have hw : IntKind.i64.wrap (rr - now) = rr - now := IntWalk.i64_in _ (by omega)
   rw [hR] at c0
   clear h hc hd hF hx hx2 hR hl
   go_enter Tryz.func108, Tryz.ntmps108
   go_wp2
   go_upto_region 3 with (fail)
   go_quiet (fail)
   go_wp2
   go_ret
   exact ⟨rfl, _, rfl⟩
theorem first_none (h : Ex C w M vc vs ve rb rv lf) (hL : M.L = []) : Calls Tryz.prog 109 #[.pointer (some ⟨C.bx, 0, none⟩)] w (Told (.pointer none) w) := by
 obtain ⟨X, c, hH, hc⟩ := h.hp
 rw [hL] at hH
 have PK := Lib.hid (hnilI hH).2
 have c2 := h.c2
 clear h hH hc hL
 go_enter Tryz.func109, Tryz.ntmps109
 go_wp2_with (go_at_call 129; (with_reducible refine PK.out.mono ?_); rintro e w1 ⟨rfl, hB1⟩)
 go_ret
 exact ⟨rfl, hB1⟩
theorem first_some {τ p : Nat} {r : List Int} {rest : List Nat} (hC : Cok C) (h : Ex C w M vc vs ve rb rv lf) (hL : M.L = (τ : Int) :: r) (hτ : τ < C.ts.length) (hq : quS C.js M.dn (C.o.take M.m) τ = p :: rest) :
  Calls Tryz.prog 109 #[.pointer (some ⟨C.bx, 0, none⟩)] w (Told (.pointer (some ⟨rb p, 0, none⟩)) w) := by
 obtain ⟨X, c, hH, hc⟩ := h.hp
 rw [hL] at hH
 obtain ⟨N, f, hQ, hN⟩ := h.qs τ hτ
 rw [hq] at hQ
 have PK := Lib.hid (hpeekI hH)
 have AT := Lib.hid (fun W (hB : Below w.heap.size w W) => show Calls Tryz.prog 130 #[.pointer (some ⟨C.gq, τ * 3, none⟩), .int .i64 0] W (Quiet (.tuple #[.pointer (some ⟨rb p, 0, none⟩), .bool true]) W) from at_inP W ((hQ.kt (KT.of (S := []) hB) (by simp))) (i := 0) (x := rb p) rfl)
 have c2 := h.c2
 have c3 := h.c3
 have hbx := h.bel
 have l3 := World.block_lt_of_cell? w _ c3
 have i0 : (0 : Int) ≤ (τ : Int) := by omega
 have i1 : (τ : Int) < (C.ts.length : Int) := by omega
 generalize C.ts.length = n at *
 clear h hH hc hL hQ hq
 go_enter Tryz.func109, Tryz.ntmps109
 go_upto_region 2 with (go_at_call 129; (with_reducible refine PK.out.mono ?_); rintro e w1 ⟨rfl, hB1⟩)
 have d3 := (hB1.cell (p := ⟨C.bx, 3, none⟩) l3).trans c3
 clear c2 c3
 go_wp2_with (go_at_call 130; (with_reducible refine (AT.out _ hB1).mono ?_); rintro e w2 ⟨rfl, k, rfl⟩)
 go_ret
 exact ⟨rfl, hB1.trans ((below_drewN2 w1 k).mono hB1.size)⟩
theorem Ex.wait (h : Ex C w M vc vs ve rb rv lf) (hC : Cok C) (n : Int) : Ex C (w.setCell ⟨C.bx, 4, none⟩ (.int .i64 n)) { M with now := n } vc vs ve rb rv lf := by
 have k : KT [TX] w (w.setCell ⟨C.bx, 4, none⟩ (.int .i64 n)) := KT.set h.box (by simp)
 have b' : Below C.w0.heap.size C.w0 (w.setCell ⟨C.bx, 4, none⟩ (.int .i64 n)) := below_set h.bel hC.bx h.bel.size
 refine ⟨b', heap_setCell_same _ _ 4 _ _ _ h.box, h.com.kt k (by decide), k.row h.spn (by decide), k.row h.ens (by decide), ?_, ?_, fun τ hτ => ?_, h.qd, fun p hp hk => (h.rs p hp hk).kt k (by decide), h.rd⟩
 ·obtain ⟨X, c, h1, h2⟩ := h.hp
  exact ⟨X, c, h1.kt k (by decide) h.bel b' hC.lb h.bl, h2⟩
 ·obtain ⟨cs, hc⟩ := h.bl
  exact ⟨cs, k.blk _ _ _ hc (by decide)⟩
 ·obtain ⟨N, f, h1, h2⟩ := h.qs τ hτ
  exact ⟨N, f, h1.kt k (by decide), h2⟩
def ExP (C : Cfg) (M : Mv) (lf : Nat → Int × List Int) (e : Ending) (w' : World) : Prop := e = .returned (.tuple #[]) ∧ ∃ vc vs ve rb rv, Ex C w' M vc vs ve rb rv lf
theorem wait_any (hC : Cok C) (h : Ex C w M vc vs ve rb rv lf) (n : Int) (h0 : 0 ≤ M.now) (h1 : 0 ≤ n) (h2 : M.now + n ≤ 9223372036854775807) :
  Calls Tryz.prog 107 #[.pointer (some ⟨C.bx, 0, none⟩), .int .i64 n] w (ExP C { M with now := M.now + n } lf) := by
 have c4 := h.c4
 have f4 := h.fz 4
 have hw2 : wrap64 (M.now + n) = M.now + n := wrap64_in (by omega)
 have W := Lib.hid (h.wait hC (M.now + n))
 clear h
 go_enter Tryz.func107, Tryz.ntmps107
 go_wp2
 refine bodyPost_ret (results_none rfl _ _ _) rfl ?_
 exact ⟨rfl, vc, vs, ve, rb, rv, W.out⟩
end
end
section
open Go.RowKit
section
variable {key : Int → Int}
theorem ins_mem (x y : Int) : ∀ L : List Int, y ∈ ins key x L ↔ y = x ∨ y ∈ L
 | [] => by simp [ins]
 | a :: l => by
   unfold ins
   split
   ·simp
   ·rw [List.mem_cons, ins_mem x y l, List.mem_cons]
    constructor
    ·rintro (h | h | h) <;> simp [h]
    ·rintro (h | h | h) <;> simp [h]
theorem ins_pw {x : Int} : ∀ {L : List Int}, L.Pairwise (fun a b => key a < key b) → (∀ y ∈ L, key y ≠ key x) → (ins key x L).Pairwise (fun a b => key a < key b)
 | [], _, _ => by simp [ins]
 | a :: l, h, hn => by
   have h1 := List.pairwise_cons.1 h
   unfold ins
   split
   ·rename_i hlt
    refine List.pairwise_cons.2 ⟨fun y hy => ?_, h⟩
    rcases List.mem_cons.1 hy with rfl | hy
    ·exact hlt
    ·have := h1.1 y hy; omega
   ·rename_i hlt
    have hna := hn a (by simp)
    refine List.pairwise_cons.2 ⟨fun y hy => ?_, ins_pw h1.2 (fun y hy => hn y (by simp [hy]))⟩
    rcases (ins_mem x y l).1 hy with rfl | hy
    ·omega
    ·exact h1.1 y hy
end
theorem key_tk {K : LK} {ts : List Ts} (hp : K.ps = ts.map (·.p)) {τ : Nat} (h : τ < ts.length) : keyK K (τ : Int) = (tk ts (τ : Int)).p := by
 have h1 : ts[τ]? = some ts[τ] := List.getElem?_eq_getElem h
 rw [tk_get h1]
 simp [keyK, hp, h1]
theorem tk_ne {ts : List Ts} (hD : Dist ts) {τ σ : Nat} (h1 : τ < ts.length) (h2 : σ < ts.length) (hne : τ ≠ σ) : (tk ts (τ : Int)).p ≠ (tk ts (σ : Int)).p := by
 have e1 : ts[τ]? = some ts[τ] := List.getElem?_eq_getElem h1
 have e2 : ts[σ]? = some ts[σ] := List.getElem?_eq_getElem h2
 rw [tk_get e1, tk_get e2]
 exact fun e => hne (hD _ _ _ _ e1 e2 e)
def LS (C : Cfg) (M : Mv) (τ : Nat) : List Int := if quS C.js M.dn (C.o.take M.m) τ = [] then ins (keyK C.K) (τ : Int) M.L else M.L
section
variable {C : Cfg} {M : Mv}
theorem hd_pw_key {L : List Int} {dn : List Int} {l : List Nat} (hC : Cok C) (h : Hd C.ts C.js dn l L) : L.Pairwise (fun a b => keyK C.K a < keyK C.K b) := by
 refine List.Pairwise.imp_of_mem (fun {a b} ha hb hab => ?_) h.srt
 obtain ⟨σ, rfl, h1⟩ := h.nat a ha
 obtain ⟨ρ, rfl, h2⟩ := h.nat b hb
 rw [key_tk hC.ps h1, key_tk hC.ps h2]; exact hab
theorem Hd.rel {p τ : Nat} {r : List Nat} (hC : Cok C) (h : Hd C.ts C.js M.dn (C.o.take M.m) M.L) (hd : C.o.drop M.m = p :: r) (ht : (jb C.js p).t = (τ : Int)) (hk : kO M.dn p < (jb C.js p).k) (hτ : τ < C.ts.length) :
  Hd C.ts C.js M.dn (C.o.take (M.m + 1)) (LS C M τ) := by
 have hp : C.o[M.m]? = some p := by rw [← List.head?_drop, hd]; rfl
 have e := take_one hp
 rw [e]
 have q1 : quS C.js M.dn (C.o.take M.m ++ [p]) τ = quS C.js M.dn (C.o.take M.m) τ ++ [p] := by rw [quS_app, if_pos ⟨ht, hk⟩]
 have q2 : ∀ σ : Nat, σ ≠ τ → quS C.js M.dn (C.o.take M.m ++ [p]) σ = quS C.js M.dn (C.o.take M.m) σ := fun σ hσ => by
  rw [quS_app, if_neg (fun hh => hσ (by have := hh.1; rw [ht] at this; omega)), List.append_nil]
 unfold LS
 by_cases h0 : quS C.js M.dn (C.o.take M.m) τ = []
 ·rw [if_pos h0]
  have hno : ∀ y ∈ M.L, keyK C.K y ≠ keyK C.K (τ : Int) := fun y hy => by
   obtain ⟨σ, rfl, h1⟩ := h.nat y hy
   rw [key_tk hC.ps h1, key_tk hC.ps hτ]
   refine tk_ne hC.dist h1 hτ (fun hh => ?_)
   subst hh
   exact (h.mem σ).1 hy h0
  refine ⟨?_, fun σ => ?_, fun x hx => ?_⟩
  ·refine List.Pairwise.imp_of_mem (fun {a b} ha hb hab => ?_) (ins_pw (x := (τ : Int)) (hd_pw_key hC h) hno)
   have nat : ∀ x ∈ ins (keyK C.K) (τ : Int) M.L, ∃ τ : Nat, x = (τ : Int) ∧ τ < C.ts.length := fun x hx => by
    rcases (ins_mem _ _ _).1 hx with rfl | hx
    ·exact ⟨τ, rfl, hτ⟩
    ·exact h.nat x hx
   obtain ⟨σ, rfl, h1⟩ := nat a ha
   obtain ⟨ρ, rfl, h2⟩ := nat b hb
   rw [← key_tk hC.ps h1, ← key_tk hC.ps h2]; exact hab
  ·rw [ins_mem]
   by_cases hσ : σ = τ
   ·subst hσ; simp [q1]
   ·rw [q2 σ hσ, ← h.mem σ]
    constructor
    ·rintro (hh | hh)
     ·omega
     ·exact hh
    ·exact .inr
  ·rcases (ins_mem _ _ _).1 hx with rfl | hx
   ·exact ⟨τ, rfl, hτ⟩
   ·exact h.nat x hx
 ·rw [if_neg h0]
  refine ⟨h.srt, fun σ => ?_, h.nat⟩
  by_cases hσ : σ = τ
  ·subst hσ
   rw [q1, h.mem σ]
   simp [h0]
  ·rw [q2 σ hσ, h.mem σ]
theorem rel_done {k : Nat} {n : Int} (hC : Cok C) (hk : k ≤ C.o.length) (lo : ∀ p ∈ C.o.take k, (jb C.js p).r ≤ n) (hi : ∀ p r, C.o.drop k = p :: r → n < (jb C.js p).r) : Rel C.js C.o k n := by
 refine ⟨hk, lo, fun q hq => ?_⟩
 cases hd : C.o.drop k with
 | nil => rw [hd] at hq; cases hq
 | cons p r =>
   have h1 := hi p r hd
   have hs := hC.ord.srt.sublist (List.drop_sublist k C.o)
   rw [hd] at hs hq
   rcases List.mem_cons.1 hq with rfl | hq
   ·exact h1
   ·have := (List.pairwise_cons.1 hs).1 q hq
    have hp : p < C.js.length := hC.rel (List.mem_of_mem_drop (i := k) (by rw [hd]; simp))
    have hq : q < C.js.length := hC.rel (List.mem_of_mem_drop (i := k) (by rw [hd]; simp [hq]))
    unfold Ahead at this
    rw [kO_rls hp, kO_rls hq] at this
    omega
end
theorem FQP.other {B b o o' N f : Nat} {w w' : World} {v v' : Value} {l : List Nat} (h : FQP B w b o' v' N f l) (hk : Kept (blk b v) w w') (hf : FrQ b o w w') (ho : o' + 3 ≤ o ∨ o + 3 ≤ o')
  (hr : ∃ cur, w'.heap[b]? = some (Obj.cells cur TQu (0, 0))) (hring : ∀ g, v'.ownBlock = some g → v.ownBlock ≠ some g) : FQP B w' b o' v' N f l := by
 refine ⟨h.hB, hr, (hf _ (by omega)).trans h.c0, (hf _ (by omega)).trans h.c1, (hf _ (by omega)).trans h.c2, ?_, h.lim⟩
 obtain ⟨cq, hcq⟩ := h.row
 rcases h.ring with h1 | ⟨g, cur, rfl, hg, hh, r⟩
 ·exact .inl h1
 ·refine .inr ⟨g, cur, rfl, hg, (hk.block g (Array.getElem?_eq_some_iff.1 hh).1 ?_).trans hh, r⟩
  simp only [blk, List.mem_cons, Option.mem_toList]
  rintro (rfl | e)
  ·rw [hcq] at hh
   simp only [Option.some.injEq, Obj.cells.injEq] at hh
   exact absurd hh.2.1 (by decide)
  ·exact hring g rfl e
def roomUp (N n : Nat) : Nat := if n = N then 2 * N + 4 else N
theorem qpushP {B b o N f : Nat} {v : Value} {l : List Nat} (x : Nat) (w : World) (h : FQP B w b o v N f l) (hN : N ≤ 2004) : Calls Tryz.prog 128 #[.pointer (some ⟨b, o, none⟩), .pointer (some ⟨x, 0, none⟩)] w (PushPP B b o (roomUp N l.length) v (l ++ [x]) w) := by
 have hle := h.len_le
 unfold roomUp
 by_cases e : l.length = N
 ·rw [if_pos e]; exact push_fullP x w h e (by omega)
 ·rw [if_neg e]; exact push_roomP x w h (by omega)
section
variable {C : Cfg} {w w1 w2 w3 w5 : World} {M : Mv} {vc vs ve : Value} {rb : Nat → Nat} {rv : Nat → Value} {lf : Nat → Int × List Int}
theorem quS_len {dn : List Int} {l : List Nat} {τ : Nat} {js : List Fv} : (quS js dn l τ).length ≤ l.length := by unfold quS; exact List.length_filter_le _ _
theorem Ex.rel {p τ N f : Nat} {r : List Nat} {v' : Value} {A : Option Addr} {cc : Nat} (hC : Cok C) (h : Ex C w M vc vs ve rb rv lf) (hd : C.o.drop M.m = p :: r) (ht : (jb C.js p).t = (τ : Int)) (hτ : τ < C.ts.length) (hk : kO M.dn p < (jb C.js p).k)
  (hlf : lf p = ((jb C.js p).k, (jb C.js p).c)) (hcr : CRow C.w0 A cc (jb C.js p).c)
  (hx1 : Ex C w M vc vs ve rb rv lf → ∃ vc', w1 = w.setCell ⟨C.bx, 1, none⟩ vc' ∧ Com C.w0.heap.size w vc' r) (hB2 : Below w1.heap.size w1 w2) (k23 : KT [THe, TTh] w2 w3) (hb3 : Below C.w0.heap.size C.w0 w3) (hH : ∃ X c, HsI C.K C.Bh w3 C.hb X c (LS C M τ) ∧ c ≤ M.m + 1)
  {l : List Nat} {N0 f0 : Nat} (hl : (quS C.js M.dn (C.o.take M.m) τ).map rb = l)
  (hQ0 : FQP C.w0.heap.size (w3.alloc (.cells #[.int .i64 (p : Int), .int .i64 (jb C.js p).k, .slice A (jb C.js p).c.length cc] TRe)) C.gq (τ * 3) (rv τ) N0 f0 l)
  (hQ : FQP C.w0.heap.size w5 C.gq (τ * 3) v' N f (l ++ [w3.heap.size])) (hN : N ≤ 2004)
  (hK : Kept (blk C.gq (rv τ)) (w3.alloc (.cells #[.int .i64 (p : Int), .int .i64 (jb C.js p).k, .slice A (jb C.js p).c.length cc] TRe)) w5) (hF : FrQ C.gq (τ * 3) (w3.alloc (.cells #[.int .i64 (p : Int), .int .i64 (jb C.js p).k, .slice A (jb C.js p).c.length cc] TRe)) w5)
  (hX : ∀ k ∈ blk C.gq v', k ∈ blk C.gq (rv τ) ∨ (w3.alloc (.cells #[.int .i64 (p : Int), .int .i64 (jb C.js p).k, .slice A (jb C.js p).c.length cc] TRe)).heap.size ≤ k) :
  ∃ vc' rb' rv', Ex C w5 { M with m := M.m + 1, L := LS C M τ } vc' vs ve rb' rv' lf := by
 obtain ⟨vc', rfl, hcom⟩ := hx1 h
 have hp : C.o[M.m]? = some p := by rw [← List.head?_drop, hd]; rfl
 have e := take_one hp
 have hd1 : C.o.drop (M.m + 1) = r := by rw [← List.drop_drop, hd]; rfl
 have hpn : p ∉ C.o.take M.m := by
  intro hm
  have := hC.ord.nodup
  rw [← List.take_append_drop M.m C.o, hd] at this
  exact (List.nodup_append.1 this).2.2 p hm p (by simp) rfl
 have q1 : quS C.js M.dn (C.o.take (M.m + 1)) τ = quS C.js M.dn (C.o.take M.m) τ ++ [p] := by rw [e, quS_app, if_pos ⟨ht, hk⟩]
 have q2 : ∀ σ : Nat, σ ≠ τ → quS C.js M.dn (C.o.take (M.m + 1)) σ = quS C.js M.dn (C.o.take M.m) σ := fun σ hσ => by
  rw [e, quS_app, if_neg (fun hh => hσ (by have := hh.1; rw [ht] at this; omega)), List.append_nil]
 have hmap : ∀ σ, (quS C.js M.dn (C.o.take M.m) σ).map (fun q => if q = p then w3.heap.size else rb q) = (quS C.js M.dn (C.o.take M.m) σ).map rb := fun σ => by
  refine List.map_congr_left fun q hq => ?_
  rw [if_neg (fun hh => hpn (by rw [← hh]; exact (quS_mem.1 hq).1))]
 have kx : KT [TX] w (w.setCell ⟨C.bx, 1, none⟩ vc') := KT.set h.box (by simp)
 have k12 : KT [] (w.setCell ⟨C.bx, 1, none⟩ vc') w2 := KT.of hB2
 have hb4 : Below w3.heap.size w3 (w3.alloc (.cells #[.int .i64 (p : Int), .int .i64 (jb C.js p).k, .slice A (jb C.js p).c.length cc] TRe)) := (Below.refl _ _).alloc (Nat.le_refl _) _
 have hnew := heap_alloc_new w3 (.cells #[.int .i64 (p : Int), .int .i64 (jb C.js p).k, .slice A (jb C.js p).c.length cc] TRe)
 generalize w3.alloc (.cells #[.int .i64 (p : Int), .int .i64 (jb C.js p).k, .slice A (jb C.js p).c.length cc] TRe) = w4 at *
 have k34 : KT [] w3 w4 := KT.of hb4
 have k45 : KT [TQu, TRi] w4 w5 := KT.kept hK hQ0.tys
 have k25 : KT [THe, TTh, TQu, TRi] w2 w5 := ((k23.mono (by simp)).trans (k34.mono (by simp))).trans (k45.mono (by simp))
 have k15 : KT [THe, TTh, TQu, TRi] (w.setCell ⟨C.bx, 1, none⟩ vc') w5 := (k12.mono (by simp)).trans k25
 have k05 : KT [TX, THe, TTh, TQu, TRi] w w5 := (kx.mono (by simp)).trans (k15.mono (by simp))
 have k04 : KT [TX, THe, TTh] w w4 := (kx.mono (by simp)).trans ((k12.mono (by simp)).trans ((k23.mono (by simp)).trans (k34.mono (by simp))))
 have b4 : Below C.w0.heap.size C.w0 w4 := hb3.trans (hb4.mono hb3.size)
 have b5 : Below C.w0.heap.size C.w0 w5 := b4.trans (hK.below b4.size (fun k hk => (hQ0.blk_ge k hk).1))
 have hbox1 : (w.setCell ⟨C.bx, 1, none⟩ vc').heap[C.bx]? = some (.cells #[.slice C.R C.js.length C.rc, vc', .pointer (some ⟨C.hb, 0, none⟩), .slice (some ⟨C.gq, 0, none⟩) C.ts.length C.ts.length, .int .i64 M.now, vs, ve] TX (0, 0)) := heap_setCell_same _ _ 1 _ _ _ h.box
 have hs34 : w3.heap.size ≤ w4.heap.size := hb4.size
 have hs45 := k45.size
 have hold : ∀ σ g, σ < C.ts.length → (rv σ).ownBlock = some g → g < w.heap.size := by
  intro σ g hσ hg
  obtain ⟨N, f, h1, h2⟩ := h.qs σ hσ
  exact (h1.blk_ge g (by simp [blk, hg])).2
 have hws : w.heap.size ≤ w3.heap.size := Nat.le_trans kx.size (Nat.le_trans k12.size k23.size)
 have hqne : ∀ g, v'.ownBlock = some g → g ≠ C.gq := by
  intro g hg he
  subst he
  obtain ⟨cq, hcq⟩ := hQ.row
  rcases hQ.ring with ⟨rfl, _⟩ | ⟨g', cur, rfl, _, hh, _⟩
  ·simp [Value.ownBlock] at hg
  ·simp only [Value.ownBlock, Option.some.injEq] at hg
   subst hg
   rw [hcq] at hh
   simp only [Option.some.injEq, Obj.cells.injEq] at hh
   exact absurd hh.2.1 (by decide)
 have hnewring : ∀ g, v'.ownBlock = some g → (rv τ).ownBlock = some g ∨ w.heap.size ≤ g := by
  intro g hg
  rcases hX g (by simp [blk, hg]) with hm | hm
  ·simp only [blk, List.mem_cons, Option.mem_toList] at hm
   rcases hm with hm | hm
   ·exact absurd hm (hqne g hg)
   ·exact .inl hm
  ·exact .inr (by omega)
 refine ⟨vc', fun q => if q = p then w3.heap.size else rb q, fun σ => if σ = τ then v' else rv σ, b5, k15.blk _ _ _ hbox1 (by decide), ?_, k05.row h.spn (by decide), k05.row h.ens (by decide), ?_, ?_, fun σ hσ => ?_, ?_, ?_, ?_⟩
 ·rw [hd1]; exact hcom.kt k05 (by decide)
 ·obtain ⟨X, c, h1, h2⟩ := hH
  obtain ⟨cs, hc⟩ := h.bl
  have hc3 := ((kx.mono (S' := [TX, THe, TTh]) (by simp)).trans ((k12.mono (by simp)).trans (k23.mono (by simp)))).blk _ _ _ hc (by decide)
  exact ⟨X, c, h1.kt ((k34.mono (S' := [TQu, TRi]) (by simp)).trans k45) (by decide) hb3 b5 hC.lb ⟨cs, hc3⟩, h2⟩
 ·obtain ⟨cs, hc⟩ := h.bl
  exact ⟨cs, k05.blk _ _ _ hc (by decide)⟩
 ·by_cases hσt : σ = τ
  ·subst hσt
   simp only [if_true]
   refine ⟨N, f, ?_, hN⟩
   rw [q1, List.map_append, hmap, hl]
   simpa using hQ
  ·simp only [if_neg hσt]
   obtain ⟨N', f', h1, h2⟩ := h.qs σ hσ
   rw [q2 σ hσt, hmap]
   refine ⟨N', f', ?_, h2⟩
   exact (h1.kt k04 (by decide)).other hK hF (by omega) hQ.row (fun g hg => h.qd σ τ g hσ hτ hσt hg)
 ·intro a b g ha hb hab hg
  by_cases h1 : a = τ
  ·subst h1
   simp only [if_true] at hg
   rw [if_neg (Ne.symm hab)]
   rcases hnewring g hg with h2 | h2
   ·exact h.qd _ b g ha hb hab h2
   ·intro h3
    have := hold b g hb h3; omega
  ·rw [if_neg h1] at hg
   by_cases h2 : b = τ
   ·subst h2
    rw [if_pos rfl]
    intro h3
    rcases hnewring g h3 with h4 | h4
    ·exact h.qd a _ g ha hb hab hg h4
    ·have := hold a g ha hg; omega
   ·rw [if_neg h2]
    exact h.qd a b g ha hb hab hg
 ·intro q hq hqk
  rw [e] at hq
  by_cases hqp : q = p
  ·subst hqp
   rw [if_pos rfl, hlf]
   exact ⟨by have := hb3.size; omega, A, cc, k45.blk _ _ _ hnew (by decide), hcr⟩
  ·rw [if_neg hqp]
   have hq' : q ∈ C.o.take M.m := by
    rcases List.mem_append.1 hq with hh | hh
    ·exact hh
    ·exact absurd (List.mem_singleton.1 hh) hqp
   exact (h.rs q hq' hqk).kt k05 (by decide)
 ·intro q s hq hqk hs hsk hne
  rw [e] at hq hs
  have key : ∀ q, q ∈ C.o.take M.m ++ [p] → kO M.dn q < (jb C.js q).k → q ≠ p → q ∈ C.o.take M.m ∧ rb q < w.heap.size := by
   intro q hq hqk hqp
   have hq' : q ∈ C.o.take M.m := by
    rcases List.mem_append.1 hq with hh | hh
    ·exact hh
    ·exact absurd (List.mem_singleton.1 hh) hqp
   obtain ⟨A, cc, h1, h2⟩ := (h.rs q hq' hqk).is
   exact ⟨hq', (Array.getElem?_eq_some_iff.1 h1).1⟩
  by_cases h1 : q = p
  ·subst h1
   rw [if_pos rfl, if_neg (Ne.symm hne)]
   have := (key s hs hsk (Ne.symm hne)).2
   omega
  ·rw [if_neg h1]
   by_cases h2 : s = p
   ·subst h2
    rw [if_pos rfl]
    have := (key q hq hqk h1).2
    omega
   ·rw [if_neg h2]
    exact h.rd q s (key q hq hqk h1).1 hqk (key s hs hsk h2).1 hsk hne
end
end
end Go.Proofs.YthfkbbiaemmndaaGreatDoor
