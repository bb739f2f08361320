/- Texts about the program, one after the other: ENew, EUnt, EPre, YPly, YRpl, YAll. -/
import Derived.Laws.MakeOwn
import Derived.WalkKit
import Derived.ProofKit
import Derived.Handy
import Derived.Lib.Hide
import Derived.Deep.MidRow
import Derived.Deep.QuietTactic
import Derived.BigQuiet
import Derived.Deep.RegionHeld3
import Derived.Laws.Externs
import Derived.RangeFuncBox
import Derived.Deep.CutBlock
import Derived.Deep.LoopGhost
import Derived.WalkMore
import Derived.Below
import Derived.LaidMore
import Derived.Laws.AppendOwn
import Derived.Laws.CopyOwn
import Derived.IntWalk
import Derived.OwnWalk
import Derived.Deep.RegionLaw
import Derived.BigRegion
import Derived.Deep.DrawnRows
import Derived.Deep.Quiet
import Derived.Deep.RegionHeldLaw
import Derived.LoopIn
import Derived.LoopNIn
import Derived.TacticsInMore
import Derived.OwnWalkIn
import Derived.RangeFuncNested
import Derived.RangeFuncBound
import Derived.RangeFuncCalls
import Derived.RangeFuncLeaves
import Derived.RangeFuncWrites
import Derived.Shelf.Abstract
import Derived.StillTailTactics
import Derived.Lib.SliceRun
import Derived.Deep.AppendSrc
import Derived.Deep.Upon
import Derived.Deep.DeepAppendWide
import Derived.OrdersIn
import Derived.Sort.LoopGhostIn
import Derived.Shelf.SlGeneric
import Derived.Shelf.Spec.SlicesGrow
import Derived.Ground.Names8Prog
import Derived.Laws.OwnMore
import Derived.Shelf.SlSortCmp.Whole1
import Derived.Ground.SlsfProg
import Derived.Ground.SlgnProg
import Derived.Laws.BytesString
import Derived.RangeFuncRecord
import Derived.MapKept
import Derived.Shelf.SlSortCmp.NoneTotal
import Derived.Shelf.Small.Bits
import Derived.Shelf.Small.Strs
import Derived.Shelf.Small.Wraps
import Derived.Shelf.Strconv.Itoa0
import Derived.Shelf.LaysM
import Derived.Shelf.Strconv.Clone
import Derived.Shelf.Strings.Search1
import Derived.Shelf.Bits.Mul64
import Derived.Ground.Names2Prog
import Derived.Shelf.Slices.SearchI
import Derived.ChangeOld
import Derived.OpenShut
import Derived.Maps.AppendAt
import Derived.Test.YthfkbbiaemmndaaGreatDoorRows
import Derived.Test.YthfkbbiaemmndaaGreatDoorProg
import Derived.Stop.RegionWithIn
import Derived.Deep.CutRange
import Derived.Deep.RegionHeld
import Derived.Laws.ShiftsVarLaws
import Derived.Outline
import Derived.Laws.Bits128
import Derived.Deep.RegionWith
import Derived.Shelf.RegionOpen
import Derived.Laws.AppendOwnNone
import Derived.Test.YthfkbbiaemmndaaGreatDoorG4
import Derived.Test.YthfkbbiaemmndaaGreatDoorG5
import Derived.Test.YthfkbbiaemmndaaGreatDoorG6
import Derived.Test.YthfkbbiaemmndaaGreatDoorG7
import Derived.Test.YthfkbbiaemmndaaGreatDoorG8
import Derived.Test.YthfkbbiaemmndaaGreatDoorG9
import Derived.Test.YthfkbbiaemmndaaGreatDoorG12
import Derived.Test.YthfkbbiaemmndaaGreatDoorG13
import Derived.Test.YthfkbbiaemmndaaGreatDoorG14
import Derived.Test.YthfkbbiaemmndaaGreatDoorG16
import Derived.Test.YthfkbbiaemmndaaGreatDoorG17
import Derived.Test.YthfkbbiaemmndaaGreatDoorG19
import Derived.Test.YthfkbbiaemmndaaGreatDoorG20
import Derived.Test.YthfkbbiaemmndaaGreatDoorG21
import Derived.Test.YthfkbbiaemmndaaGreatDoorG22
set_option linter.unusedVariables false
set_option linter.unusedSimpArgs false
set_option maxRecDepth 100000
set_option maxHeartbeats 16000000
namespace Go.Proofs.YthfkbbiaemmndaaGreatDoor
section
open Go.RowKit
attribute [local go_sem ↓] Go.wp_at_zero Go.wp_at_succ
theorem infoQu : (Tryz.prog.info? TQu).map (fun i => (i.zero, i.size, i.bytes)) = some (some (.agg #[.slice none 0 0, .int .i64 0, .int .i64 0]), 3, 40) := by kernel_rfl
def quCells (n : Nat) : Array Value := madeCells (Value.cells (.agg #[.slice none 0 0, .int .i64 0, .int .i64 0])) (n * 3)
theorem make_qu (n : Nat) (hn : n ≤ 1000) (W : World) : (Instr.makeSlice 144 (.int .i64 (n : Int)) (.int .i64 (n : Int))).run Tryz.prog W = .ok (.slice (some ⟨W.heap.size, 0, none⟩) n n) (W.alloc (.cells (quCells n) TQu)) := by
 obtain ⟨i0, hi, hz0, hz1, hz2⟩ := info_parts infoQu
 have h := run_make (P := Tryz.prog) W 144 TQu i0 _ Tryz.underlying144 hi hz0 .i64 .i64 n n (by omega) (Int.le_refl _) (by rw [hz2]; omega) (by omega)
 simp only [Int.toNat_natCast, hz1] at h
 exact h
abbrev NS (W1 : World) (bl : Nat) (A : Option Addr) (n cap : Nat) (W : World) : Prop := W.cell? ⟨bl, 0, none⟩ = some (.slice A n cap) ∧ Lt W1 W
theorem NS.step {W1 W W' : World} {bl n cap : Nat} {A : Option Addr} (h : NS W1 bl A n cap W) (hl : Lt W W') : NS W1 bl A n cap W' := by
 have hl : Below W.heap.size W W' := hl
 have h2 : Below W1.heap.size W1 W := h.2
 exact ⟨(hl.cell (p := ⟨bl, 0, none⟩) (World.block_lt_of_cell? W _ h.1)).trans h.1, h2.trans (hl.mono h2.size)⟩
structure NwS (W1 : World) (K : LK) (R : Option Addr) (rc : Nat) (ts : List Ts) (js : List Fv) (bx : Nat) (wx : World) : Prop where
 ex : ∃ (o : List Nat) (vc : Value) (gq ge hb Bh : Nat) (X : List Nat), IsOrd (rls js) o ∧ wx.ownsRow W1.heap.size TIn 1 vc (rls js).length (numL (nL o)) ∧ (∃ g, vc = .slice (some ⟨g, 0, none⟩) (rls js).length (rls js).length) ∧
  HsI K Bh wx hb X 0 [] ∧ W1.heap.size ≤ Bh ∧ wx.heap[gq]? = some (Obj.cells (quCells ts.length) TQu (0, 0)) ∧ W1.heap.size ≤ gq ∧ wx.heap[ge]? = some (Obj.cells (madeCells (Value.cells (.int .i64 0)) js.length) T64 (0, 0)) ∧ W1.heap.size ≤ ge ∧
  wx.heap[bx]? = some (Obj.cells #[.slice R js.length rc, vc, .pointer (some ⟨hb, 0, none⟩), .slice (some ⟨gq, 0, none⟩) ts.length ts.length, .int .i64 0, .slice none 0 0, .slice (some ⟨ge, 0, none⟩) js.length js.length] TX (0, 0)) ∧ W1.heap.size ≤ bx ∧ Lt W1 wx
theorem quCells_get {n τ : Nat} (h : τ < n) : (quCells n)[τ * 3]? = some (.slice none 0 0) ∧ (quCells n)[τ * 3 + 1]? = some (.int .i64 0) ∧ (quCells n)[τ * 3 + 2]? = some (.int .i64 0) := by
 have key : ∀ j (hj : j < 3), (quCells n)[τ * 3 + j]? = some ((#[.slice none 0 0, .int .i64 0, .int .i64 0] : Array Value)[j]!) := by
  intro j hj
  unfold quCells madeCells
  have e : Value.cells (.agg #[.slice none 0 0, .int .i64 0, .int .i64 0]) = #[.slice none 0 0, .int .i64 0, .int .i64 0] := rfl
  rw [e, Array.getElem?_map, Array.getElem?_range, if_pos (by omega)]
  simp only [Option.map_some]
  congr 2
  show (τ * 3 + j) % 3 = j
  omega
 exact ⟨key 0 (by omega), key 1 (by omega), key 2 (by omega)⟩
structure JH (ts : List Ts) (js : List Fv) : Prop where
 lg : Lg js
 seq : Seq js
 dist : Dist ts
 t0 : ∀ i, i < js.length → 0 ≤ (jb js i).t ∧ (jb js i).t < ts.length
 bd : ∀ i, i < js.length → (jb js i).r ≤ 35184372088832 ∧ (jb js i).k ≤ 2147483647
 nt : 0 < ts.length
 ft : ts.length ≤ 1000
 fj : js.length ≤ 1000
def NewP (w : World) (R : Option Addr) (rc : Nat) (ts : List Ts) (js : List Fv) (e : Ending) (w' : World) : Prop :=
 ∃ C, e = .returned (.pointer (some ⟨C.bx, 0, none⟩)) ∧ Cok C ∧ C.w0 = w ∧ C.ts = ts ∧ C.js = js ∧ PlI C 0 0 w' ∧ ∀ T, PlI C T 0 w'
theorem new_end {w W1 wc wr : World} {lb lo cap : Nat} {R : Option Addr} {rc : Nat} {ts : List Ts} {js : List Fv} {bx gq ge hb Bh : Nat} {vc : Value} {o X : List Nat} (H : JH ts js) (hR : FRow w R rc js) (hlb : lb < w.heap.size) (B1 : Lt w W1) (hs : W1.heap.size = w.heap.size + 1)
  (hBl : W1.heap[w.heap.size]? = some (Obj.cells #[.slice (some ⟨lb, lo, none⟩) ts.length cap] TTs (0, 0)))
  (n1 : IsOrd (rls js) o) (n2 : wc.ownsRow W1.heap.size TIn 1 vc (rls js).length (numL (nL o))) (n3 : ∃ g, vc = .slice (some ⟨g, 0, none⟩) (rls js).length (rls js).length)
  (n4 : HsI ⟨w.heap.size, lb, lo, cap, ts.map (·.p)⟩ Bh wc hb X 0 []) (n5 : W1.heap.size ≤ Bh) (n6 : wc.heap[gq]? = some (Obj.cells (quCells ts.length) TQu (0, 0))) (n7 : W1.heap.size ≤ gq) (n9 : W1.heap.size ≤ ge) (n8 : wc.heap[ge]? = some (Obj.cells (madeCells (Value.cells (.int .i64 0)) js.length) T64 (0, 0)))
  (n10 : wc.heap[bx]? = some (Obj.cells #[.slice R js.length rc, vc, .pointer (some ⟨hb, 0, none⟩), .slice (some ⟨gq, 0, none⟩) ts.length ts.length, .int .i64 0, .slice none 0 0, .slice (some ⟨ge, 0, none⟩) js.length js.length] TX (0, 0))) (n11 : W1.heap.size ≤ bx) (n12 : Lt W1 wc)
  (hE : EnR wc ge js.length js.length wr) : NewP w R rc ts js (.returned (.pointer (some ⟨bx, 0, none⟩))) wr := by
 have hC : Cok ⟨w, R, rc, ts, js, o, ⟨w.heap.size, lb, lo, cap, ts.map (·.p)⟩, bx, hb, gq, Bh⟩ :=
  ⟨hR, n1, H.fj, H.ft, H.lg, H.seq, H.dist, H.t0, H.bd, rfl, hlb, by simp only; omega, by simp only; omega⟩
 have bc : Below w.heap.size w wc := ltT B1 n12
 have kt : KT [T64] wc wr := KT.kept hE.kp (fun k hk => by rw [List.mem_singleton.1 hk]; exact ⟨_, _, n8, by simp⟩)
 have br : Below w.heap.size w wr := bc.trans (hE.kp.below bc.size (fun k hk => by rw [List.mem_singleton.1 hk]; omega))
 have hbl := heapLt hBl n12
 have hlen : o.length = js.length := by have := n1.len; simpa using this
 have hX : Ex ⟨w, R, rc, ts, js, o, ⟨w.heap.size, lb, lo, cap, ts.map (·.p)⟩, bx, hb, gq, Bh⟩ wr (Cfg.mv ⟨w, R, rc, ts, js, o, ⟨w.heap.size, lb, lo, cap, ts.map (·.p)⟩, bx, hb, gq, Bh⟩ 0 0 []) vc (.slice none 0 0) (.slice (some ⟨ge, 0, none⟩) js.length js.length) (fun _ => 0) (fun _ => .slice none 0 0) (lfN js (List.replicate js.length 0)) := by
  refine ⟨br, kt.blk _ _ _ n10 (by decide), ?_, World.ownsRow_nil _ _ _ _, hE.own (by simp only; omega) H.fj, ⟨X, 0, n4.kt kt (by decide) bc br hlb ⟨_, hbl⟩, Nat.le_refl _⟩, ⟨_, kt.blk _ _ _ hbl (by decide)⟩, fun τ hτ => ?_, fun τ σ g _ _ _ hg => by simp [Value.ownBlock] at hg, fun p hp => by simp [Cfg.mv] at hp, fun p q hp => by simp [Cfg.mv] at hp⟩
  ·obtain ⟨g, rfl⟩ := n3
   obtain ⟨cs, hcs⟩ := own_ty n2 (g := g) rfl
   refine Com.kt (w := wc) ⟨g, 0, cs, by simp [Cfg.mv, hlen], by have := (n2.lt g rfl).1; simp only; omega, hcs, by simp [Cfg.mv, hlen]; exact H.fj, fun j p hp => ?_⟩ kt (by decide)
   simp only [Cfg.mv, List.drop_zero] at hp
   rw [Nat.zero_add]
   exact own_cell n2 rfl (by simp [numL, nL, hp])
  ·obtain ⟨q0, q1, q2⟩ := quCells_get (n := ts.length) hτ
   have hq := kt.blk _ _ _ n6 (by decide)
   refine ⟨0, 0, ⟨by simp only; omega, ⟨_, hq⟩, by rw [cell_of_row _ _ _ _ _ _ hq, q0], by rw [cell_of_row _ _ _ _ _ _ hq, q1]; rfl, by rw [cell_of_row _ _ _ _ _ _ hq, q2]; simp [Cfg.mv, quS], .inl ⟨rfl, rfl, rfl, by simp [Cfg.mv, quS]⟩, by omega⟩, by omega⟩
 have hF : PlF ⟨w, R, rc, ts, js, o, ⟨w.heap.size, lb, lo, cap, ts.map (·.p)⟩, bx, hb, gq, Bh⟩ 0 0 [] := by
  refine ⟨⟨List.Pairwise.nil, fun τ => by simp [quS], by simp⟩, fun i hi => by simp [Cfg.st, tst] at hi, Nat.zero_le _, by simp, fun p hp => ?_⟩
  have hpl : p < js.length := by have := n1.mem.1 (List.mem_of_mem_drop hp); simpa using this
  simp only [Cfg.st, tst]
  exact kO_rep _ _ _ hpl
 exact ⟨_, rfl, hC, rfl, rfl, rfl, ⟨⟨0, [], _, vc, _, _, _, _, hX, fun _ => ⟨rfl, hF⟩⟩, Nat.le_refl _⟩, fun T => ⟨⟨0, [], _, vc, _, _, _, _, hX, fun _ => ⟨rfl, hF⟩⟩, Nat.zero_le _⟩⟩
theorem nws_mk {W1 Wl wf wo wn wq we : World} {K : LK} {R : Option Addr} {rc : Nat} {ts : List Ts} {js : List Fv} {vc : Value} {gq ge hb Bh B0 : Nat} {o : List Nat} {X : List Nat}
  (hwf : wf = Wl.alloc (.cells #[.slice R js.length rc, vc, .pointer (some ⟨hb, 0, none⟩), .slice (some ⟨gq, 0, none⟩) ts.length ts.length, .int .i64 0, .slice none 0 0, .slice (some ⟨ge, 0, none⟩) js.length js.length] TX))
  (hO1 : IsOrd (rls js) o) (hO2 : wo.ownsRow B0 TIn 1 vc (rls js).length (numL (nL o))) (hB0 : W1.heap.size ≤ B0) (lO : Lt wo Wl) (hv : ∃ g, vc = .slice (some ⟨g, 0, none⟩) (rls js).length (rls js).length)
  (hN : HsI K Bh wn hb X 0 []) (lN : Lt wn Wl) (hBh : W1.heap.size ≤ Bh) (hq : wq.heap[gq]? = some (Obj.cells (quCells ts.length) TQu (0, 0))) (lq : Lt wq Wl) (hq2 : W1.heap.size ≤ gq)
  (he : we.heap[ge]? = some (Obj.cells (madeCells (Value.cells (.int .i64 0)) js.length) T64 (0, 0))) (le : Lt we Wl) (he2 : W1.heap.size ≤ ge) (lt : Lt W1 Wl) : NwS W1 K R rc ts js Wl.heap.size wf := by
 subst hwf
 have hl : Lt Wl (Wl.alloc (.cells #[.slice R js.length rc, vc, .pointer (some ⟨hb, 0, none⟩), .slice (some ⟨gq, 0, none⟩) ts.length ts.length, .int .i64 0, .slice none 0 0, .slice (some ⟨ge, 0, none⟩) js.length js.length] TX)) := ltA (ltR _) _
 exact ⟨o, vc, gq, ge, hb, Bh, X, hO1, ownLt (own_mono hO2 hB0) (ltT lO hl), hv, hN.later (ltT lN hl), hBh, heapLt hq (ltT lq hl), hq2, heapLt he (ltT le hl), he2, heap_alloc_new _ _, ltS lt, ltT lt hl⟩
theorem newX_any {A R : Option Addr} {cap rc : Nat} {ts : List Ts} {js : List Fv} (w : World) (hT : Row w A cap ts) (hR : FRow w R rc js) (H : JH ts js) :
  Calls Tryz.prog 85 #[.slice A ts.length cap, .slice R js.length rc] w (NewP w R rc ts js) := by
 have hnt := H.nt
 have hft := H.ft
 have hfj := H.fj
 obtain ⟨lb, lo, x0, rfl, hx0, hxw, hlb, hX0⟩ := hT.get (k := 0) hnt
 obtain ⟨W1, hW1⟩ : ∃ W1, w.alloc (.cells #[.slice (some ⟨lb, lo, none⟩) ts.length cap] 23) = W1 := ⟨_, rfl⟩
 have B1 : Lt w W1 := by rw [← hW1]; exact ltA (ltR w) _
 have cb : W1.cell? ⟨w.heap.size, 0, none⟩ = some (.slice (some ⟨lb, lo, none⟩) ts.length cap) := by rw [← hW1]; exact cell_of_row _ _ 0 _ _ _ (heap_alloc_new w _)
 have hBl : W1.heap[w.heap.size]? = some (Obj.cells #[.slice (some ⟨lb, lo, none⟩) ts.length cap] 23 (0, 0)) := by rw [← hW1]; exact heap_alloc_new w _
 have hs1 : W1.heap.size = w.heap.size + 1 := by rw [← hW1]; simp
 have NS1 : NS W1 w.heap.size (some ⟨lb, lo, none⟩) ts.length cap W1 := ⟨cb, ltR _⟩
 have KO := Lib.hid (fun W (h : NS W1 w.heap.size (some ⟨lb, lo, none⟩) ts.length cap W) => order_any R rc js W (hR.later (ltT B1 h.2)) hfj)
 have LK0 : ∀ W, NS W1 w.heap.size (some ⟨lb, lo, none⟩) ts.length cap W → LessOk ⟨w.heap.size, lb, lo, cap, ts.map (·.p)⟩ W.heap.size W := fun W h => by
  have hl := ltS h.2
  have hTW := hT.later (ltT B1 h.2)
  refine ⟨by simp only; omega, by simp only; omega, Nat.le_refl _, by simp; omega, by simp only [List.length_map]; exact ⟨hT.le, hT.mx⟩, by simp only [List.length_map]; exact h.1, fun i p hp => ?_⟩
  simp only [List.getElem?_map, Option.map_eq_some_iff] at hp
  obtain ⟨x, hx, rfl⟩ := hp
  obtain ⟨b', o', e, ht⟩ := hTW.at_ i x hx
  simp only [Option.some.injEq, Addr.mk.injEq, and_true] at e
  obtain ⟨rfl, rfl⟩ := e
  exact ht.c6
 have KN := Lib.hid (fun W (h : NS W1 w.heap.size (some ⟨lb, lo, none⟩) ts.length cap W) => show Calls Tryz.prog 104 #[.func (.func 105) #[] #[.pointer (some ⟨w.heap.size, 0, none⟩)], .slice none 0 0] W (HNewI ⟨w.heap.size, lb, lo, cap, ts.map (·.p)⟩ 0 [] W) from
  new_anyI (K := ⟨w.heap.size, lb, lo, cap, ts.map (·.p)⟩) (n := 0) (cap := 0) (xs := []) W (LK0 W h) (fun i x hx => by simp at hx) rfl (by omega) (Nat.le_refl _) (by omega))
 obtain ⟨gQ, aQ, MQ, FQ⟩ : ∃ (gQ : World → Nat) (aQ : World → World), (∀ W, (Instr.makeSlice 144 (.int .i64 (ts.length : Int)) (.int .i64 (ts.length : Int))).run Tryz.prog W = .ok (.slice (some ⟨gQ W, 0, none⟩) ts.length ts.length) (aQ W)) ∧ ∀ W, (aQ W).heap[gQ W]? = some (Obj.cells (quCells ts.length) TQu (0, 0)) ∧ W.heap.size ≤ gQ W ∧ Lt W (aQ W) :=
  ⟨_, _, fun W => make_qu ts.length hft W, fun W => ⟨heap_alloc_new W _, Nat.le_refl _, ltA (ltR W) _⟩⟩
 obtain ⟨gE, aE, M6, FE⟩ : ∃ (gE : World → Nat) (aE : World → World), (∀ W, (Instr.makeSlice 42 (.int .i64 (js.length : Int)) (.int .i64 (js.length : Int))).run Tryz.prog W = .ok (.slice (some ⟨gE W, 0, none⟩) js.length js.length) (aE W)) ∧ ∀ W, (aE W).heap[gE W]? = some (Obj.cells (madeCells (Value.cells (.int .i64 0)) js.length) T64 (0, 0)) ∧ W.heap.size ≤ gE W ∧ Lt W (aE W) :=
  ⟨_, _, fun W => make_64 js.length hfj W, fun W => ⟨heap_alloc_new W _, Nat.le_refl _, ltA (ltR W) _⟩⟩
 have FQ := Lib.hid FQ
 have FE := Lib.hid FE
 have HN := Lib.hid NS1
 have END := Lib.hid (fun wc wr (bx gq ge hb Bh : Nat) (vc : Value) (o X : List Nat) => new_end (lo := lo) (cap := cap) (wc := wc) (wr := wr) (bx := bx) (gq := gq) (ge := ge) (hb := hb) (Bh := Bh) (vc := vc) (o := o) (X := X) H hR hlb B1 hs1 hBl)
 clear hT hR NS1 cb LK0 hX0 hs1
 generalize hbl : w.heap.size = bl at *
 go_enter Tryz.func85, Tryz.ntmps85
 go_upto_region 1 with (fail)
 try rw [hW1]
 clear hW1
 have HN0 := Lib.hid (NS.step HN.out (ltD (ltR W1)))
 have FQL : ∀ W, Lt W (aQ W) := fun W => (FQ.out W).2.2
 have FEL : ∀ W, Lt W (aE W) := fun W => (FE.out W).2.2
 go_cut [5] from 7 to 19 (fun s5 wx => ∃ bx, s5 = .pointer (some ⟨bx, 0, none⟩) ∧ NwS W1 ⟨bl, lb, lo, cap, ts.map (·.p)⟩ R rc ts js bx wx)
 case first =>
  go_region_held_law (fun W => NS W1 bl (some ⟨lb, lo, none⟩) ts.length cap W)
   (first | (with_reducible assumption) | (with_reducible exact HN0.out) | (with_reducible exact HNo.out) | (with_reducible exact HNn.out) | exact NS.step (by with_reducible assumption) (FQ.out _).2.2 | exact NS.step (by with_reducible assumption) (FE.out _).2.2 | exact NS.step (by with_reducible assumption) (ltA (ltR _) _) | fail)
   (first
   | (go_at_call 103; (with_reducible refine (KO.out _ (by with_reducible assumption)).mono ?_); rintro e wo ⟨vo, o, rfl, hO1, hO2, hO3, go, hO4⟩; rw [List.length_map] at hO4; subst hO4; have hO3' : Lt _ wo := hO3; have HNo := Lib.hid (NS.step (by with_reducible assumption) hO3))
   | (go_at_call 104; (with_reducible refine (KN.out _ (by with_reducible assumption)).mono ?_); rintro e wn ⟨X, rfl, hN1, hN2⟩; have hN2' : Lt _ wn := hN2; have HNn := Lib.hid (NS.step (by with_reducible assumption) hN2))
   | fail)
  all_goals
   go_wp2_with (fail)
   go_meet
   refine ⟨_, rfl, nws_mk rfl hO1 hO2 ?_ ?_ ⟨go, by rw [List.length_map]⟩ hN1 ?_ ?_ (FQ.out _).1 ?_ ?_ (FE.out _).1 ?_ ?_ ?_⟩
   ·refine ltS ?_
    (repeat (first | exact ltR _ | exact FQL _ | exact FEL _ | refine ltA ?_ _ | refine ltD ?_ | refine ltT ?_ hO3' | refine ltT ?_ hN2' | refine ltT ?_ (FQL _) | refine ltT ?_ (FEL _)))
   ·(repeat (first | exact ltR _ | exact FQL _ | exact FEL _ | refine ltA ?_ _ | refine ltD ?_ | refine ltT ?_ hO3' | refine ltT ?_ hN2' | refine ltT ?_ (FQL _) | refine ltT ?_ (FEL _)))
   ·(repeat (first | exact ltR _ | exact FQL _ | exact FEL _ | refine ltA ?_ _ | refine ltD ?_ | refine ltT ?_ hO3' | refine ltT ?_ hN2' | refine ltT ?_ (FQL _) | refine ltT ?_ (FEL _)))
   ·refine ltS ?_
    (repeat (first | exact ltR _ | exact FQL _ | exact FEL _ | refine ltA ?_ _ | refine ltD ?_ | refine ltT ?_ hO3' | refine ltT ?_ hN2' | refine ltT ?_ (FQL _) | refine ltT ?_ (FEL _)))
   ·(repeat (first | exact ltR _ | exact FQL _ | exact FEL _ | refine ltA ?_ _ | refine ltD ?_ | refine ltT ?_ hO3' | refine ltT ?_ hN2' | refine ltT ?_ (FQL _) | refine ltT ?_ (FEL _)))
   ·refine Nat.le_trans (ltS ?_) (FQ.out _).2.1
    (repeat (first | exact ltR _ | exact FQL _ | exact FEL _ | refine ltA ?_ _ | refine ltD ?_ | refine ltT ?_ hO3' | refine ltT ?_ hN2' | refine ltT ?_ (FQL _) | refine ltT ?_ (FEL _)))
   ·(repeat (first | exact ltR _ | exact FQL _ | exact FEL _ | refine ltA ?_ _ | refine ltD ?_ | refine ltT ?_ hO3' | refine ltT ?_ hN2' | refine ltT ?_ (FQL _) | refine ltT ?_ (FEL _)))
   ·refine Nat.le_trans (ltS ?_) (FE.out _).2.1
    (repeat (first | exact ltR _ | exact FQL _ | exact FEL _ | refine ltA ?_ _ | refine ltD ?_ | refine ltT ?_ hO3' | refine ltT ?_ hN2' | refine ltT ?_ (FQL _) | refine ltT ?_ (FEL _)))
   ·(repeat (first | exact ltR _ | exact FQL _ | exact FEL _ | refine ltA ?_ _ | refine ltD ?_ | refine ltT ?_ hO3' | refine ltT ?_ hN2' | refine ltT ?_ (FQL _) | refine ltT ?_ (FEL _)))
 case rest =>
  obtain ⟨bx, rfl, hN⟩ := hcut
  obtain ⟨o, vc, gq, ge, hb, Bh, X, n1, n2, n3, n4, n5, n6, n7, n8, n9, n10, n11, n12⟩ := hN.ex
  have END2 := Lib.hid (fun wr => END.out wc wr bx gq ge hb Bh vc o X n1 n2 n3 n4 n5 n6 n7 n9 n8 n10 n11 n12)
  have c6 := cell_of_row wc bx 6 _ _ _ n10
  simp only [List.getElem?_toArray, List.getElem?_cons_zero, List.getElem?_cons_succ] at c6
  have hbg : bx ≠ ge := fun e => by
   rw [e, n8] at n10
   simp only [Option.some.injEq, Obj.cells.injEq] at n10
   exact absurd n10.2.1 (by decide)
  have hbxl := World.block_lt_of_cell? wc _ c6
  have E0 := Lib.hid (show EnR wc ge js.length 0 wc from ⟨⟨_, n8, by rw [size_madeCells], fun j hj => absurd hj (by omega)⟩, Kept.refl _ _⟩)
  generalize js.length = n at *
  clear n1 n2 n3 n4 n5 n6 n7 n8 n9 n10 n11 n12 hN END
  go_wp2
  go_loopw [6, 25] (fun v i wr => ∃ k : Nat, k ≤ n ∧ i = .int .i64 (k : Int) ∧ Hid (EnR wc ge n k wr)) (fun _ i _ => n - (intOf i).toNat)
  case atStart => exact ⟨0, Nat.zero_le _, rfl, E0⟩
  case round =>
   obtain ⟨k, hk, rfl, hI⟩ := hrel
   by_cases hlt : k < n
   ·obtain ⟨⟨v, cv⟩, fv⟩ := hI.out.cell hlt
    have d6 := (hI.out.kp.cell (i := 6) hbxl (by simp; exact hbg)).trans c6
    have hi0 : (0 : Int) ≤ (k : Int) := by omega
    have hi1 : (k : Int) < (n : Int) := by omega
    have S := Lib.hid (hI.out.step hlt)
    go_wp2
    go_roundw
    case rel => exact ⟨k + 1, by omega, by go_num, S⟩
    case measure => simp [intOf]; omega
   ·obtain rfl : k = n := by omega
    go_wp2
    go_ret
    exact END2.out _ hI.out
end
section
open Go.RowKit
attribute [local go_sem ↓] Go.wp_at_zero Go.wp_at_succ
def untS (ts : List Ts) (js : List Fv) (T : Nat) : List Spn × List Int := if legS ts js then ((tst ts js T).sp, (tst ts js T).en) else ([], [])
def UntP (r : List Spn × List Int) (w : World) (e : Ending) (w' : World) : Prop := ∃ vs ve, e = .returned (.tuple #[vs, ve]) ∧ w'.ownsRow w.heap.size TSp 3 vs r.1.length (spC r.1) ∧ w'.ownsRow w.heap.size T64 1 ve r.2.length (numL r.2) ∧ Below w.heap.size w w'
theorem jh_of {ts : List Ts} {js : List Fv} (h : legS ts js = true) (hD : Dist ts) (ft : ts.length ≤ 1000) (fj : js.length ≤ 1000) : JH ts js := by
 obtain ⟨h1, h2, h3⟩ := legS_parts h
 have hv := vs_of h1
 have L := ljs_of hv js h3
 refine ⟨lg_of L, seq_of h1 L, hD, fun i hi => ⟨(jb_lj L hi).t0, (jb_lj L hi).t1⟩, fun i hi => ?_, by have := hv.n0; omega, ft, fj⟩
 have l := jb_lj L hi
 have := l.a1
 have := l.r1
 have := l.k1
 have := (hv.tk (jb js i).t).j1
 have := (hv.tk (jb js i).t).c1
 omega
theorem until_any {A R : Option Addr} {cap rc : Nat} {ts : List Ts} {js : List Fv} {en : Int} {T : Nat} (w : World) (hT : Row w A cap ts) (hR : FRow w R rc js) (hD : Dist ts) (ft : ts.length ≤ 1000) (fj : js.length ≤ 1000) (htot : (js.map (·.k)).sum ≤ 1000000000000) (hen : en.toNat = T) (he : en ≤ 9223372036854775807) :
  Calls Tryz.prog 52 #[.slice A ts.length cap, .slice R js.length rc, .int .i64 en] w (UntP (untS ts js T) w) := by
 have LG := legal_any A R cap rc ts js w hT hR
 unfold untS
 cases hl : legS ts js with
 | false =>
   rw [hl] at LG
   have LG := Lib.hid LG
   clear hT hR hD htot hl
   go_enter Tryz.func52, Tryz.ntmps52
   go_wp2_with (go_at_call 38; (with_reducible refine LG.out.mono ?_); rintro e w1 ⟨rfl, hB1⟩)
   refine bodyPost_ret (results_tmp2 rfl _ _ _) rfl ?_
   exact ⟨_, _, rfl, World.ownsRow_nil _ _ _ _, World.ownsRow_nil _ _ _ _, hB1⟩
 | true =>
   rw [hl] at LG
   have LG := Lib.hid LG
   have H := jh_of hl hD ft fj
   have NW := Lib.hid (fun W (hB : Below w.heap.size w W) => newX_any W (hT.later hB) (hR.later hB) H)
   have HT := Lib.hid htot
   have HE := Lib.hid hen
   clear hT hR hD htot hl H hen
   go_enter Tryz.func52, Tryz.ntmps52
   go_upto_region 3 with (go_at_call 38; (with_reducible refine LG.out.mono ?_); rintro e w1 ⟨rfl, hB1⟩)
   have N1 := Lib.hid (NW.out _ hB1)
   go_upto_region 4 with (go_at_call 85; (with_reducible refine N1.out.mono ?_); rintro e w2 ⟨C, rfl, hC, rfl, rfl, rfl, hP0, hP⟩)
   have PL := Lib.hid (play_any hC (hP T) HE.out he HT.out)
   clear hP hP0 N1
   go_upto_region 5 with (go_at_call 86; (with_reducible refine PL.out.mono ?_); rintro e w3 ⟨rfl, M, lf, vc, vs, ve, rb, rv, hX, hs, hee⟩)
   have c5 := hX.c5
   have c6 := hX.c6
   have HX := Lib.hid hX
   have HS := Lib.hid hs
   have HEE := Lib.hid hee
   clear hX hs hee
   go_quiet (fail)
   go_wp2
   refine bodyPost_ret (results_tmp2 rfl _ _ _) rfl ?_
   have hw0 := hB1.size
   have hin := (hC.ti T).le
   refine ⟨_, _, rfl, ?_, ?_, ?_⟩
   ·simp only [if_true]
    have := HX.out.spn
    rw [HS.out] at this
    exact own_mono this hw0
   ·simp only [if_true]
    have := HX.out.ens
    rw [HEE.out] at this
    rw [show (tst C.ts C.js T).en.length = C.js.length from hin]
    exact own_mono this hw0
   ·exact (hB1.trans (HX.out.bel.mono hw0)).trans ((below_drewN2 w3 _).mono (by have := HX.out.bel.size; omega))
end
section
open Go.RowKit
def RunJ (sp : List Spn) (en : List Int) (w : World) (e : Ending) (w' : World) : Prop := ∃ A c B d, e = .returned (.tuple #[.slice A sp.length c, .slice B en.length d]) ∧ SpR w' A c sp ∧ CRow w' B d en ∧ Below w.heap.size w w'
theorem untp_run {sp : List Spn} {en : List Int} {w : World} (he : ∀ x ∈ en, in64 x) (e : Ending) (w' : World) (h : UntP (sp, en) w e w') : RunJ sp en w e w' := by
 obtain ⟨vs, ve, rfl, h1, h2, h3⟩ := h
 obtain ⟨A, c, rfl, F⟩ := spr_own h1
 obtain ⟨B, d, rfl, hn, G, _⟩ := crow_own h2 he
 exact ⟨A, c, B, d, rfl, F, G, h3⟩
theorem until_leg {A R : Option Addr} {cap rc : Nat} {ts : List Ts} {js : List Fv} {en : Int} {T : Nat} (w : World) (hT : Row w A cap ts) (hR : FRow w R rc js) (hD : Dist ts) (ft : ts.length ≤ 1000) (fj : js.length ≤ 1000) (htot : (js.map (·.k)).sum ≤ 1000000000000) (hl : legS ts js = true) (hen : en.toNat = T) (he : en ≤ 9223372036854775807) :
  Calls Tryz.prog 52 #[.slice A ts.length cap, .slice R js.length rc, .int .i64 en] w (RunJ (tst ts js T).sp (tst ts js T).en w) := by
 have h := until_any w hT hR hD ft fj htot hen he
 rw [untS, if_pos hl] at h
 obtain ⟨h1, h2, h3⟩ := legS_parts hl
 exact h.mono (untp_run (en_bd (lg_of (ljs_of (vs_of h1) js h3)) (by omega)))
end
section
open Go.RowKit
structure ScH (l : List Ts) (k : Nat) (y : Ts) : Prop where
 hc : (chkAll l).2 = 0
 hy : l[k]? = some y
 n8 : l.length ≤ 8
 js : (sceneS l (k : Int)).length ≤ 1000
 tot : ((sceneS l (k : Int)).map (·.k)).sum ≤ 1000000000000
section
variable {l : List Ts} {k : Nat} {y : Ts}
theorem ScH.lt (h : ScH l k y) : k < l.length := (List.getElem?_eq_some_iff.1 h.hy).1
theorem ScH.leg (h : ScH l k y) : legS l (sceneS l (k : Int)) = true := scene_leg h.hc (by omega) (by have := h.lt; omega) (by have := h.js; omega)
theorem ScH.lgs (h : ScH l k y) : Lg (sceneS l (k : Int)) := scene_lgs h.hc h.hy
theorem ScH.mid (h : ScH l k y) : jb (sceneS l (k : Int)) (headS l (k : Int)).length = ⟨k, startS l (k : Int) - y.j, startS l (k : Int), y.c, []⟩ ∧ (headS l (k : Int)).length < (sceneS l (k : Int)).length ∧ (headS l (k : Int)).length ≤ 1 := by
 obtain ⟨h1, h2⟩ := scene_m (ts := l) (i := (k : Int))
 rw [tk_get h.hy] at h1
 exact ⟨h1, h2, scene_len.1⟩
theorem ScH.bd (h : ScH l k y) : 1 + y.j ≤ startS l (k : Int) ∧ startS l (k : Int) ≤ 2147483648 ∧ 0 ≤ y.j ∧ y.j ≤ 2147483647 ∧ 1 ≤ y.d ∧ y.d ≤ 2147483647 ∧ 1 ≤ y.d - y.j := by
 obtain ⟨s0, s1, -⟩ := start_bd (i := (k : Int)) (vs_of h.hc)
 rw [tk_get h.hy] at s0
 have v := (vs_of h.hc).all y (List.mem_of_getElem? h.hy)
 have d := chk_d h.hc y (List.mem_of_getElem? h.hy)
 have := v.j0; have := v.j1; have := d.d0; have := d.d1; have := d.cj; have := v.c0
 omega
theorem ScH.plt (h : ScH l k y) : (startS l (k : Int) - y.j + y.d).toNat = plT l (k : Int) := by
 have := h.bd
 unfold plT
 rw [tk_get h.hy]
 omega
theorem ScH.plb (h : ScH l k y) : plT l (k : Int) ≤ 8589934592 := by
 have := h.bd
 rw [← h.plt]
 omega
theorem ScH.ends (h : ScH l k y) : (tst l (sceneS l (k : Int)) (plT l (k : Int))).en.length = (sceneS l (k : Int)).length ∧ (tst l (sceneS l (k : Int)) (plT l (k : Int))).en[(headS l (k : Int)).length]? = some (plE l (k : Int)) ∧ -1 ≤ plE l (k : Int) ∧ plE l (k : Int) ≤ 8589934592 := by
 have hI := ti_all (ts := l) h.lgs (plT l (k : Int))
 obtain ⟨-, m1, -⟩ := h.mid
 have hp := h.plb
 have e : (tst l (sceneS l (k : Int)) (plT l (k : Int))).en[(headS l (k : Int)).length]? = some (plE l (k : Int)) := by
  have : (headS l (k : Int)).length < (tst l (sceneS l (k : Int)) (plT l (k : Int))).en.length := by rw [hI.le]; exact m1
  rw [List.getElem?_eq_getElem this]
  unfold plE kO
  simp [this]
 refine ⟨hI.le, e, ?_⟩
 have := hI.en _ m1
 unfold plE
 omega
theorem ScH.bound (h : ScH l k y) : (0 ≤ plE l (k : Int) ∧ boundI l (k : Int) = (plE l (k : Int) - (startS l (k : Int) - y.j), 0)) ∨ (plE l (k : Int) = -1 ∧ boundI l (k : Int) = (0, 16)) := by
 have hb := h.bd
 rcases play_pure h.hc h.hy with ⟨b0, b1, b2, b3⟩ | ⟨b0, b1, b2⟩
 ·left
  refine ⟨by omega, Prod.ext ?_ b0⟩
  simp only
  omega
 ·exact .inr ⟨b2, Prod.ext b1 b0⟩
variable {A R : Option Addr} {cap rc : Nat}
theorem play_until (h : ScH l k y) (w : World) (hT : Row w A cap l) (hR : FRow w R rc (sceneS l (k : Int))) :
  Calls Tryz.prog 52 #[.slice A l.length cap, .slice R (sceneS l (k : Int)).length rc, .int .i64 (startS l (k : Int) - y.j + y.d)] w (RunJ (tst l (sceneS l (k : Int)) (plT l (k : Int))).sp (tst l (sceneS l (k : Int)) (plT l (k : Int))).en w) :=
 until_leg w hT hR (chk_dist h.hc) (by have := h.n8; omega) h.js h.tot h.leg h.plt (by have := h.bd; omega)
end
end
section
open Go.RowKit
theorem row_cells {w W : World} {b o cap k : Nat} {l : List Ts} {y : Ts} (hR : Row w (some ⟨b, o, none⟩) cap l) (hy : l[k]? = some y) (hb : Below w.heap.size w W) : TAt W b (o + k * 7) y := by
 obtain ⟨b', o', x', e, hx', _, hl, hT⟩ := hR.get (List.getElem?_eq_some_iff.1 hy).1
 cases e
 obtain rfl : y = x' := by rw [hy] at hx'; simpa using hx'
 exact ⟨fun j v hv => (hb.cell (p := ⟨b, o + k * 7 + j, none⟩) hl).trans (hT.r j v hv)⟩
theorem mid_cells {W : World} {A : Option Addr} {cap : Nat} {l : List Ts} {k : Nat} {y : Ts} (h : ScH l k y) (hF : FRow W A cap (sceneS l (k : Int))) : ∃ b1 o1, A = some ⟨b1, o1, none⟩ ∧ b1 < W.heap.size ∧ W.cell? ⟨b1, o1 + (headS l (k : Int)).length * 5 + 1, none⟩ = some (.int .i64 (startS l (k : Int) - y.j)) := by
 obtain ⟨m0, m1, m2⟩ := h.mid
 obtain ⟨b1, o1, x, C, cc, hA, hx, hl, hf⟩ := hF.get m1
 refine ⟨b1, o1, hA, hl, ?_⟩
 have e : x = jb (sceneS l (k : Int)) (headS l (k : Int)).length := (jb_get hx).symm
 rw [m0] at e
 subst e
 exact hf.c1
end
section
open Go.RowKit
structure SmS (l : List Ts) (i M : Int) : Prop where
 n8 : l.length ≤ 8
 js : isB l i = true → (sceneS l i).length ≤ 1000
 tot : isB l i = true → ((sceneS l i).map (·.k)).sum ≤ M
theorem SmS.sch {l : List Ts} {k : Nat} {y : Ts} {M : Int} (h : SmS l (k : Int) M) (hM : M ≤ 1000000000000) (hb : isB l (k : Int) = true) (hy : l[k]? = some y) : ScH l k y :=
 ⟨(isB_iff hb).1, hy, h.n8, h.js hb, by have := h.tot hb; omega⟩
theorem row_at {w : World} {A : Option Addr} {cap : Nat} {l : List Ts} {k : Nat} (hR : Row w A cap l) (hk : k < l.length) : ∃ b o, A = some ⟨b, o, none⟩ := by
 obtain ⟨b, o, x, e, _⟩ := hR.get hk
 exact ⟨b, o, e⟩
theorem bound_not {l : List Ts} {i : Int} (hb : isB l i = false) : boundI l i = (0, 1) := by unfold boundI; rw [hb]; rfl
end
end Go.Proofs.YthfkbbiaemmndaaGreatDoor
