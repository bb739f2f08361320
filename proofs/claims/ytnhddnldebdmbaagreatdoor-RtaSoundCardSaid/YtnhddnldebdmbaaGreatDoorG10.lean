/- Texts about the program, one after the other: ENew, EUnt, EPre, EWrk, ERnf, EUrg, ESnd, DSok, DNd, NBase, NRefs. -/
import Derived.Test.YtnhddnldebdmbaaGreatDoorG9
import Derived.Laws.MakeOwn
import Derived.Test.YtnhddnldebdmbaaGreatDoorG5
import Derived.Test.YtnhddnldebdmbaaGreatDoorG7
import Derived.Test.YtnhddnldebdmbaaGreatDoorG6
import Derived.WalkKit
import Derived.ProofKit
import Derived.Handy
import Derived.Lib.Hide
import Derived.Laws.Externs
import Derived.Test.YtnhddnldebdmbaaGreatDoorG3
/- A new executive. -/
namespace Go.Proofs.YtnhddnldebdmbaaGreatDoor
open Go.RowKit
set_option linter.unusedVariables false
set_option linter.unusedSimpArgs false
attribute [local go_sem ↓] Go.wp_at_zero Go.wp_at_succ
theorem infoQu : (Tryz.prog.info? TQu).map (fun i => (i.zero, i.size, i.bytes)) = some (some (.agg #[.slice none 0 0, .int .i64 0, .int .i64 0]), 3, 40) := by kernel_rfl
def quCells (n : Nat) : Array Value := madeCells (Value.cells (.agg #[.slice none 0 0, .int .i64 0, .int .i64 0])) (n * 3)
theorem make_qu (n : Nat) (hn : n ≤ 1000) (W : World) : (Instr.makeSlice 65 (.int .i64 (n : Int)) (.int .i64 (n : Int))).run Tryz.prog W = .ok (.slice (some ⟨W.heap.size, 0, none⟩) n n) (W.alloc (.cells (quCells n) TQu)) := by
  obtain ⟨i0, hi, hz0, hz1, hz2⟩ := info_parts infoQu
  have h := run_make (P := Tryz.prog) W 65 TQu i0 _ Tryz.underlying65 hi hz0 .i64 .i64 n n (by omega) (Int.le_refl _) (by rw [hz2]; omega) (by omega)
  simp only [Int.toNat_natCast, hz1] at h
  exact h
abbrev NS (W1 : World) (bl : Nat) (A : Option Addr) (n cap : Nat) (W : World) : Prop := W.cell? ⟨bl, 0, none⟩ = some (.slice A n cap) ∧ Lt W1 W
theorem NS.step {W1 W W' : World} {bl n cap : Nat} {A : Option Addr} (h : NS W1 bl A n cap W) (hl : Lt W W') : NS W1 bl A n cap W' := by
  have hl : Below W.heap.size W W' := hl
  have h2 : Below W1.heap.size W1 W := h.2
  exact ⟨(hl.cell (p := ⟨bl, 0, none⟩) (World.block_lt_of_cell? W _ h.1)).trans h.1, h2.trans (hl.mono h2.size)⟩
/-- What newExecutive has made. -/
structure NwS (W1 : World) (K : LK) (R : Option Addr) (rc : Nat) (ts : List Ts) (js : List Fv) (bx : Nat) (wx : World) : Prop where
  ex : ∃ (o : List Nat) (vc : Value) (gq ge hb Bh : Nat) (X : List Nat), IsOrd (rls js) o ∧ wx.ownsRow W1.heap.size TIn 1 vc (rls js).length (numL (nL o)) ∧ (∃ g, vc = .slice (some ⟨g, 0, none⟩) (rls js).length (rls js).length) ∧
    HsI K Bh wx hb X 0 [] ∧ W1.heap.size ≤ Bh ∧ wx.heap[gq]? = some (Obj.cells (quCells ts.length) TQu (0, 0)) ∧ W1.heap.size ≤ gq ∧ wx.heap[ge]? = some (Obj.cells (madeCells (Value.cells (.int .i64 0)) js.length) T64 (0, 0)) ∧ W1.heap.size ≤ ge ∧
    wx.heap[bx]? = some (Obj.cells #[.slice R js.length rc, vc, .pointer (some ⟨hb, 0, none⟩), .slice (some ⟨gq, 0, none⟩) ts.length ts.length, .int .i64 0, .slice none 0 0, .slice (some ⟨ge, 0, none⟩) js.length js.length] TX (0, 0)) ∧ W1.heap.size ≤ bx ∧ Lt W1 wx
theorem quCells_get {n τ : Nat} (h : τ < n) : (quCells n)[τ * 3]? = some (.slice none 0 0) ∧ (quCells n)[τ * 3 + 1]? = some (.int .i64 0) ∧ (quCells n)[τ * 3 + 2]? = some (.int .i64 0) := by
  have key : ∀ j (hj : j < 3), (quCells n)[τ * 3 + j]? = some ((#[.slice none 0 0, .int .i64 0, .int .i64 0] : Array Value)[j]!) := by
    intro j hj
    unfold quCells madeCells
    have e : Value.cells (.agg #[.slice none 0 0, .int .i64 0, .int .i64 0]) = #[.slice none 0 0, .int .i64 0, .int .i64 0] := rfl
    rw [e, Array.getElem?_map, Array.getElem?_range, if_pos (by omega)]
    simp only [Option.map_some]
    congr 2
    show (τ * 3 + j) % 3 = j
    omega
  exact ⟨key 0 (by omega), key 1 (by omega), key 2 (by omega)⟩
structure JH (ts : List Ts) (js : List Fv) : Prop where
  lg : Lg js
  seq : Seq js
  dist : Dist ts
  t0 : ∀ i, i < js.length → 0 ≤ (jb js i).t ∧ (jb js i).t < ts.length
  bd : ∀ i, i < js.length → (jb js i).r ≤ 35184372088832 ∧ (jb js i).k ≤ 2147483647
  nt : 0 < ts.length
  ft : ts.length ≤ 1000
  fj : js.length ≤ 1000
def NewP (w : World) (R : Option Addr) (rc : Nat) (ts : List Ts) (js : List Fv) (e : Ending) (w' : World) : Prop :=
  ∃ C, e = .returned (.pointer (some ⟨C.bx, 0, none⟩)) ∧ Cok C ∧ C.w0 = w ∧ C.ts = ts ∧ C.js = js ∧ PlI C 0 0 w' ∧ ∀ T, PlI C T 0 w'
theorem new_end {w W1 wc wr : World} {lb lo cap : Nat} {R : Option Addr} {rc : Nat} {ts : List Ts} {js : List Fv} {bx gq ge hb Bh : Nat} {vc : Value} {o X : List Nat} (H : JH ts js) (hR : FRow w R rc js) (hlb : lb < w.heap.size) (B1 : Lt w W1) (hs : W1.heap.size = w.heap.size + 1)
    (hBl : W1.heap[w.heap.size]? = some (Obj.cells #[.slice (some ⟨lb, lo, none⟩) ts.length cap] TTs (0, 0)))
    (n1 : IsOrd (rls js) o) (n2 : wc.ownsRow W1.heap.size TIn 1 vc (rls js).length (numL (nL o))) (n3 : ∃ g, vc = .slice (some ⟨g, 0, none⟩) (rls js).length (rls js).length)
    (n4 : HsI ⟨w.heap.size, lb, lo, cap, ts.map (·.p)⟩ Bh wc hb X 0 []) (n5 : W1.heap.size ≤ Bh) (n6 : wc.heap[gq]? = some (Obj.cells (quCells ts.length) TQu (0, 0))) (n7 : W1.heap.size ≤ gq) (n9 : W1.heap.size ≤ ge) (n8 : wc.heap[ge]? = some (Obj.cells (madeCells (Value.cells (.int .i64 0)) js.length) T64 (0, 0)))
    (n10 : wc.heap[bx]? = some (Obj.cells #[.slice R js.length rc, vc, .pointer (some ⟨hb, 0, none⟩), .slice (some ⟨gq, 0, none⟩) ts.length ts.length, .int .i64 0, .slice none 0 0, .slice (some ⟨ge, 0, none⟩) js.length js.length] TX (0, 0))) (n11 : W1.heap.size ≤ bx) (n12 : Lt W1 wc)
    (hE : EnR wc ge js.length js.length wr) : NewP w R rc ts js (.returned (.pointer (some ⟨bx, 0, none⟩))) wr := by
  have hC : Cok ⟨w, R, rc, ts, js, o, ⟨w.heap.size, lb, lo, cap, ts.map (·.p)⟩, bx, hb, gq, Bh⟩ :=
    ⟨hR, n1, H.fj, H.ft, H.lg, H.seq, H.dist, H.t0, H.bd, rfl, hlb, by simp only; omega, by simp only; omega⟩
  have bc : Below w.heap.size w wc := ltT B1 n12
  have kt : KT [T64] wc wr := KT.kept hE.kp (fun k hk => by rw [List.mem_singleton.1 hk]; exact ⟨_, _, n8, by simp⟩)
  have br : Below w.heap.size w wr := bc.trans (hE.kp.below bc.size (fun k hk => by rw [List.mem_singleton.1 hk]; omega))
  have hbl := heapLt hBl n12
  have hlen : o.length = js.length := by have := n1.len; simpa using this
  have hX : Ex ⟨w, R, rc, ts, js, o, ⟨w.heap.size, lb, lo, cap, ts.map (·.p)⟩, bx, hb, gq, Bh⟩ wr (Cfg.mv ⟨w, R, rc, ts, js, o, ⟨w.heap.size, lb, lo, cap, ts.map (·.p)⟩, bx, hb, gq, Bh⟩ 0 0 []) vc (.slice none 0 0) (.slice (some ⟨ge, 0, none⟩) js.length js.length) (fun _ => 0) (fun _ => .slice none 0 0) (lfN js (List.replicate js.length 0)) := by
    refine ⟨br, kt.blk _ _ _ n10 (by decide), ?_, World.ownsRow_nil _ _ _ _, hE.own (by simp only; omega) H.fj, ⟨X, 0, n4.kt kt (by decide) bc br hlb ⟨_, hbl⟩, Nat.le_refl _⟩, ⟨_, kt.blk _ _ _ hbl (by decide)⟩, fun τ hτ => ?_, fun τ σ g _ _ _ hg => by simp [Value.ownBlock] at hg, fun p hp => by simp [Cfg.mv] at hp, fun p q hp => by simp [Cfg.mv] at hp⟩
    · obtain ⟨g, rfl⟩ := n3
      obtain ⟨cs, hcs⟩ := own_ty n2 (g := g) rfl
      refine Com.kt (w := wc) ⟨g, 0, cs, by simp [Cfg.mv, hlen], by have := (n2.lt g rfl).1; simp only; omega, hcs, by simp [Cfg.mv, hlen]; exact H.fj, fun j p hp => ?_⟩ kt (by decide)
      simp only [Cfg.mv, List.drop_zero] at hp
      rw [Nat.zero_add]
      exact own_cell n2 rfl (by simp [numL, nL, hp])
    · obtain ⟨q0, q1, q2⟩ := quCells_get (n := ts.length) hτ
      have hq := kt.blk _ _ _ n6 (by decide)
      refine ⟨0, 0, ⟨by simp only; omega, ⟨_, hq⟩, by rw [cell_of_row _ _ _ _ _ _ hq, q0], by rw [cell_of_row _ _ _ _ _ _ hq, q1]; rfl, by rw [cell_of_row _ _ _ _ _ _ hq, q2]; simp [Cfg.mv, quS], .inl ⟨rfl, rfl, rfl, by simp [Cfg.mv, quS]⟩, by omega⟩, by omega⟩
  have hF : PlF ⟨w, R, rc, ts, js, o, ⟨w.heap.size, lb, lo, cap, ts.map (·.p)⟩, bx, hb, gq, Bh⟩ 0 0 [] := by
    refine ⟨⟨List.Pairwise.nil, fun τ => by simp [quS], by simp⟩, fun i hi => by simp [Cfg.st, tst] at hi, Nat.zero_le _, by simp, fun p hp => ?_⟩
    have hpl : p < js.length := by have := n1.mem.1 (List.mem_of_mem_drop hp); simpa using this
    simp only [Cfg.st, tst]
    exact kO_rep _ _ _ hpl
  exact ⟨_, rfl, hC, rfl, rfl, rfl, ⟨⟨0, [], _, vc, _, _, _, _, hX, fun _ => ⟨rfl, hF⟩⟩, Nat.le_refl _⟩, fun T => ⟨⟨0, [], _, vc, _, _, _, _, hX, fun _ => ⟨rfl, hF⟩⟩, Nat.zero_le _⟩⟩
theorem nws_mk {W1 Wl wf wo wn wq we : World} {K : LK} {R : Option Addr} {rc : Nat} {ts : List Ts} {js : List Fv} {vc : Value} {gq ge hb Bh B0 : Nat} {o : List Nat} {X : List Nat}
    (hwf : wf = Wl.alloc (.cells #[.slice R js.length rc, vc, .pointer (some ⟨hb, 0, none⟩), .slice (some ⟨gq, 0, none⟩) ts.length ts.length, .int .i64 0, .slice none 0 0, .slice (some ⟨ge, 0, none⟩) js.length js.length] TX))
    (hO1 : IsOrd (rls js) o) (hO2 : wo.ownsRow B0 TIn 1 vc (rls js).length (numL (nL o))) (hB0 : W1.heap.size ≤ B0) (lO : Lt wo Wl) (hv : ∃ g, vc = .slice (some ⟨g, 0, none⟩) (rls js).length (rls js).length)
    (hN : HsI K Bh wn hb X 0 []) (lN : Lt wn Wl) (hBh : W1.heap.size ≤ Bh) (hq : wq.heap[gq]? = some (Obj.cells (quCells ts.length) TQu (0, 0))) (lq : Lt wq Wl) (hq2 : W1.heap.size ≤ gq)
    (he : we.heap[ge]? = some (Obj.cells (madeCells (Value.cells (.int .i64 0)) js.length) T64 (0, 0))) (le : Lt we Wl) (he2 : W1.heap.size ≤ ge) (lt : Lt W1 Wl) : NwS W1 K R rc ts js Wl.heap.size wf := by
  subst hwf
  have hl : Lt Wl (Wl.alloc (.cells #[.slice R js.length rc, vc, .pointer (some ⟨hb, 0, none⟩), .slice (some ⟨gq, 0, none⟩) ts.length ts.length, .int .i64 0, .slice none 0 0, .slice (some ⟨ge, 0, none⟩) js.length js.length] TX)) := ltA (ltR _) _
  exact ⟨o, vc, gq, ge, hb, Bh, X, hO1, ownLt (own_mono hO2 hB0) (ltT lO hl), hv, hN.later (ltT lN hl), hBh, heapLt hq (ltT lq hl), hq2, heapLt he (ltT le hl), he2, heap_alloc_new _ _, ltS lt, ltT lt hl⟩
set_option maxRecDepth 100000 in
set_option maxHeartbeats 16000000 in
theorem newX_any {A R : Option Addr} {cap rc : Nat} {ts : List Ts} {js : List Fv} (w : World) (hT : Row w A cap ts) (hR : FRow w R rc js) (H : JH ts js) :
    Calls Tryz.prog 22 #[.slice A ts.length cap, .slice R js.length rc] w (NewP w R rc ts js) := by
  have hnt := H.nt
  have hft := H.ft
  have hfj := H.fj
  obtain ⟨lb, lo, x0, rfl, hx0, hxw, hlb, hX0⟩ := hT.get (k := 0) hnt
  obtain ⟨W1, hW1⟩ : ∃ W1, w.alloc (.cells #[.slice (some ⟨lb, lo, none⟩) ts.length cap] 25) = W1 := ⟨_, rfl⟩
  have B1 : Lt w W1 := by rw [← hW1]; exact ltA (ltR w) _
  have cb : W1.cell? ⟨w.heap.size, 0, none⟩ = some (.slice (some ⟨lb, lo, none⟩) ts.length cap) := by rw [← hW1]; exact cell_of_row _ _ 0 _ _ _ (heap_alloc_new w _)
  have hBl : W1.heap[w.heap.size]? = some (Obj.cells #[.slice (some ⟨lb, lo, none⟩) ts.length cap] 25 (0, 0)) := by rw [← hW1]; exact heap_alloc_new w _
  have hs1 : W1.heap.size = w.heap.size + 1 := by rw [← hW1]; simp
  have NS1 : NS W1 w.heap.size (some ⟨lb, lo, none⟩) ts.length cap W1 := ⟨cb, ltR _⟩
  have KO := Lib.hid (fun W (h : NS W1 w.heap.size (some ⟨lb, lo, none⟩) ts.length cap W) => order_any R rc js W (hR.later (ltT B1 h.2)) hfj)
  have LK0 : ∀ W, NS W1 w.heap.size (some ⟨lb, lo, none⟩) ts.length cap W → LessOk ⟨w.heap.size, lb, lo, cap, ts.map (·.p)⟩ W.heap.size W := fun W h => by
    have hl := ltS h.2
    have hTW := hT.later (ltT B1 h.2)
    refine ⟨by simp only; omega, by simp only; omega, Nat.le_refl _, by simp; omega, by simp only [List.length_map]; exact ⟨hT.le, hT.mx⟩, by simp only [List.length_map]; exact h.1, fun i p hp => ?_⟩
    simp only [List.getElem?_map, Option.map_eq_some_iff] at hp
    obtain ⟨x, hx, rfl⟩ := hp
    obtain ⟨b', o', e, ht⟩ := hTW.at_ i x hx
    simp only [Option.some.injEq, Addr.mk.injEq, and_true] at e
    obtain ⟨rfl, rfl⟩ := e
    exact ht.c6
  have KN := Lib.hid (fun W (h : NS W1 w.heap.size (some ⟨lb, lo, none⟩) ts.length cap W) => show Calls Tryz.prog 41 #[.func (.func 42) #[] #[.pointer (some ⟨w.heap.size, 0, none⟩)], .slice none 0 0] W (HNewI ⟨w.heap.size, lb, lo, cap, ts.map (·.p)⟩ 0 [] W) from
    new_anyI (K := ⟨w.heap.size, lb, lo, cap, ts.map (·.p)⟩) (n := 0) (cap := 0) (xs := []) W (LK0 W h) (fun i x hx => by simp at hx) rfl (by omega) (Nat.le_refl _) (by omega))
  obtain ⟨gQ, aQ, MQ, FQ⟩ : ∃ (gQ : World → Nat) (aQ : World → World), (∀ W, (Instr.makeSlice 65 (.int .i64 (ts.length : Int)) (.int .i64 (ts.length : Int))).run Tryz.prog W = .ok (.slice (some ⟨gQ W, 0, none⟩) ts.length ts.length) (aQ W)) ∧ ∀ W, (aQ W).heap[gQ W]? = some (Obj.cells (quCells ts.length) TQu (0, 0)) ∧ W.heap.size ≤ gQ W ∧ Lt W (aQ W) :=
    ⟨_, _, fun W => make_qu ts.length hft W, fun W => ⟨heap_alloc_new W _, Nat.le_refl _, ltA (ltR W) _⟩⟩
  obtain ⟨gE, aE, M6, FE⟩ : ∃ (gE : World → Nat) (aE : World → World), (∀ W, (Instr.makeSlice 31 (.int .i64 (js.length : Int)) (.int .i64 (js.length : Int))).run Tryz.prog W = .ok (.slice (some ⟨gE W, 0, none⟩) js.length js.length) (aE W)) ∧ ∀ W, (aE W).heap[gE W]? = some (Obj.cells (madeCells (Value.cells (.int .i64 0)) js.length) T64 (0, 0)) ∧ W.heap.size ≤ gE W ∧ Lt W (aE W) :=
    ⟨_, _, fun W => make_64 js.length hfj W, fun W => ⟨heap_alloc_new W _, Nat.le_refl _, ltA (ltR W) _⟩⟩
  have FQ := Lib.hid FQ
  have FE := Lib.hid FE
  have HN := Lib.hid NS1
  have END := Lib.hid (fun wc wr (bx gq ge hb Bh : Nat) (vc : Value) (o X : List Nat) => new_end (lo := lo) (cap := cap) (wc := wc) (wr := wr) (bx := bx) (gq := gq) (ge := ge) (hb := hb) (Bh := Bh) (vc := vc) (o := o) (X := X) H hR hlb B1 hs1 hBl)
  clear hT hR NS1 cb LK0 hX0 hs1
  generalize hbl : w.heap.size = bl at *
  go_enter Tryz.func22, Tryz.ntmps22
  go_upto_region 1 with (fail)
  try rw [hW1]
  clear hW1
  have HN0 := Lib.hid (NS.step HN.out (ltD (ltR W1)))
  have FQL : ∀ W, Lt W (aQ W) := fun W => (FQ.out W).2.2
  have FEL : ∀ W, Lt W (aE W) := fun W => (FE.out W).2.2
  go_cut [5] from 7 to 19 (fun s5 wx => ∃ bx, s5 = .pointer (some ⟨bx, 0, none⟩) ∧ NwS W1 ⟨bl, lb, lo, cap, ts.map (·.p)⟩ R rc ts js bx wx)
  case first =>
    go_region_held_law (fun W => NS W1 bl (some ⟨lb, lo, none⟩) ts.length cap W)
      (first | (with_reducible assumption) | (with_reducible exact HN0.out) | (with_reducible exact HNo.out) | (with_reducible exact HNn.out) | exact NS.step (by with_reducible assumption) (FQ.out _).2.2 | exact NS.step (by with_reducible assumption) (FE.out _).2.2 | exact NS.step (by with_reducible assumption) (ltA (ltR _) _) | fail)
      (first
      | (go_at_call 40; (with_reducible refine (KO.out _ (by with_reducible assumption)).mono ?_); rintro e wo ⟨vo, o, rfl, hO1, hO2, hO3, go, hO4⟩; rw [List.length_map] at hO4; subst hO4; have hO3' : Lt _ wo := hO3; have HNo := Lib.hid (NS.step (by with_reducible assumption) hO3))
      | (go_at_call 41; (with_reducible refine (KN.out _ (by with_reducible assumption)).mono ?_); rintro e wn ⟨X, rfl, hN1, hN2⟩; have hN2' : Lt _ wn := hN2; have HNn := Lib.hid (NS.step (by with_reducible assumption) hN2))
      | fail)
    all_goals
      go_wp2_with (fail)
      go_meet
      refine ⟨_, rfl, nws_mk rfl hO1 hO2 ?_ ?_ ⟨go, by rw [List.length_map]⟩ hN1 ?_ ?_ (FQ.out _).1 ?_ ?_ (FE.out _).1 ?_ ?_ ?_⟩
      · refine ltS ?_
        (repeat (first | exact ltR _ | exact FQL _ | exact FEL _ | refine ltA ?_ _ | refine ltD ?_ | refine ltT ?_ hO3' | refine ltT ?_ hN2' | refine ltT ?_ (FQL _) | refine ltT ?_ (FEL _)))
      · (repeat (first | exact ltR _ | exact FQL _ | exact FEL _ | refine ltA ?_ _ | refine ltD ?_ | refine ltT ?_ hO3' | refine ltT ?_ hN2' | refine ltT ?_ (FQL _) | refine ltT ?_ (FEL _)))
      · (repeat (first | exact ltR _ | exact FQL _ | exact FEL _ | refine ltA ?_ _ | refine ltD ?_ | refine ltT ?_ hO3' | refine ltT ?_ hN2' | refine ltT ?_ (FQL _) | refine ltT ?_ (FEL _)))
      · refine ltS ?_
        (repeat (first | exact ltR _ | exact FQL _ | exact FEL _ | refine ltA ?_ _ | refine ltD ?_ | refine ltT ?_ hO3' | refine ltT ?_ hN2' | refine ltT ?_ (FQL _) | refine ltT ?_ (FEL _)))
      · (repeat (first | exact ltR _ | exact FQL _ | exact FEL _ | refine ltA ?_ _ | refine ltD ?_ | refine ltT ?_ hO3' | refine ltT ?_ hN2' | refine ltT ?_ (FQL _) | refine ltT ?_ (FEL _)))
      · refine Nat.le_trans (ltS ?_) (FQ.out _).2.1
        (repeat (first | exact ltR _ | exact FQL _ | exact FEL _ | refine ltA ?_ _ | refine ltD ?_ | refine ltT ?_ hO3' | refine ltT ?_ hN2' | refine ltT ?_ (FQL _) | refine ltT ?_ (FEL _)))
      · (repeat (first | exact ltR _ | exact FQL _ | exact FEL _ | refine ltA ?_ _ | refine ltD ?_ | refine ltT ?_ hO3' | refine ltT ?_ hN2' | refine ltT ?_ (FQL _) | refine ltT ?_ (FEL _)))
      · refine Nat.le_trans (ltS ?_) (FE.out _).2.1
        (repeat (first | exact ltR _ | exact FQL _ | exact FEL _ | refine ltA ?_ _ | refine ltD ?_ | refine ltT ?_ hO3' | refine ltT ?_ hN2' | refine ltT ?_ (FQL _) | refine ltT ?_ (FEL _)))
      · (repeat (first | exact ltR _ | exact FQL _ | exact FEL _ | refine ltA ?_ _ | refine ltD ?_ | refine ltT ?_ hO3' | refine ltT ?_ hN2' | refine ltT ?_ (FQL _) | refine ltT ?_ (FEL _)))
  case rest =>
    obtain ⟨bx, rfl, hN⟩ := hcut
    obtain ⟨o, vc, gq, ge, hb, Bh, X, n1, n2, n3, n4, n5, n6, n7, n8, n9, n10, n11, n12⟩ := hN.ex
    have END2 := Lib.hid (fun wr => END.out wc wr bx gq ge hb Bh vc o X n1 n2 n3 n4 n5 n6 n7 n9 n8 n10 n11 n12)
    have c6 := cell_of_row wc bx 6 _ _ _ n10
    simp only [List.getElem?_toArray, List.getElem?_cons_zero, List.getElem?_cons_succ] at c6
    have hbg : bx ≠ ge := fun e => by
      rw [e, n8] at n10
      simp only [Option.some.injEq, Obj.cells.injEq] at n10
      exact absurd n10.2.1 (by decide)
    have hbxl := World.block_lt_of_cell? wc _ c6
    have E0 := Lib.hid (show EnR wc ge js.length 0 wc from ⟨⟨_, n8, by rw [size_madeCells], fun j hj => absurd hj (by omega)⟩, Kept.refl _ _⟩)
    generalize js.length = n at *
    clear n1 n2 n3 n4 n5 n6 n7 n8 n9 n10 n11 n12 hN END
    go_wp2
    go_loopw [6, 25] (fun v i wr => ∃ k : Nat, k ≤ n ∧ i = .int .i64 (k : Int) ∧ Hid (EnR wc ge n k wr)) (fun _ i _ => n - (intOf i).toNat)
    case atStart => exact ⟨0, Nat.zero_le _, rfl, E0⟩
    case round =>
      obtain ⟨k, hk, rfl, hI⟩ := hrel
      by_cases hlt : k < n
      · obtain ⟨⟨v, cv⟩, fv⟩ := hI.out.cell hlt
        have d6 := (hI.out.kp.cell (i := 6) hbxl (by simp; exact hbg)).trans c6
        have hi0 : (0 : Int) ≤ (k : Int) := by omega
        have hi1 : (k : Int) < (n : Int) := by omega
        have S := Lib.hid (hI.out.step hlt)
        go_wp2
        go_roundw
        case rel => exact ⟨k + 1, by omega, by go_num, S⟩
        case measure => simp [intOf]; omega
      · obtain rfl : k = n := by omega
        go_wp2
        go_ret
        exact END2.out _ hI.out
end Go.Proofs.YtnhddnldebdmbaaGreatDoor
/- Until, Run: what the program tells. -/
namespace Go.Proofs.YtnhddnldebdmbaaGreatDoor
open Go.RowKit
set_option linter.unusedVariables false
set_option linter.unusedSimpArgs false
attribute [local go_sem ↓] Go.wp_at_zero Go.wp_at_succ
/-- Spans, and ends, up to a tick. -/
def untS (ts : List Ts) (js : List Fv) (T : Nat) : List Spn × List Int := if legS ts js then ((tst ts js T).sp, (tst ts js T).en) else ([], [])
def UntP (r : List Spn × List Int) (w : World) (e : Ending) (w' : World) : Prop := ∃ vs ve, e = .returned (.tuple #[vs, ve]) ∧ w'.ownsRow w.heap.size TSp 3 vs r.1.length (spC r.1) ∧ w'.ownsRow w.heap.size T64 1 ve r.2.length (numL r.2) ∧ Below w.heap.size w w'
theorem jh_of {ts : List Ts} {js : List Fv} (h : legS ts js = true) (hD : Dist ts) (ft : ts.length ≤ 1000) (fj : js.length ≤ 1000) : JH ts js := by
  obtain ⟨h1, h2, h3⟩ := legS_parts h
  have hv := vs_of h1
  have L := ljs_of hv js h3
  refine ⟨lg_of L, seq_of h1 L, hD, fun i hi => ⟨(jb_lj L hi).t0, (jb_lj L hi).t1⟩, fun i hi => ?_, by have := hv.n0; omega, ft, fj⟩
  have l := jb_lj L hi
  have := l.a1
  have := l.r1
  have := l.k1
  have := (hv.tk (jb js i).t).j1
  have := (hv.tk (jb js i).t).c1
  omega
set_option maxRecDepth 100000 in
set_option maxHeartbeats 8000000 in
theorem until_any {A R : Option Addr} {cap rc : Nat} {ts : List Ts} {js : List Fv} {en : Int} {T : Nat} (w : World) (hT : Row w A cap ts) (hR : FRow w R rc js) (hD : Dist ts) (ft : ts.length ≤ 1000) (fj : js.length ≤ 1000) (htot : (js.map (·.k)).sum ≤ 1000000000) (hen : en.toNat = T) (he : en ≤ 9223372036854775807) :
    Calls Tryz.prog 17 #[.slice A ts.length cap, .slice R js.length rc, .int .i64 en] w (UntP (untS ts js T) w) := by
  have LG := legal_any A R cap rc ts js w hT hR
  unfold untS
  cases hl : legS ts js with
  | false =>
    rw [hl] at LG
    have LG := Lib.hid LG
    clear hT hR hD htot hl
    go_enter Tryz.func17, Tryz.ntmps17
    go_wp2_with (go_at_call 21; (with_reducible refine LG.out.mono ?_); rintro e w1 ⟨rfl, hB1⟩)
    refine bodyPost_ret (results_tmp2 rfl _ _ _) rfl ?_
    exact ⟨_, _, rfl, World.ownsRow_nil _ _ _ _, World.ownsRow_nil _ _ _ _, hB1⟩
  | true =>
    rw [hl] at LG
    have LG := Lib.hid LG
    have H := jh_of hl hD ft fj
    have NW := Lib.hid (fun W (hB : Below w.heap.size w W) => newX_any W (hT.later hB) (hR.later hB) H)
    have HT := Lib.hid htot
    have HE := Lib.hid hen
    clear hT hR hD htot hl H hen
    go_enter Tryz.func17, Tryz.ntmps17
    go_upto_region 3 with (go_at_call 21; (with_reducible refine LG.out.mono ?_); rintro e w1 ⟨rfl, hB1⟩)
    have N1 := Lib.hid (NW.out _ hB1)
    go_upto_region 4 with (go_at_call 22; (with_reducible refine N1.out.mono ?_); rintro e w2 ⟨C, rfl, hC, rfl, rfl, rfl, hP0, hP⟩)
    have PL := Lib.hid (play_any hC (hP T) HE.out he HT.out)
    clear hP hP0 N1
    go_upto_region 5 with (go_at_call 23; (with_reducible refine PL.out.mono ?_); rintro e w3 ⟨rfl, M, lf, vc, vs, ve, rb, rv, hX, hs, hee⟩)
    have c5 := hX.c5
    have c6 := hX.c6
    have HX := Lib.hid hX
    have HS := Lib.hid hs
    have HEE := Lib.hid hee
    clear hX hs hee
    go_quiet (fail)
    go_wp2
    refine bodyPost_ret (results_tmp2 rfl _ _ _) rfl ?_
    have hw0 := hB1.size
    have hin := (hC.ti T).le
    refine ⟨_, _, rfl, ?_, ?_, ?_⟩
    · simp only [if_true]
      have := HX.out.spn
      rw [HS.out] at this
      exact own_mono this hw0
    · simp only [if_true]
      have := HX.out.ens
      rw [HEE.out] at this
      rw [show (tst C.ts C.js T).en.length = C.js.length from hin]
      exact own_mono this hw0
    · exact (hB1.trans (HX.out.bel.mono hw0)).trans ((below_drewN2 w3 _).mono (by have := HX.out.bel.size; omega))
set_option maxRecDepth 100000 in
set_option maxHeartbeats 8000000 in
theorem run_any {A R : Option Addr} {cap rc : Nat} {ts : List Ts} {js : List Fv} (w : World) (hT : Row w A cap ts) (hR : FRow w R rc js) (hD : Dist ts) (ft : ts.length ≤ 1000) (fj : js.length ≤ 1000) (htot : (js.map (·.k)).sum ≤ 1000000000) :
    Calls Tryz.prog 8 #[.slice A ts.length cap, .slice R js.length rc] w (UntP (untS ts js 9223372036854775807) w) := by
  have UN := Lib.hid (until_any (en := 9223372036854775807) (T := 9223372036854775807) w hT hR hD ft fj htot (by decide) (Int.le_refl _))
  clear hT hR hD htot
  go_enter Tryz.func8, Tryz.ntmps8
  go_wp2_with (go_at_call 17; (with_reducible refine UN.out.mono ?_); rintro e w1 ⟨vs, ve, rfl, h1, h2, h3⟩)
  refine bodyPost_ret (results_tmp2 rfl _ _ _) rfl ?_
  exact ⟨vs, ve, rfl, h1, h2, h3⟩
end Go.Proofs.YtnhddnldebdmbaaGreatDoor
/- What the laws call. -/
namespace Go.Proofs.YtnhddnldebdmbaaGreatDoor
open Go.RowKit
set_option linter.unusedVariables false
set_option linter.unusedSimpArgs false
/-- Spans, and ends. -/
def RunJ (sp : List Spn) (en : List Int) (w : World) (e : Ending) (w' : World) : Prop := ∃ A c B d, e = .returned (.tuple #[.slice A sp.length c, .slice B en.length d]) ∧ SpR w' A c sp ∧ CRow w' B d en ∧ Below w.heap.size w w'
theorem untp_run {sp : List Spn} {en : List Int} {w : World} (he : ∀ x ∈ en, in64 x) (e : Ending) (w' : World) (h : UntP (sp, en) w e w') : RunJ sp en w e w' := by
  obtain ⟨vs, ve, rfl, h1, h2, h3⟩ := h
  obtain ⟨A, c, rfl, F⟩ := spr_own h1
  obtain ⟨B, d, rfl, hn, G, _⟩ := crow_own h2 he
  exact ⟨A, c, B, d, rfl, F, G, h3⟩
/-- Any legal jobs, run. -/
theorem run_leg {A R : Option Addr} {cap rc : Nat} {ts : List Ts} {js : List Fv} (w : World) (hT : Row w A cap ts) (hR : FRow w R rc js) (hD : Dist ts) (ft : ts.length ≤ 1000) (fj : js.length ≤ 1000) (htot : (js.map (·.k)).sum ≤ 1000000000) (hl : legS ts js = true) :
    Calls Tryz.prog 8 #[.slice A ts.length cap, .slice R js.length rc] w (RunJ (tst ts js 9223372036854775807).sp (tst ts js 9223372036854775807).en w) := by
  have h := run_any w hT hR hD ft fj htot
  rw [untS, if_pos hl] at h
  obtain ⟨h1, h2, h3⟩ := legS_parts hl
  exact h.mono (untp_run (en_bd (lg_of (ljs_of (vs_of h1) js h3)) (Nat.le_refl _)))
/-- What isn't legal. -/
theorem run_not {A R : Option Addr} {cap rc : Nat} {ts : List Ts} {js : List Fv} (w : World) (hT : Row w A cap ts) (hR : FRow w R rc js) (hD : Dist ts) (ft : ts.length ≤ 1000) (fj : js.length ≤ 1000) (htot : (js.map (·.k)).sum ≤ 1000000000) (hl : legS ts js = false) :
    Calls Tryz.prog 8 #[.slice A ts.length cap, .slice R js.length rc] w (RunJ [] [] w) := by
  have h := run_any w hT hR hD ft fj htot
  rw [untS, hl] at h
  exact h.mono (untp_run (by simp))
theorem until_leg {A R : Option Addr} {cap rc : Nat} {ts : List Ts} {js : List Fv} {en : Int} {T : Nat} (w : World) (hT : Row w A cap ts) (hR : FRow w R rc js) (hD : Dist ts) (ft : ts.length ≤ 1000) (fj : js.length ≤ 1000) (htot : (js.map (·.k)).sum ≤ 1000000000) (hl : legS ts js = true) (hen : en.toNat = T) (he : en ≤ 9223372036854775807) :
    Calls Tryz.prog 17 #[.slice A ts.length cap, .slice R js.length rc, .int .i64 en] w (RunJ (tst ts js T).sp (tst ts js T).en w) := by
  have h := until_any w hT hR hD ft fj htot hen he
  rw [untS, if_pos hl] at h
  obtain ⟨h1, h2, h3⟩ := legS_parts hl
  exact h.mono (untp_run (en_bd (lg_of (ljs_of (vs_of h1) js h3)) (by omega)))
theorem until_not {A R : Option Addr} {cap rc : Nat} {ts : List Ts} {js : List Fv} {en : Int} (w : World) (hT : Row w A cap ts) (hR : FRow w R rc js) (hD : Dist ts) (ft : ts.length ≤ 1000) (fj : js.length ≤ 1000) (htot : (js.map (·.k)).sum ≤ 1000000000) (hl : legS ts js = false) (he : en ≤ 9223372036854775807) :
    Calls Tryz.prog 17 #[.slice A ts.length cap, .slice R js.length rc, .int .i64 en] w (RunJ [] [] w) := by
  have h := until_any (T := en.toNat) w hT hR hD ft fj htot rfl he
  rw [untS, hl] at h
  exact h.mono (untp_run (by simp))
section
variable {ss : List Ts} {js : List Fv} {M n : Nat} {A R : Option Addr} {cap rc : Nat}
theorem run_sm (h : Sm ss js M n) (hn : n ≤ 12) (w : World) (hT : Row w A cap ss) (hR : FRow w R rc js) : Calls Tryz.prog 8 #[.slice A ss.length cap, .slice R js.length rc] w (RunJ (tst ss js 9223372036854775807).sp (tst ss js 9223372036854775807).en w) :=
  run_leg w hT hR h.di (by have := h.sM; have := h.M8; omega) (by have := h.le; omega) (by have := h.tot hn; omega) h.lg
theorem until_sm (h : Sm ss js M n) (hn : n ≤ 12) (en : Int) (he : en ≤ 9223372036854775807) (w : World) (hT : Row w A cap ss) (hR : FRow w R rc js) : Calls Tryz.prog 17 #[.slice A ss.length cap, .slice R js.length rc, .int .i64 en] w (RunJ (tst ss js en.toNat).sp (tst ss js en.toNat).en w) :=
  until_leg w hT hR h.di (by have := h.sM; have := h.M8; omega) (by have := h.le; omega) (by have := h.tot hn; omega) h.lg rfl he
end
end Go.Proofs.YtnhddnldebdmbaaGreatDoor
/- What spans tell: work, gaps, and who is more urgent. -/
namespace Go.Proofs.YtnhddnldebdmbaaGreatDoor
set_option linter.unusedVariables false
set_option linter.unusedSimpArgs false
/-- How long a job runs, by spans. -/
def lenS (sp : List Spn) (i : Nat) : Int := ((sp.filter fun x => decide (x.j = i)).map fun x => x.t - x.f).sum
theorem lenS_app (a b : List Spn) (i : Nat) : lenS (a ++ b) i = lenS a i + lenS b i := by simp [lenS]
theorem lenS_one (x : Spn) (i : Nat) : lenS [x] i = if x.j = i then x.t - x.f else 0 := by
  unfold lenS
  by_cases h : x.j = i <;> simp [h]
/-- Spans from a tick on; what is idle between is idle, as nobody waits. -/
def Gap (js : List Fv) (en : List Int) (a b : Int) : Prop := ∀ i, i < js.length → (jb js i).r < b → kO en i ≤ a ∧ 0 < kO en i
def chn (js : List Fv) (en : List Int) : Int → List Spn → Prop
  | _, [] => True
  | a, x :: l => a ≤ x.f ∧ x.f < x.t ∧ x.j < js.length ∧ (jb js x.j).r ≤ x.f ∧ (a < x.f → Gap js en a x.f) ∧ chn js en x.t l
def lastA (sp : List Spn) : Int := (sp.getLast?.map (·.t)).getD 0
theorem lastA_app (l : List Spn) (x : Spn) : lastA (l ++ [x]) = x.t := by simp [lastA]
theorem chn_app {js : List Fv} {en : List Int} (x : Spn) : ∀ (a : Int) (l : List Spn), chn js en a (l ++ [x]) ↔ chn js en a l ∧ chn js en ((l.getLast?.map (·.t)).getD a) [x]
  | a, [] => by simp [chn]
  | a, y :: l => by
    rw [List.cons_append, chn, chn, chn_app x y.t l]
    have : ((y :: l).getLast?.map (·.t)).getD a = (l.getLast?.map (·.t)).getD y.t := by
      rcases List.eq_nil_or_concat l with h | ⟨m, z, h⟩
      · subst h; rfl
      · rw [List.concat_eq_append] at h; subst h
        rw [← List.cons_append, List.getLast?_concat, List.getLast?_concat]
        rfl
    rw [this]
    constructor
    · rintro ⟨h1, h2, h3, h4, h5, h6, h7⟩; exact ⟨⟨h1, h2, h3, h4, h5, h6⟩, h7⟩
    · rintro ⟨⟨h1, h2, h3, h4, h5, h6⟩, h7⟩; exact ⟨h1, h2, h3, h4, h5, h6, h7⟩
theorem chn_en {js : List Fv} {en en' : List Int} (h : ∀ i, i < js.length → 0 < kO en i → kO en' i = kO en i) : ∀ (a : Int) (l : List Spn), chn js en a l → chn js en' a l
  | _, [], _ => trivial
  | a, x :: l, ⟨h1, h2, h3, h4, h5, h6⟩ => ⟨h1, h2, h3, h4, fun hl i hi hr => by
      have := h5 hl i hi hr
      rw [h i hi this.2]; exact this, chn_en h x.t l h6⟩
/-- The last span goes on. -/
def exS0 (sp : List Spn) (i : Nat) (t : Int) : Bool := match sp.getLast? with | none => false | some x => decide (x.j = i) && decide (x.t = t)
theorem ex0_no {sp : List Spn} {i : Nat} {t m : Int} (h : exS0 sp i t = false) : addN sp i t m = sp ++ [⟨i, t, t + m⟩] := by
  unfold exS0 at h
  unfold addN
  cases hl : sp.getLast? with
  | none => rfl
  | some x =>
    rw [hl] at h
    simp only at h ⊢
    rw [if_neg]
    rintro ⟨h1, h2⟩
    rw [decide_eq_true h1, decide_eq_true h2] at h
    cases h
theorem ex0_yes {sp : List Spn} {i : Nat} {t m : Int} (h : exS0 sp i t = true) : ∃ l x, sp = l ++ [x] ∧ x.j = i ∧ x.t = t ∧ addN sp i t m = l ++ [⟨x.j, x.f, t + m⟩] := by
  unfold exS0 at h
  unfold addN
  cases hl : sp.getLast? with
  | none => rw [hl] at h; cases h
  | some x =>
    rw [hl] at h
    simp only [Bool.and_eq_true, decide_eq_true_eq] at h ⊢
    obtain ⟨l, rfl⟩ := List.getLast?_eq_some_iff.1 hl
    refine ⟨l, x, rfl, h.1, h.2, ?_⟩
    rw [if_pos h]
    simp [h.1]
theorem chn_mem {js : List Fv} {en : List Int} : ∀ {a : Int} {l : List Spn}, chn js en a l → ∀ x ∈ l, x.j < js.length ∧ (a ≤ x.f ∧ x.f < x.t) ∧ x.t ≤ (l.getLast?.map (·.t)).getD a
  | _, [], _, x, hx => by cases hx
  | a, y :: l, ⟨h1, h2, h3, h4, h5, h6⟩, x, hx => by
    have hl : ((y :: l).getLast?.map (·.t)).getD a = (l.getLast?.map (·.t)).getD y.t := by
      rcases List.eq_nil_or_concat l with h | ⟨m, z, h⟩
      · subst h; rfl
      · rw [List.concat_eq_append] at h; subst h
        rw [← List.cons_append, List.getLast?_concat, List.getLast?_concat]
        rfl
    rw [hl]
    rcases List.mem_cons.1 hx with rfl | hx
    · refine ⟨h3, ⟨h1, h2⟩, ?_⟩
      cases hg : l.getLast? with
      | none => simp
      | some z =>
        have hz := List.mem_of_getLast? hg
        have := chn_mem h6 z hz
        simp
        omega
    · have := chn_mem h6 x hx
      exact ⟨this.1, ⟨by omega, this.2.1.2⟩, this.2.2⟩
/-- What holds of spans at tick n. -/
structure Wk (js : List Fv) (n : Int) (s : TSt) : Prop where
  ch : chn js s.en 0 s.sp
  la : lastA s.sp ≤ n
  l0 : 0 ≤ lastA s.sp
  gp : lastA s.sp < n → Gap js s.en (lastA s.sp) n
  wk : ∀ i, i < js.length → lenS s.sp i = kO s.dn i
  en : ∀ x ∈ s.sp, kO s.dn x.j = (jb js x.j).k → x.t ≤ kO s.en x.j
  tm : ∀ i, i < js.length → 0 < kO s.dn i → (jb js i).r + kO s.dn i ≤ n ∧ (kO s.dn i = (jb js i).k → (jb js i).r + kO s.dn i ≤ kO s.en i)
section
variable {ts : List Ts} {js : List Fv}
theorem wk_all (hl : Lg js) : ∀ n : Nat, Wk js n (tst ts js n)
  | 0 => by
    refine ⟨trivial, Int.le_refl _, Int.le_refl _, fun h => by simp [tst, lastA] at h, fun i hi => ?_, fun x hx => by simp [tst] at hx, fun i hi hp => ?_⟩
    · simp only [tst]; rw [kO_rep _ _ _ hi]; rfl
    · simp only [tst] at hp; rw [kO_rep _ _ _ hi] at hp; omega
  | n + 1 => by
    have h := wk_all hl n
    have hI := ti_all (ts := ts) hl n
    have hn : ((n + 1 : Nat) : Int) = (n : Int) + 1 := by omega
    rw [tst_succ]
    cases hw : whoS ts js (tst ts js n) n with
    | none =>
      have hno := hI.who_none hl hw
      rw [tstep_none hw]
      refine ⟨h.ch, by have := h.la; simp only; omega, h.l0, fun hlt i hi hr => ?_, h.wk, h.en, fun i hi hp => ⟨by have := (h.tm i hi hp).1; simp only; omega, (h.tm i hi hp).2⟩⟩
      have hd : kO (tst ts js n).dn i = (jb js i).k := not_rdy (hI.d0 i hi).2 (hno i hi) (by omega)
      have hk := hl.k1 i hi
      rcases hI.en i hi with he | he
      · omega
      · refine ⟨?_, he.2.1⟩
        by_cases hla : lastA (tst ts js n).sp < n
        · by_cases hr2 : (jb js i).r < n
          · exact (h.gp hla i hi hr2).1
          · exfalso
            have := (h.tm i hi (by omega)).1
            omega
        · have := h.la
          simp only
          omega
    | some i =>
      obtain ⟨h1, h2, h3⟩ := hI.who_some hl hw
      have hid : i < (tst ts js n).dn.length := by rw [hI.ld]; exact h1
      have hie : i < (tst ts js n).en.length := by rw [hI.le]; exact h1
      have hd0 := hI.d0 i h1
      have hr0 := hl.r0 i h1
      have hki := hl.k1 i h1
      rw [tstep_some hw]
      have hen : ∀ j, j < js.length → 0 < kO (tst ts js n).en j → kO (runM js (tst ts js n) n i 1).en j = kO (tst ts js n).en j := by
        intro j hj hp
        simp only [runM]
        split
        · rw [kO_set _ _ hie]
          split
          · subst j
            rcases hI.en i h1 with he | he <;> omega
          · rfl
        · rfl
      have hch := chn_en hen 0 _ h.ch
      obtain ⟨sp', hsp⟩ : ∃ sp', (runM js (tst ts js n) n i 1).sp = sp' := ⟨_, rfl⟩
      have hsp2 : addN (tst ts js n).sp i n 1 = sp' := hsp
      have hla := h.la
      have key : chn js (runM js (tst ts js n) n i 1).en 0 sp' ∧ lastA sp' = (n : Int) + 1 ∧ (∀ j, lenS sp' j = lenS (tst ts js n).sp j + (if i = j then 1 else 0)) ∧ (∀ x ∈ sp', (x ∈ (tst ts js n).sp) ∨ (x.j = i ∧ x.t = (n : Int) + 1)) := by
        cases hx : exS0 (tst ts js n).sp i n with
        | false =>
          have e : sp' = (tst ts js n).sp ++ [⟨i, n, (n : Int) + 1⟩] := by rw [← hsp2]; exact ex0_no hx
          subst e
          refine ⟨(chn_app _ _ _).2 ⟨hch, hla, by simp only; omega, h1, h2, fun hlt => ?_, trivial⟩, lastA_app _ _, fun j => ?_, fun x hx => ?_⟩
          · have hg := h.gp hlt
            intro j hj hr
            have := hg j hj hr
            rw [hen j hj this.2]; exact this
          · rw [lenS_app, lenS_one]
            simp only
            split <;> omega
          · rcases List.mem_append.1 hx with hx | hx
            · exact .inl hx
            · rw [List.mem_singleton.1 hx]; exact .inr ⟨rfl, rfl⟩
        | true =>
          obtain ⟨l, x, e1, e2, e3, e4⟩ := ex0_yes (m := 1) hx
          rw [hsp2] at e4
          subst e4
          rw [e1] at hch
          obtain ⟨c1, c2⟩ := (chn_app _ _ _).1 hch
          obtain ⟨d1, d2, d3, d4, d5, -⟩ := c2
          refine ⟨(chn_app _ _ _).2 ⟨c1, d1, by simp only; omega, d3, d4, d5, trivial⟩, lastA_app _ _, fun j => ?_, fun y hy => ?_⟩
          · rw [e1, lenS_app, lenS_app, lenS_one, lenS_one]
            simp only
            rw [e2]
            split <;> omega
          · rw [e1]
            rcases List.mem_append.1 hy with hy | hy
            · exact .inl (by simp [hy])
            · rw [List.mem_singleton.1 hy]; exact .inr ⟨e2, rfl⟩
      obtain ⟨k1, k2, k3, k4⟩ := key
      have hdn : ∀ j, kO (runM js (tst ts js n) n i 1).dn j = if j = i then kO (tst ts js n).dn i + 1 else kO (tst ts js n).dn j := fun j => by simp only [runM]; rw [kO_set _ _ hid]
      refine ⟨by rw [hsp]; exact k1, by rw [hsp, k2]; omega, by rw [hsp, k2]; omega, fun hlt => by rw [hsp, k2] at hlt; omega, fun j hj => ?_, fun x hx => ?_, fun j hj hp => ?_⟩
      · rw [hsp, k3, hdn, h.wk j hj]
        by_cases e : j = i
        · subst e; simp
        · rw [if_neg e, if_neg (fun h => e h.symm)]; omega
      · rw [hsp] at hx
        rw [hdn]
        intro hk
        have hei : x.j = i → kO (runM js (tst ts js n) n i 1).en x.j = (n : Int) + 1 := fun e => by
          rw [e] at hk ⊢
          rw [if_pos rfl] at hk
          simp only [runM]
          rw [if_pos hk, kO_set _ _ hie, if_pos rfl]
        rcases k4 x hx with hm | ⟨e1, e2⟩
        · by_cases e : x.j = i
          · rw [hei e]
            have := (chn_mem hch x hm).2.2
            have h9 := h.la
            unfold lastA at h9
            omega
          · rw [if_neg e] at hk
            have := h.en x hm hk
            have hxl := (chn_mem hch x hm).1
            rw [hen x.j hxl (by
              have := hl.k1 _ hxl
              rcases hI.en x.j hxl with h | h
              · omega
              · exact h.2.1)]
            exact this
        · rw [hei e1, e2]; exact Int.le_refl _
      · rw [hdn] at hp ⊢
        by_cases e : j = i
        · subst e
          rw [if_pos rfl] at hp ⊢
          have hb : (jb js j).r + kO (tst ts js n).dn j ≤ n := by
            rcases Int.lt_or_le 0 (kO (tst ts js n).dn j) with hq | hq
            · exact (h.tm j hj hq).1
            · omega
          refine ⟨by omega, fun hk => ?_⟩
          simp only [runM]
          rw [if_pos hk, kO_set _ _ hie, if_pos rfl]
          omega
        · rw [if_neg e] at hp ⊢
          have := h.tm j hj hp
          refine ⟨by omega, fun hk => ?_⟩
          rw [hen j hj (by
            have := hl.k1 j hj
            rcases hI.en j hj with h | h
            · omega
            · exact h.2.1)]
          exact this.2 hk
end
end Go.Proofs.YtnhddnldebdmbaaGreatDoor
/- What a law knows of a run. -/
namespace Go.Proofs.YtnhddnldebdmbaaGreatDoor
open Go.RowKit
set_option linter.unusedVariables false
set_option linter.unusedSimpArgs false
structure RnF (b : Int) (ss : List Ts) (js : List Fv) (sp : List Spn) (es : List Int) : Prop where
  le : es.length = js.length
  sj : ∀ x ∈ sp, x.j < js.length ∧ 0 ≤ x.f ∧ x.f < x.t ∧ x.t ≤ b
  en : ∀ i, i < js.length → 0 < kO es i ∧ kO es i ≤ b
  no : js.length = 0 → sp = []
theorem rnf_gen {ss : List Ts} {js : List Fv} (hl : Lg js) {T : Nat} {b : Int} (hT : (T : Int) ≤ b) (hd : ∀ i, i < js.length → kO (tst ss js T).dn i = (jb js i).k) : RnF b ss js (tst ss js T).sp (tst ss js T).en := by
  have hI := ti_all (ts := ss) hl T
  have hW := wk_all (ts := ss) hl T
  have sj : ∀ x ∈ (tst ss js T).sp, x.j < js.length ∧ 0 ≤ x.f ∧ x.f < x.t ∧ x.t ≤ b := fun x hx => by
    have h1 := chn_mem hW.ch x hx
    have h2 := hW.la
    unfold lastA at h2
    exact ⟨h1.1, h1.2.1.1, h1.2.1.2, by omega⟩
  refine ⟨hI.le, sj, fun i hi => ?_, fun h0 => ?_⟩
  · have := hd i hi
    rcases hI.en i hi with h1 | h1
    · omega
    · exact ⟨h1.2.1, by omega⟩
  · cases hs : (tst ss js T).sp with
    | nil => rfl
    | cons x l => have := (sj x (by rw [hs]; simp)).1; omega
theorem rnf_sm {ss : List Ts} {js : List Fv} {M n : Nat} (h : Sm ss js M n) (hn : n ≤ 12) : RnF 453 ss js (tst ss js 9223372036854775807).sp (tst ss js 9223372036854775807).en := by
  obtain ⟨-, h2, h3⟩ := done_later (ts := ss) h.lgs (show 453 ≤ 9223372036854775807 by omega) (h.done hn)
  rw [h2, h3]
  exact rnf_gen (ss := ss) h.lgs (by omega) (h.done hn)
/-- Spans, and ends, with how many there are. -/
def RunK (m n : Nat) (sp : List Spn) (en : List Int) (w : World) (e : Ending) (w' : World) : Prop := ∃ A c B d, e = .returned (.tuple #[.slice A m c, .slice B n d]) ∧ SpR w' A c sp ∧ CRow w' B d en ∧ Below w.heap.size w w'
theorem runk_of {m n : Nat} {sp : List Spn} {en : List Int} {w : World} (hm : sp.length = m) (hn : en.length = n) (e : Ending) (w' : World) (h : RunJ sp en w e w') : RunK m n sp en w e w' := by
  subst hm; subst hn; exact h
/-- Any legal jobs, run. -/
theorem runk_leg {A R : Option Addr} {cap rc k m n : Nat} {ts : List Ts} {js : List Fv} {sp : List Spn} {en : List Int} (w : World) (hT : Row w A cap ts) (hR : FRow w R rc js) (hk : js.length = k) (hD : Dist ts) (ft : ts.length ≤ 1000) (fj : js.length ≤ 1000) (htot : (js.map (·.k)).sum ≤ 1000000000) (hl : legS ts js = true)
    (hs : (tst ts js 9223372036854775807).sp = sp) (he : (tst ts js 9223372036854775807).en = en) (hm : sp.length = m) (hn : en.length = n) :
    Calls Tryz.prog 8 #[.slice A ts.length cap, .slice R k rc] w (RunK m n sp en w) := by
  subst hk; subst hs; subst he
  exact (run_leg w hT hR hD ft fj htot hl).mono (runk_of hm hn)
theorem runk_sm {ss : List Ts} {js : List Fv} {M l m n k : Nat} {A R : Option Addr} {cap rc : Nat} {sp : List Spn} {en : List Int} (h : Sm ss js M l) (hn : l ≤ 12) (w : World) (hT : Row w A cap ss) (hR : FRow w R rc js) (hk : js.length = k)
    (hs : (tst ss js 9223372036854775807).sp = sp) (he : (tst ss js 9223372036854775807).en = en) (hm : sp.length = m) (hnn : en.length = n) : Calls Tryz.prog 8 #[.slice A ss.length cap, .slice R k rc] w (RunK m n sp en w) :=
  runk_leg w hT hR hk h.di (by have := h.sM; have := h.M8; omega) (by have := h.le; omega) (by have := h.tot hn; omega) h.lg hs he hm hnn
/-- The low bits. -/
theorem low40 (n : Int) : ∃ m : Nat, m < 1099511627776 ∧ bits .and .i64 n 1099511627775 = (m : Int) := by
  have h : (BitVec.ofInt 64 n &&& BitVec.ofInt 64 1099511627775).toNat ≤ 1099511627775 := by
    rw [BitVec.toNat_and]
    exact Nat.and_le_right
  have e : bits .and .i64 n 1099511627775 = IntKind.i64.wrap (((BitVec.ofInt 64 n &&& BitVec.ofInt 64 1099511627775).toNat : Nat) : Int) := rfl
  rw [e]
  generalize (BitVec.ofInt 64 n &&& BitVec.ofInt 64 1099511627775).toNat = z at *
  exact ⟨z, by omega, IntWalk.i64_in _ (by omega)⟩
theorem low20 (n : Int) : ∃ m : Nat, m < 1048576 ∧ bits .and .i64 n 1048575 = (m : Int) := by
  have h : (BitVec.ofInt 64 n &&& BitVec.ofInt 64 1048575).toNat ≤ 1048575 := by
    rw [BitVec.toNat_and]
    exact Nat.and_le_right
  have e : bits .and .i64 n 1048575 = IntKind.i64.wrap (((BitVec.ofInt 64 n &&& BitVec.ofInt 64 1048575).toNat : Nat) : Int) := rfl
  rw [e]
  generalize (BitVec.ofInt 64 n &&& BitVec.ofInt 64 1048575).toNat = z at *
  exact ⟨z, by omega, IntWalk.i64_in _ (by omega)⟩
end Go.Proofs.YtnhddnldebdmbaaGreatDoor
/- Nobody waits for a less urgent one, but for the rest of a section. -/
namespace Go.Proofs.YtnhddnldebdmbaaGreatDoor
set_option linter.unusedVariables false
set_option linter.unusedSimpArgs false
/-- Ticks within sections, one behind the other, are within one. -/
theorem wth_row (q : Int) : ∀ (c : List Int) (lo hi : Int), Pos1 c → (∀ y ∈ c, y ≤ q) → lo ≤ hi → (∀ d, lo ≤ d → d ≤ hi → wthS c d = true) → hi - lo + 1 ≤ q - 1
  | [], lo, hi, _, _, h, hw => by have := hw lo (Int.le_refl _) h; simp [wthS] at this
  | a :: c, lo, hi, hp, hq, h, hw => by
    have ha := hp.head
    have haq := hq a (by simp)
    have hlo := (wthS_lt hp (hw lo (Int.le_refl _) h)).1
    rcases Int.lt_or_le hi a with h1 | h1
    · omega
    · rcases Int.lt_or_le lo a with h2 | h2
      · exfalso
        have := hw a (by omega) h1
        rw [wthS, Int.sub_self, wthS_neg c 0 hp.tail (Int.le_refl _), decide_eq_false (show ¬ a < a by omega)] at this
        simp at this
      · have := wth_row q c (lo - a) (hi - a) hp.tail (fun y hy => hq y (List.mem_cons_of_mem _ hy)) (by omega) (fun d hd1 hd2 => by
          have := hw (d + a) (by omega) (by omega)
          rw [wthS, decide_eq_false (show ¬ d + a < a by omega), Bool.and_false, Bool.false_or, show d + a - a = d by omega] at this
          exact this)
        omega
structure Ug (ts : List Ts) (js : List Fv) (q : Nat → Int) (n : Int) (s : TSt) : Prop where
  ru : ∀ i, s.ru = some i → ∃ l x, s.sp = l ++ [x] ∧ x.j = i ∧ x.t = n
  la : ∀ x, s.sp.getLast? = some x → ∀ k, k < js.length → k ≠ x.j → kO s.en k ≤ x.f
  se : ∀ x, s.sp.getLast? = some x → ∀ k, k < js.length → prO ts js k < prO ts js x.j → kO s.en k = -1 → (jb js k).r < x.t → ∀ u, (jb js k).r ≤ u → u < x.t → wthS (jb js x.j).c (kO s.dn x.j - (x.t - u)) = true
  sp : ∀ x ∈ s.sp, ∀ k, k < js.length → prO ts js k < prO ts js x.j → (kO s.en k = -1 ∨ x.f < kO s.en k) → (jb js k).r < x.t → x.f < (jb js k).r ∧ x.t - (jb js k).r ≤ q x.j - 1
section
variable {ts : List Ts} {js : List Fv} {q : Nat → Int}
theorem ug_all (hl : Lg js) (hq : ∀ i, ∀ y ∈ (jb js i).c, y ≤ q i) : ∀ n : Nat, Ug ts js q n (tst ts js n)
  | 0 => ⟨fun i hi => by simp [tst] at hi, fun x hx => by simp [tst] at hx, fun x hx => by simp [tst] at hx, fun x hx => by simp [tst] at hx⟩
  | n + 1 => by
    have h := ug_all hl hq n
    have hI := ti_all (ts := ts) hl n
    have hW := wk_all (ts := ts) hl n
    have hn : ((n + 1 : Nat) : Int) = (n : Int) + 1 := by omega
    rw [tst_succ]
    cases hw : whoS ts js (tst ts js n) n with
    | none =>
      rw [tstep_none hw]
      exact ⟨(fun i hi => by cases hi), h.la, h.se, h.sp⟩
    | some i =>
      rw [tstep_some hw]
      obtain ⟨h1, h2, h3⟩ := hI.who_some hl hw
      have hid : i < (tst ts js n).dn.length := by rw [hI.ld]; exact h1
      have hie : i < (tst ts js n).en.length := by rw [hI.le]; exact h1
      have hdn : kO (runM js (tst ts js n) n i 1).dn i = kO (tst ts js n).dn i + 1 := by simp only [runM]; rw [kO_set _ _ hid, if_pos rfl]
      have hen : ∀ k, k ≠ i → kO (runM js (tst ts js n) n i 1).en k = kO (tst ts js n).en k := by
        intro k hk
        simp only [runM]
        split
        · rw [kO_set _ _ hie, if_neg hk]
        · rfl
      have hei : kO (runM js (tst ts js n) n i 1).en i = kO (tst ts js n).en i ∨ kO (runM js (tst ts js n) n i 1).en i = (n : Int) + 1 := by
        simp only [runM]
        split
        · rw [kO_set _ _ hie, if_pos rfl]; exact .inr rfl
        · exact .inl rfl
      -- a more urgent one that waits: then it is within a section
      have hwait : ∀ k, k < js.length → prO ts js k < prO ts js i → kO (tst ts js n).en k = -1 → (jb js k).r ≤ n → (tst ts js n).ru = some i ∧ wthS (jb js i).c (kO (tst ts js n).dn i) = true := by
        intro k hk hp hek hr
        have hkd : kO (tst ts js n).dn k < (jb js k).k := by
          rcases hI.en k hk with he | he
          · exact he.1
          · omega
        have hnp : pkN ts js (tst ts js n).dn n js.length ≠ some i := by
          intro hpk
          have := ((pkN_spec _).2 i hpk).2.2 k hk (rdy_iff.2 ⟨hr, hkd⟩)
          omega
        unfold whoS at hw
        cases hru : (tst ts js n).ru with
        | none => rw [hru] at hw; exact absurd hw hnp
        | some c =>
          rw [hru] at hw
          simp only at hw
          split at hw
          · rename_i hwt
            injection hw with hw
            subst hw
            exact ⟨rfl, hwt⟩
          · exact absurd hw hnp
      obtain ⟨sp', hsp⟩ : ∃ sp', (runM js (tst ts js n) n i 1).sp = sp' := ⟨_, rfl⟩
      have hsp2 : addN (tst ts js n).sp i n 1 = sp' := hsp
      -- of spans ahead
      have old : ∀ x ∈ (tst ts js n).sp, ∀ k, k < js.length → prO ts js k < prO ts js x.j → (kO (runM js (tst ts js n) n i 1).en k = -1 ∨ x.f < kO (runM js (tst ts js n) n i 1).en k) → (jb js k).r < x.t → x.f < (jb js k).r ∧ x.t - (jb js k).r ≤ q x.j - 1 := by
        intro x hx k hk hp he hr
        refine h.sp x hx k hk hp ?_ hr
        by_cases e : k = i
        · subst e
          have := hI.en k hk
          rcases this with h5 | h5
          · exact .inl h5.2
          · omega
        · rw [hen k e] at he
          exact he
      cases hx : exS0 (tst ts js n).sp i n with
      | false =>
        have e : sp' = (tst ts js n).sp ++ [⟨i, n, (n : Int) + 1⟩] := by rw [← hsp2]; exact ex0_no hx
        have no : ∀ k, k < js.length → prO ts js k < prO ts js i → kO (tst ts js n).en k = -1 → ¬ (jb js k).r ≤ n := by
          intro k hk hp hek hr
          obtain ⟨hru, _⟩ := hwait k hk hp hek hr
          obtain ⟨l, x, g1, g2, g3⟩ := h.ru i hru
          unfold exS0 at hx
          rw [g1] at hx
          simp [g2, g3] at hx
        have hne : ∀ k, prO ts js k < prO ts js i → k ≠ i := fun k hp e => by rw [e] at hp; omega
        refine ⟨fun j hj => ?_, fun x hx k hk hne => ?_, fun x hx k hk hp hek hr u hu1 hu2 => ?_, fun x hx k hk hp he hr => ?_⟩
        · simp only [runM, Option.some.injEq] at hj
          exact ⟨_, _, by rw [hsp, e], hj, rfl⟩
        · rw [hsp, e, List.getLast?_concat] at hx
          injection hx with hx
          subst hx
          simp only at hne ⊢
          rw [hen k hne]
          rcases hI.en k hk with h5 | h5 <;> omega
        · rw [hsp, e, List.getLast?_concat] at hx
          injection hx with hx
          subst hx
          simp only at hp hr
          rw [hen k (hne k hp)] at hek
          exact absurd (show (jb js k).r ≤ n by omega) (no k hk hp hek)
        · rw [hsp, e] at hx
          rcases List.mem_append.1 hx with hx | hx
          · exact old x hx k hk hp he hr
          · rw [List.mem_singleton.1 hx] at hp he hr ⊢
            simp only at hp he hr ⊢
            rw [hen k (hne k hp)] at he
            exfalso
            rcases hI.en k hk with h5 | h5
            · exact no k hk hp h5.2 (by omega)
            · omega
      | true =>
        obtain ⟨l, x, e1, e2, e3, e4⟩ := ex0_yes (m := 1) hx
        rw [hsp2] at e4
        have hlast : (tst ts js n).sp.getLast? = some x := by rw [e1]; simp
        have hne : ∀ k, prO ts js k < prO ts js i → k ≠ i := fun k hp e => by rw [e] at hp; omega
        have hft : x.f < x.t := (chn_mem hW.ch x (by rw [e1]; simp)).2.1.2
        have hse : ∀ k, k < js.length → prO ts js k < prO ts js i → kO (tst ts js n).en k = -1 → (jb js k).r < (n : Int) + 1 → ∀ u, (jb js k).r ≤ u → u < (n : Int) + 1 → wthS (jb js i).c (kO (tst ts js n).dn i + 1 - ((n : Int) + 1 - u)) = true := by
          intro k hk hp hek hr u hu1 hu2
          obtain ⟨hru, hwt⟩ := hwait k hk hp hek (by omega)
          by_cases hu : u = n
          · subst hu
            rw [show kO (tst ts js n).dn i + 1 - ((n : Int) + 1 - n) = kO (tst ts js n).dn i by omega]
            exact hwt
          · have := h.se x hlast k hk (by rw [e2]; exact hp) hek (by omega) u hu1 (by omega)
            rw [e2, e3] at this
            rw [show kO (tst ts js n).dn i + 1 - ((n : Int) + 1 - u) = kO (tst ts js n).dn i - ((n : Int) - u) by omega]
            exact this
        refine ⟨fun j hj => ?_, fun y hy k hk hkne => ?_, fun y hy k hk hp hek hr u hu1 hu2 => ?_, fun y hy k hk hp he hr => ?_⟩
        · simp only [runM, Option.some.injEq] at hj
          exact ⟨_, _, by rw [hsp, e4], by rw [← hj]; exact e2, rfl⟩
        · rw [hsp, e4, List.getLast?_concat] at hy
          injection hy with hy
          subst hy
          simp only at hkne ⊢
          rw [hen k (by rw [← e2]; exact hkne)]
          exact h.la x hlast k hk hkne
        · rw [hsp, e4, List.getLast?_concat] at hy
          injection hy with hy
          subst hy
          simp only at hp hr hu2 ⊢
          rw [e2] at hp ⊢
          rw [hen k (hne k hp)] at hek
          rw [hdn]
          exact hse k hk hp hek hr u hu1 hu2
        · rw [hsp, e4] at hy
          rcases List.mem_append.1 hy with hy | hy
          · exact old y (by rw [e1]; simp [hy]) k hk hp he hr
          · rw [List.mem_singleton.1 hy] at hp he hr ⊢
            simp only at hp he hr ⊢
            rw [e2] at hp ⊢
            rw [hen k (hne k hp)] at he
            have hlk := h.la x hlast k hk (by rw [e2]; exact hne k hp)
            have hek : kO (tst ts js n).en k = -1 := by rcases he with he | he <;> omega
            refine ⟨?_, ?_⟩
            · rcases Int.lt_or_le (jb js k).r n with hr2 | hr2
              · exact (h.sp x (by rw [e1]; simp) k hk (by rw [e2]; exact hp) (.inl hek) (by omega)).1
              · omega
            · have hse' := hse k hk hp hek hr
              have := wth_row (q i) (jb js i).c (kO (tst ts js n).dn i + 1 - ((n : Int) + 1 - (jb js k).r)) (kO (tst ts js n).dn i) (hl.pos i) (hq i) (by omega) (fun d hd1 hd2 => by
                have := hse' (d - (kO (tst ts js n).dn i + 1) + ((n : Int) + 1)) (by omega) (by omega)
                rw [show kO (tst ts js n).dn i + 1 - ((n : Int) + 1 - (d - (kO (tst ts js n).dn i + 1) + ((n : Int) + 1))) = d by omega] at this
                exact this)
              omega
end
end Go.Proofs.YtnhddnldebdmbaaGreatDoor
/- Nobody takes longer than what is enough: in the tick machine. -/
namespace Go.Proofs.YtnhddnldebdmbaaGreatDoor
set_option linter.unusedVariables false
set_option linter.unusedSimpArgs false

/-! ### Sums over places -/
def rs (n : Nat) (f : Nat → Int) : Int := ((List.range n).map f).sum
theorem rs_zero (f : Nat → Int) : rs 0 f = 0 := rfl
theorem rs_succ (n : Nat) (f : Nat → Int) : rs (n + 1) f = rs n f + f n := by simp [rs, List.range_succ]
theorem rs_le {f g : Nat → Int} : ∀ n, (∀ k, k < n → f k ≤ g k) → rs n f ≤ rs n g
  | 0, _ => Int.le_refl _
  | n + 1, h => by
    have := rs_le n (fun k hk => h k (by omega))
    have := h n (by omega)
    rw [rs_succ, rs_succ]; omega
theorem rs_lt {f g : Nat → Int} : ∀ n, (∀ k, k < n → f k ≤ g k) → (∃ k, k < n ∧ f k < g k) → rs n f < rs n g
  | 0, _, ⟨k, hk, _⟩ => by omega
  | n + 1, h, ⟨k, hk, hlt⟩ => by
    rw [rs_succ, rs_succ]
    have h1 := rs_le n (fun k hk => h k (by omega))
    have h2 := h n (by omega)
    rcases Nat.lt_or_ge k n with h3 | h3
    · have := rs_lt n (fun k hk => h k (by omega)) ⟨k, h3, hlt⟩
      omega
    · obtain rfl : k = n := by omega
      omega
theorem rs_congr {f g : Nat → Int} (n : Nat) (h : ∀ k, k < n → f k = g k) : rs n f = rs n g :=
  Int.le_antisymm (rs_le n fun k hk => by rw [h k hk]; exact Int.le_refl _) (rs_le n fun k hk => by rw [h k hk]; exact Int.le_refl _)
theorem rs_add (f g : Nat → Int) : ∀ n, rs n (fun k => f k + g k) = rs n f + rs n g
  | 0 => rfl
  | n + 1 => by rw [rs_succ, rs_succ, rs_succ, rs_add f g n]; omega
theorem rs_upd {f g : Nat → Int} {i : Nat} {d : Int} : ∀ n, i < n → (∀ k, k < n → k ≠ i → f k = g k) → f i = g i + d → rs n f = rs n g + d
  | 0, h, _, _ => by omega
  | n + 1, h, h1, h2 => by
    rw [rs_succ, rs_succ]
    by_cases e : i = n
    · subst e
      rw [rs_congr i (fun k hk => h1 k (by omega) (by omega)), h2]; omega
    · rw [rs_upd n (by omega) (fun k hk => h1 k (by omega)) h2, h1 n (by omega) (fun h => e h.symm)]; omega
theorem rs_one (n i : Nat) (v : Int) (hi : i < n) : rs n (fun k => if k = i then v else 0) = v := by
  have h0 : rs n (fun _ => 0) = 0 := by
    have : ∀ n, rs n (fun _ => 0) = 0 := fun n => by induction n with | zero => rfl | succ n ih => rw [rs_succ, ih]; rfl
    exact this n
  rw [rs_upd (g := fun _ => 0) (i := i) (d := v) n hi (fun k _ hk => by simp [hk]) (by simp), h0]
  omega
theorem rs_nil (n : Nat) : rs n (fun _ => 0) = 0 := by
  induction n with | zero => rfl | succ n ih => rw [rs_succ, ih]; rfl
theorem rs_list (l : List Ts) (f : Ts → Int) : (l.map f).sum = rs l.length (fun k => f (tk l (k : Int))) := by
  have : ∀ l : List Ts, (l.map f).sum = rs l.length (fun k => f (tk l (k : Int))) := by
    refine snoc_ind rfl fun l x ih => ?_
    rw [List.map_append, List.sum_append, List.length_append, List.length_singleton, rs_succ, ih]
    have e1 : tk (l ++ [x]) (l.length : Int) = x := tk_get (by simp)
    rw [e1, rs_congr l.length (g := fun k => f (tk (l ++ [x]) (k : Int))) (fun k hk => by
      rw [tk_get (List.getElem?_eq_getElem hk), tk_get (x := l[k]) (by rw [List.getElem?_append_left hk, List.getElem?_eq_getElem hk])])]
    simp
  exact this l
/-- By jobs, or by their tasks. -/
theorem rs_two (h : Nat → Int) (P : Nat → Bool) (t : Nat → Nat) (T : Nat) : ∀ n, (∀ k, k < n → t k < T) →
    rs n (fun k => if P k then h (t k) else 0) = rs T (fun τ => h τ * rs n (fun k => if P k && decide (t k = τ) then 1 else 0))
  | 0, _ => by
    rw [rs_zero, rs_congr T (g := fun _ => 0) (fun k _ => by rw [rs_zero]; simp), rs_nil]
  | n + 1, hT => by
    rw [rs_succ, rs_two h P t T n (fun k hk => hT k (by omega))]
    have hn := hT n (by omega)
    have e : ∀ τ, h τ * rs (n + 1) (fun k => if P k && decide (t k = τ) then 1 else 0) = h τ * rs n (fun k => if P k && decide (t k = τ) then 1 else 0) + (if τ = t n then (if P n then h (t n) else 0) else 0) := by
      intro τ
      rw [rs_succ, Int.mul_add]
      congr 1
      by_cases e1 : τ = t n
      · subst e1
        cases P n <;> simp
      · rw [if_neg e1, if_neg (by simp; exact fun _ h => e1 h.symm)]
        simp
    rw [rs_congr T (fun τ _ => e τ), rs_add, rs_one T (t n) _ hn]

/-! ### What is enough -/
/-- From above. -/
def ceilI (a t : Int) : Int := (a + t - 1) / t
def hiS (ts : List Ts) (i : Int) (w : Int) : Int := (ts.map fun x => if x.p < (tk ts i).p then ceilI (w + x.j) x.t * x.c else 0).sum
def blkS (ts : List Ts) (i : Int) : Int := (ts.map fun x => if (tk ts i).p < x.p then x.q - 1 else 0).foldl max 0
def needS (ts : List Ts) (i : Int) (w : Int) : Int := (tk ts i).c + blkS ts i + hiS ts i w
theorem fold_max : ∀ (l : List Int) (a : Int), a ≤ l.foldl max a ∧ ∀ x ∈ l, x ≤ l.foldl max a
  | [], a => ⟨Int.le_refl _, by simp⟩
  | y :: l, a => by
    obtain ⟨h1, h2⟩ := fold_max l (max a y)
    rw [List.foldl_cons]
    refine ⟨by omega, fun x hx => ?_⟩
    rcases List.mem_cons.1 hx with rfl | hx
    · omega
    · exact h2 x hx
theorem blk_le {ts : List Ts} {i : Int} {u : Nat} (hu : u < ts.length) (hp : (tk ts i).p < (tk ts (u : Int)).p) : (tk ts (u : Int)).q - 1 ≤ blkS ts i := by
  have e : ts[u]? = some ts[u] := List.getElem?_eq_getElem hu
  rw [tk_get e] at hp ⊢
  refine (fold_max _ 0).2 _ (List.mem_map.2 ⟨ts[u], List.getElem_mem hu, ?_⟩)
  rw [if_pos hp]
theorem blk_pos (ts : List Ts) (i : Int) : 0 ≤ blkS ts i := (fold_max _ 0).1
/-- Places of numbers so far apart. -/
theorem count_apart (P : Nat → Bool) (a : Nat → Int) (A T : Int) (hT : 1 ≤ T) : ∀ n, (∀ k, k < n → P k = true → A ≤ a k) → (∀ k l, k < l → l < n → P k = true → P l = true → a k + T ≤ a l) →
    rs n (fun k => if P k then 1 else 0) = 0 ∨ ∃ k, k < n ∧ P k = true ∧ A + (rs n (fun k => if P k then 1 else 0) - 1) * T ≤ a k
  | 0, _, _ => .inl rfl
  | n + 1, h1, h2 => by
    rw [rs_succ]
    cases hp : P n with
    | false =>
      simp only [Bool.false_eq_true, if_false, Int.add_zero]
      rcases count_apart P a A T hT n (fun k hk => h1 k (by omega)) (fun k l hk hl => h2 k l hk (by omega)) with h | ⟨k, hk, h3, h4⟩
      · exact .inl h
      · exact .inr ⟨k, by omega, h3, h4⟩
    | true =>
      simp only [if_true]
      right
      refine ⟨n, by omega, hp, ?_⟩
      rcases count_apart P a A T hT n (fun k hk => h1 k (by omega)) (fun k l hk hl => h2 k l hk (by omega)) with h | ⟨k, hk, h3, h4⟩
      · rw [h]; have := h1 n (by omega) hp; simp; omega
      · have h5 := h2 k n hk (by omega) h3 hp
        have e : (rs n (fun k => if P k then 1 else 0) + 1 - 1) * T = (rs n (fun k => if P k then 1 else 0) - 1) * T + T := by
          rw [Int.add_sub_cancel, Int.sub_mul, Int.one_mul]; omega
        rw [e]; omega
theorem count_ceil (P : Nat → Bool) (a : Nat → Int) (A L T : Int) (hT : 1 ≤ T) (hL : 1 ≤ L) (n : Nat) (h1 : ∀ k, k < n → P k = true → A ≤ a k ∧ a k < A + L) (h2 : ∀ k l, k < l → l < n → P k = true → P l = true → a k + T ≤ a l) :
    rs n (fun k => if P k then 1 else 0) ≤ ceilI L T := by
  unfold ceilI
  rw [Int.le_ediv_iff_mul_le (by omega)]
  rcases count_apart P a A T hT n (fun k hk hp => (h1 k hk hp).1) h2 with h | ⟨k, hk, h3, h4⟩
  · rw [h]; omega
  · have h5 := (h1 k hk h3).2
    rw [Int.sub_mul] at h4
    omega

/-! ### Busy ticks of a level -/
section
variable {ts : List Ts} {js : List Fv}
/-- All work of a level that was released ahead is done. -/
def qui (ts : List Ts) (js : List Fv) (p : Int) (n : Nat) : Prop := ∀ k, k < js.length → prO ts js k ≤ p → (jb js k).r < n → kO (tst ts js n).dn k = (jb js k).k
theorem last_quiet (P : Nat → Prop) (h0 : P 0) : ∀ r : Nat, ∃ t0, t0 ≤ r ∧ P t0 ∧ ∀ t, t0 < t → t ≤ r → ¬ P t
  | 0 => ⟨0, Nat.le_refl _, h0, fun t h1 h2 => by omega⟩
  | r + 1 => by
    by_cases h : P (r + 1)
    · exact ⟨r + 1, Nat.le_refl _, h, fun t h1 h2 => by omega⟩
    · obtain ⟨t0, h1, h2, h3⟩ := last_quiet P h0 r
      refine ⟨t0, by omega, h2, fun t h4 h5 => ?_⟩
      rcases Nat.lt_or_ge t (r + 1) with h6 | h6
      · exact h3 t h4 (by omega)
      · obtain rfl : t = r + 1 := by omega
        exact h
def lvW (ts : List Ts) (js : List Fv) (p : Int) (dn : List Int) : Int := rs js.length fun k => if prO ts js k ≤ p then kO dn k else 0
theorem dn_mono1 (hl : Lg js) (n k : Nat) : kO (tst ts js n).dn k ≤ kO (tst ts js (n + 1)).dn k := by
  have hI := ti_all (ts := ts) hl n
  rw [tst_succ]
  cases hw : whoS ts js (tst ts js n) n with
  | none => rw [tstep_none hw]; exact Int.le_refl _
  | some i =>
    rw [tstep_some hw]
    simp only [runM]
    rw [kO_set _ _ (by rw [hI.ld]; exact (hI.who_some hl hw).1)]
    split
    · subst k; omega
    · exact Int.le_refl _
theorem dn_mono (hl : Lg js) (n k : Nat) : ∀ m, kO (tst ts js n).dn k ≤ kO (tst ts js (n + m)).dn k
  | 0 => Int.le_refl _
  | m + 1 => Int.le_trans (dn_mono hl n k m) (dn_mono1 hl (n + m) k)
/-- Who runs while somebody of a level waits. -/
theorem who_low (hl : Lg js) {p : Int} {u : Nat} (hn : ¬ qui ts js p (u + 1)) :
    (∃ y, whoS ts js (tst ts js u) u = some y ∧ prO ts js y ≤ p) ∨ ∃ x, whoS ts js (tst ts js u) u = some x ∧ p < prO ts js x ∧ (tst ts js u).ru = some x ∧ wthS (jb js x).c (kO (tst ts js u).dn x) = true := by
  have hI := ti_all (ts := ts) hl u
  have hI1 := ti_all (ts := ts) hl (u + 1)
  obtain ⟨k, hk, hp, hr, hd⟩ : ∃ k, k < js.length ∧ prO ts js k ≤ p ∧ (jb js k).r < ((u + 1 : Nat) : Int) ∧ kO (tst ts js (u + 1)).dn k ≠ (jb js k).k := by
    simp only [qui, Classical.not_forall] at hn
    obtain ⟨k, h1, h2, h3, h4⟩ := hn
    exact ⟨k, h1, h2, h3, h4⟩
  have h1 := (hI1.d0 k hk).2
  have h2 := dn_mono1 (ts := ts) hl u k
  have hrd : rdy js (tst ts js u).dn u k = true := rdy_iff.2 ⟨by omega, by omega⟩
  cases hw : whoS ts js (tst ts js u) u with
  | none => have := hI.who_none hl hw k hk; rw [hrd] at this; cases this
  | some x =>
    by_cases hx : prO ts js x ≤ p
    · exact .inl ⟨x, rfl, hx⟩
    · right
      have hnp : pkN ts js (tst ts js u).dn u js.length ≠ some x := fun hpk => by
        have := ((pkN_spec _).2 x hpk).2.2 k hk hrd
        omega
      unfold whoS at hw
      cases hru : (tst ts js u).ru with
      | none => rw [hru] at hw; exact absurd hw hnp
      | some c =>
        rw [hru] at hw
        simp only at hw
        split at hw
        · rename_i hwt
          injection hw with hw
          subst hw
          exact ⟨c, rfl, by omega, rfl, hwt⟩
        · exact absurd hw hnp
theorem lvW_run (hl : Lg js) {p : Int} {u i : Nat} (hw : whoS ts js (tst ts js u) u = some i) : lvW ts js p (tst ts js (u + 1)).dn = lvW ts js p (tst ts js u).dn + (if prO ts js i ≤ p then 1 else 0) ∧ kO (tst ts js (u + 1)).dn i = kO (tst ts js u).dn i + 1 ∧ (tst ts js (u + 1)).ru = some i := by
  have hI := ti_all (ts := ts) hl u
  have hi := (hI.who_some hl hw).1
  have hid : i < (tst ts js u).dn.length := by rw [hI.ld]; exact hi
  rw [tst_succ, tstep_some hw]
  refine ⟨?_, by simp only [runM]; rw [kO_set _ _ hid, if_pos rfl], rfl⟩
  unfold lvW
  refine rs_upd (i := i) _ hi (fun k _ hk => ?_) ?_
  · simp only [runM]; rw [kO_set _ _ hid, if_neg hk]
  · simp only [runM]; rw [kO_set _ _ hid, if_pos rfl]
    split <;> omega
/-- So many ticks, at each of which somebody of the level waits. -/
theorem lv_ticks (hl : Lg js) {p B : Int} (hB0 : 0 ≤ B) (hB : ∀ x, x < js.length → p < prO ts js x → ∀ y ∈ (jb js x).c, y ≤ B + 1) {t0 w : Nat} (hno : ∀ t, t0 < t → t ≤ t0 + w → ¬ qui ts js p t) :
    ∀ m : Nat, m ≤ w → (m = 0) ∨
      (∃ x, x < js.length ∧ p < prO ts js x ∧ (tst ts js (t0 + m)).ru = some x ∧ lvW ts js p (tst ts js (t0 + m)).dn = lvW ts js p (tst ts js t0).dn ∧ kO (tst ts js (t0 + m)).dn x = kO (tst ts js t0).dn x + m ∧ (m : Int) ≤ B ∧ ∀ u : Nat, u < m → wthS (jb js x).c (kO (tst ts js t0).dn x + u) = true) ∨
      (∃ y, (tst ts js (t0 + m)).ru = some y ∧ prO ts js y ≤ p ∧ lvW ts js p (tst ts js t0).dn + m ≤ lvW ts js p (tst ts js (t0 + m)).dn + B)
  | 0, _ => .inl rfl
  | m + 1, hm => by
    right
    have hI := ti_all (ts := ts) hl (t0 + m)
    rcases who_low (ts := ts) hl (hno (t0 + m + 1) (by omega) (by omega)) with ⟨y, hw, hy⟩ | ⟨x, hw, hx, hru, hwt⟩
    · right
      obtain ⟨e1, e2, e3⟩ := lvW_run (p := p) hl hw
      rw [if_pos hy] at e1
      refine ⟨y, e3, hy, ?_⟩
      rw [← Nat.add_assoc, e1]
      rcases lv_ticks hl hB0 hB hno m (by omega) with h | ⟨x, _, _, _, h4, _, h6, _⟩ | ⟨y', _, _, h3⟩
      · subst h; simp; omega
      · rw [h4]; omega
      · omega
    · obtain ⟨e1, e2, e3⟩ := lvW_run (p := p) hl hw
      rw [if_neg (by omega)] at e1
      have hxl := (hI.who_some hl hw).1
      rcases lv_ticks hl hB0 hB hno m (by omega) with h | ⟨x', q1, q2, q3, q4, q5, q6, q7⟩ | ⟨y', q1, q2, q3⟩
      · left
        subst h
        have hrow := wth_row (B + 1) (jb js x).c (kO (tst ts js t0).dn x) (kO (tst ts js t0).dn x) (hl.pos x) (hB x hxl hx) (Int.le_refl _) (fun d h1 h2 => by
          obtain rfl : d = kO (tst ts js t0).dn x := by omega
          exact hwt)
        refine ⟨x, hxl, hx, e3, by rw [← Nat.add_assoc, e1]; simp, by rw [← Nat.add_assoc, e2]; simp, by simp; omega, fun u hu => ?_⟩
        obtain rfl : u = 0 := by omega
        simpa using hwt
      · left
        have hxx : x = x' := by rw [q3] at hru; injection hru with hru; exact hru.symm
        subst hxx
        have hall : ∀ u : Nat, u < m + 1 → wthS (jb js x).c (kO (tst ts js t0).dn x + u) = true := fun u hu => by
          rcases Nat.lt_or_ge u m with h | h
          · exact q7 u h
          · obtain rfl : u = m := by omega
            rw [← q5]; exact hwt
        have hrow := wth_row (B + 1) (jb js x).c (kO (tst ts js t0).dn x) (kO (tst ts js t0).dn x + m) (hl.pos x) (hB x hxl hx) (by omega) (fun d h1 h2 => by
          obtain ⟨u, hu⟩ : ∃ u : Nat, d = kO (tst ts js t0).dn x + u := ⟨(d - kO (tst ts js t0).dn x).toNat, by omega⟩
          subst hu
          exact hall u (by omega))
        refine ⟨x, hxl, hx, e3, by rw [← Nat.add_assoc, e1, q4]; omega, by rw [← Nat.add_assoc, e2, q5]; omega, by omega, hall⟩
      · exfalso
        rw [q1] at hru
        injection hru with hru
        subst hru
        omega
/-- Once a job has ended that stays. -/
theorem en_stay (hl : Lg js) {n k : Nat} (hk : k < js.length) (hd : kO (tst ts js n).dn k = (jb js k).k) : ∀ m, kO (tst ts js (n + m)).dn k = (jb js k).k ∧ kO (tst ts js (n + m)).en k = kO (tst ts js n).en k
  | 0 => ⟨hd, rfl⟩
  | m + 1 => by
    obtain ⟨h1, h2⟩ := en_stay hl hk hd m
    have hI := ti_all (ts := ts) hl (n + m)
    rw [← Nat.add_assoc, tst_succ]
    cases hw : whoS ts js (tst ts js (n + m)) ((n + m : Nat) : Int) with
    | none => rw [tstep_none hw]; exact ⟨h1, h2⟩
    | some i =>
      rw [tstep_some hw]
      obtain ⟨g1, g2, g3⟩ := hI.who_some hl hw
      have hne : k ≠ i := fun e => by subst e; omega
      simp only [runM]
      refine ⟨by rw [kO_set _ _ (by rw [hI.ld]; exact g1), if_neg hne]; exact h1, ?_⟩
      split
      · rw [kO_set _ _ (by rw [hI.le]; exact g1), if_neg hne]; exact h2
      · exact h2
/-- All work of the level that comes within so many ticks. -/
theorem lv_work (hv : Vs ts) (L : LJs ts js) (hD : Dist ts) {i : Int} {p : Int} (hi0 : 0 ≤ i) (hi1 : i < ts.length) (hp : p = (tk ts i).p) {t0 w : Nat} (hw : 1 ≤ w) (hwT : (w : Int) + (tk ts i).j ≤ (tk ts i).t) :
    rs js.length (fun k => if decide ((t0 : Int) ≤ (jb js k).r) && decide ((jb js k).r < ((t0 + w : Nat) : Int)) then (if prO ts js k ≤ p then (jb js k).k else 0) else 0) ≤ (tk ts i).c + hiS ts i w := by
  let P : Nat → Bool := fun k => decide ((t0 : Int) ≤ (jb js k).r) && decide ((jb js k).r < ((t0 + w : Nat) : Int))
  let h : Nat → Int := fun τ => if (tk ts (τ : Int)).p ≤ p then (tk ts (τ : Int)).c else 0
  have hjt : ∀ k, k < js.length → (((jb js k).t.toNat : Nat) : Int) = (jb js k).t ∧ (jb js k).t.toNat < ts.length := fun k hk => by
    have l := jb_lj L hk
    have := l.t0; have := l.t1
    omega
  have s1 : rs js.length (fun k => if P k then (if prO ts js k ≤ p then (jb js k).k else 0) else 0) ≤ rs js.length (fun k => if P k then h ((jb js k).t.toNat) else 0) := by
    refine rs_le _ fun k hk => ?_
    simp only [h]
    rw [(hjt k hk).1]
    split
    · unfold prO
      split
      · exact (jb_lj L hk).k1
      · exact Int.le_refl _
    · exact Int.le_refl _
  rw [rs_two h P (fun k => (jb js k).t.toNat) ts.length js.length (fun k hk => (hjt k hk).2)] at s1
  have s2 : rs ts.length (fun τ => h τ * rs js.length (fun k => if P k && decide ((jb js k).t.toNat = τ) then 1 else 0)) ≤ rs ts.length (fun τ => (if (tk ts (τ : Int)).p < p then ceilI ((w : Int) + (tk ts (τ : Int)).j) (tk ts (τ : Int)).t * (tk ts (τ : Int)).c else 0) + (if τ = i.toNat then (tk ts i).c else 0)) := by
    refine rs_le _ fun τ hτ => ?_
    have hx := hv.tk (τ : Int)
    have hc := count_ceil (fun k => P k && decide ((jb js k).t.toNat = τ)) (fun k => (jb js k).a) ((t0 : Int) - (tk ts (τ : Int)).j) ((w : Int) + (tk ts (τ : Int)).j) (tk ts (τ : Int)).t hx.t0 (by have := hx.j0; omega) js.length (fun k hk hP => by
      simp only [P, Bool.and_eq_true, decide_eq_true_eq] at hP
      have l := jb_lj L hk
      have e : (jb js k).t = (τ : Int) := by rw [← (hjt k hk).1, hP.2]
      have r0 := l.r0
      have r1 := l.r1
      rw [e] at r1
      omega) (fun k l hkl hl hPk hPl => by
      simp only [P, Bool.and_eq_true, decide_eq_true_eq] at hPk hPl
      have hk : k < js.length := by omega
      have e1 : (jb js k).t = (τ : Int) := by rw [← (hjt k hk).1, hPk.2]
      have e2 : (jb js l).t = (τ : Int) := by rw [← (hjt l hl).1, hPl.2]
      have g := List.pairwise_iff_getElem.1 L.pw k l hk hl hkl
      rw [← jb_get (List.getElem?_eq_getElem hk), ← jb_get (List.getElem?_eq_getElem hl)] at g
      have := g (by rw [e1, e2])
      rw [e1] at this
      exact this)
    generalize rs js.length (fun k => if P k && decide ((jb js k).t.toNat = τ) then 1 else 0) = cn at *
    simp only [h]
    have hc0 := hx.c0
    by_cases h1 : (tk ts (τ : Int)).p < p
    · rw [if_pos (by omega), if_pos h1]
      have := Int.mul_le_mul_of_nonneg_left hc (show 0 ≤ (tk ts (τ : Int)).c by omega)
      rw [Int.mul_comm (ceilI _ _)]
      have hci := (hv.tk i).c0
      split <;> omega
    · rw [if_neg h1]
      by_cases h2 : (tk ts (τ : Int)).p ≤ p
      · have hτi : τ = i.toNat := by
          have e1 : ts[τ]? = some ts[τ] := List.getElem?_eq_getElem hτ
          have hin : i.toNat < ts.length := by omega
          have e2 : ts[i.toNat]? = some ts[i.toNat] := List.getElem?_eq_getElem hin
          have e3 : tk ts i = ts[i.toNat] := by have := tk_get e2; rwa [show ((i.toNat : Nat) : Int) = i by omega] at this
          refine hD τ i.toNat _ _ e1 e2 ?_
          rw [← e3, ← tk_get e1]; omega
        have e4 : tk ts (τ : Int) = tk ts i := by rw [hτi, show ((i.toNat : Nat) : Int) = i by omega]
        rw [if_pos h2, if_pos hτi, e4]
        rw [e4] at hc
        have hci := (hv.tk i).c0
        have hti := (hv.tk i).t0
        have hj0 := (hv.tk i).j0
        have hle : ceilI ((w : Int) + (tk ts i).j) (tk ts i).t ≤ 1 := by
          unfold ceilI
          have : ((w : Int) + (tk ts i).j + (tk ts i).t - 1) / (tk ts i).t < 2 := Int.ediv_lt_of_lt_mul (by omega) (by omega)
          omega
        have := Int.mul_le_mul_of_nonneg_left (show cn ≤ 1 by omega) (show 0 ≤ (tk ts i).c by omega)
        omega
      · rw [if_neg h2]
        have hci := (hv.tk i).c0
        split <;> omega
  rw [rs_add, rs_one _ _ _ (by omega)] at s2
  have e : hiS ts i w = rs ts.length (fun τ => if (tk ts (τ : Int)).p < p then ceilI ((w : Int) + (tk ts (τ : Int)).j) (tk ts (τ : Int)).t * (tk ts (τ : Int)).c else 0) := by
    unfold hiS
    rw [rs_list, hp]
  rw [e]
  have s3 : rs js.length (fun k => if P k then (if prO ts js k ≤ p then (jb js k).k else 0) else 0) ≤ _ := Int.le_trans s1 s2
  have s4 : rs js.length (fun k => if decide ((t0 : Int) ≤ (jb js k).r) && decide ((jb js k).r < ((t0 + w : Nat) : Int)) then (if prO ts js k ≤ p then (jb js k).k else 0) else 0) = rs js.length (fun k => if P k then (if prO ts js k ≤ p then (jb js k).k else 0) else 0) := rfl
  rw [s4]
  omega
/-- What is enough bounds each job. -/
theorem enough_sound (hv : Vs ts) (L : LJs ts js) (hD : Dist ts) {j : Nat} (hj : j < js.length) {w : Nat} (hw : 1 ≤ w) (hwT : (w : Int) + (tk ts (jb js j).t).j ≤ (tk ts (jb js j).t).t) (hn : needS ts (jb js j).t w ≤ w) :
    ∃ n : Nat, (n : Int) ≤ (jb js j).r + w ∧ kO (tst ts js n).dn j = (jb js j).k ∧ kO (tst ts js n).en j ≤ (jb js j).r + w := by
  have hl := lg_of L
  have l := jb_lj L hj
  obtain ⟨r, hr⟩ : ∃ r : Nat, (jb js j).r = (r : Int) := ⟨(jb js j).r.toNat, by have := hl.r0 j hj; omega⟩
  obtain ⟨p, hp⟩ : ∃ p, prO ts js j = p := ⟨_, rfl⟩
  obtain ⟨t0, ht0, hq0, hmax⟩ := last_quiet (qui ts js p) (fun k hk _ h => by have := hl.r0 k hk; simp at h; omega) r
  have hex : ∃ t, t0 < t ∧ t ≤ t0 + w ∧ qui ts js p t := by
    refine Classical.byContradiction fun hcon => ?_
    have hno : ∀ t, t0 < t → t ≤ t0 + w → ¬ qui ts js p t := fun t h1 h2 h3 => hcon ⟨t, h1, h2, h3⟩
    have hB0 := blk_pos ts (jb js j).t
    have hlt := lv_ticks (ts := ts) hl hB0 (fun x hx hpx y hy => by
      have lx := jb_lj L hx
      obtain ⟨u, hu⟩ : ∃ u : Nat, (jb js x).t = (u : Int) := ⟨(jb js x).t.toNat, by have := lx.t0; omega⟩
      have h1 := lx.q y hy
      have h2 := lx.t1
      rw [hu] at h1 h2
      have h3 := blk_le (ts := ts) (i := (jb js j).t) (u := u) (by omega) (by
        rw [← hp] at hpx
        unfold prO at hpx
        rw [hu] at hpx
        exact hpx)
      omega) hno w (Nat.le_refl _)
    have hW : lvW ts js p (tst ts js t0).dn + w ≤ lvW ts js p (tst ts js (t0 + w)).dn + blkS ts (jb js j).t := by
      rcases hlt with h | ⟨x, _, _, _, h4, _, h6, _⟩ | ⟨y, _, _, h3⟩
      · omega
      · rw [h4]; omega
      · exact h3
    have hI0 := ti_all (ts := ts) hl t0
    have hI1 := ti_all (ts := ts) hl (t0 + w)
    have hup : lvW ts js p (tst ts js (t0 + w)).dn < lvW ts js p (tst ts js t0).dn + rs js.length (fun k => if decide ((t0 : Int) ≤ (jb js k).r) && decide ((jb js k).r < ((t0 + w : Nat) : Int)) then (if prO ts js k ≤ p then (jb js k).k else 0) else 0) := by
      unfold lvW
      rw [← rs_add]
      have hpt : ∀ k, k < js.length → prO ts js k ≤ p → (kO (tst ts js (t0 + w)).dn k ≤ (jb js k).k) ∧ 0 ≤ kO (tst ts js t0).dn k ∧ ((jb js k).r < (t0 : Int) → kO (tst ts js t0).dn k = (jb js k).k) ∧ (¬ (jb js k).r < ((t0 + w : Nat) : Int) → kO (tst ts js (t0 + w)).dn k = 0) := fun k hk hpk => by
        refine ⟨(hI1.d0 k hk).2, (hI0.d0 k hk).1, fun h => hq0 k hk hpk h, fun h => ?_⟩
        rcases Int.lt_or_le 0 (kO (tst ts js (t0 + w)).dn k) with h1 | h1
        · exact absurd (hI1.dr k hk h1) h
        · have := (hI1.d0 k hk).1; omega
      refine rs_lt _ (fun k hk => ?_) ?_
      · by_cases hpk : prO ts js k ≤ p
        · obtain ⟨g1, g2, g3, g4⟩ := hpt k hk hpk
          simp only [if_pos hpk]
          by_cases c1 : (t0 : Int) ≤ (jb js k).r
          · by_cases c2 : (jb js k).r < ((t0 + w : Nat) : Int)
            · rw [if_pos (by simp only [Bool.and_eq_true, decide_eq_true_eq]; exact ⟨c1, c2⟩)]; omega
            · rw [if_neg (by simp only [Bool.and_eq_true, decide_eq_true_eq]; exact fun h => c2 h.2), g4 c2]; omega
          · rw [if_neg (by simp only [Bool.and_eq_true, decide_eq_true_eq]; exact fun h => c1 h.1)]
            have := g3 (by omega)
            omega
        · simp only [if_neg hpk]
          split <;> omega
      · have hnq := hno (t0 + w) (by omega) (Nat.le_refl _)
        simp only [qui, Classical.not_forall] at hnq
        obtain ⟨k, hk, hpk, hrk, hdk⟩ := hnq
        obtain ⟨g1, g2, g3, g4⟩ := hpt k hk hpk
        refine ⟨k, hk, ?_⟩
        have c1 : (t0 : Int) ≤ (jb js k).r := by
          rcases Int.lt_or_le (jb js k).r (t0 : Int) with h | h
          · have := g3 h
            have := dn_mono (ts := ts) hl t0 k w
            omega
          · exact h
        simp only [if_pos hpk]
        rw [if_pos (by simp only [Bool.and_eq_true, decide_eq_true_eq]; exact ⟨c1, hrk⟩)]
        omega
    have hwk := lv_work (js := js) hv L hD (i := (jb js j).t) (p := p) l.t0 l.t1 (by rw [← hp]; rfl) (t0 := t0) hw hwT
    unfold needS at hn
    omega
  obtain ⟨t, h1, h2, h3⟩ := hex
  have htr : r < t := by
    rcases Nat.lt_or_ge r t with h | h
    · exact h
    · exact absurd h3 (hmax t h1 h)
  have hd := h3 j hj (by omega) (by rw [hr]; omega)
  have hI := ti_all (ts := ts) hl t
  refine ⟨t, by omega, hd, ?_⟩
  have := hl.k1 j hj
  rcases hI.en j hj with h | h <;> omega
theorem sound_end (hv : Vs ts) (L : LJs ts js) (hD : Dist ts) {j : Nat} (hj : j < js.length) {w : Nat} (hw : 1 ≤ w) (hwT : (w : Int) + (tk ts (jb js j).t).j ≤ (tk ts (jb js j).t).t) (hn : needS ts (jb js j).t w ≤ w) {T : Nat} (hd : kO (tst ts js T).dn j = (jb js j).k) :
    kO (tst ts js T).en j - (jb js j).a ≤ w + (tk ts (jb js j).t).j := by
  obtain ⟨n, h1, h2, h3⟩ := enough_sound hv L hD hj hw hwT hn
  have hl := lg_of L
  have l := jb_lj L hj
  have := l.r1
  rcases Nat.le_total n T with h | h
  · obtain ⟨m, rfl⟩ := Nat.exists_eq_add_of_le h
    rw [(en_stay hl hj h2 m).2]; omega
  · obtain ⟨m, rfl⟩ := Nat.exists_eq_add_of_le h
    rw [(en_stay hl hj hd m).2] at h3; omega
end
end Go.Proofs.YtnhddnldebdmbaaGreatDoor
/- Held by other texts here. -/
/- Held by other texts here. -/
/- Contracts of package num's functions and of the document's own answers, over this seat's translation. -/
namespace Go.Proofs.YtnhddnldebdmbaaGreatDoor
open Go.RowKit

/-! ### Plain answers -/
def addB (a b : Int) : Bool := decide (a + b ≤ 18446744073709551615)
def addNN (a b : Int) : Int := if a + b ≤ 18446744073709551615 then a + b else 0
def mulB (a b : Int) : Bool := decide (a * b ≤ 18446744073709551615)
def mulN (a b : Int) : Int := if a * b ≤ 18446744073709551615 then a * b else 0
def ceilB (b : Int) : Bool := decide (b ≠ 0)
def ceilN (a b : Int) : Int := if b = 0 then 0 else if a % b = 0 then a / b else a / b + 1
def endN (ok : Bool) (n : Int) : Int := if ok then n else 18446744073709551615

theorem run_add64f (a b : Int) (ha : 0 ≤ a) (hb : 0 ≤ b) (w : World) :
    (callFunc 119 #[.int .u64 a, .int .u64 b, .int .u64 0]).run Tryz.prog w =
      .ok (.value (.tuple #[.int .u64 ((a + b) % 18446744073709551616), .int .u64 ((a + b) / 18446744073709551616)])) w := by
  rw [run_callFunc_extern Tryz.func119 (by kernel_rfl) (by kernel_rfl) (by kernel_rfl) (e := add64Entry) (by kernel_rfl), run_add64 a b 0 ha hb (by omega) (by omega)]
  simp only [Result.andThen, Int.add_zero]

set_option maxHeartbeats 400000 in
theorem add_any (a b : Int) (ha : 0 ≤ a) (ha1 : a ≤ 18446744073709551615) (hb : 0 ≤ b) (hb1 : b ≤ 18446744073709551615) (w : World) :
    Calls Tryz.prog 97 #[.int .u64 a, .int .u64 b] w fun e w' => e = .returned (.tuple #[.int .u64 (addNN a b), .bool (addB a b)]) ∧ w = w' := by
  have hr := run_add64f a b ha hb
  by_cases h : a + b ≤ 18446744073709551615
  · have e1 : addNN a b = a + b := by simp [addNN, h]
    have e2 : addB a b = true := by simp [addB, h]
    have q1 : (a + b) / 18446744073709551616 = 0 := by omega
    have q2 : (a + b) % 18446744073709551616 = a + b := by omega
    rw [e1, e2]
    rw [q1, q2] at hr
    clear q1 q2 e1 e2
    go_enter Tryz.func97, Tryz.ntmps97
    go_wp2
    go_ret2
    exact ⟨rfl, rfl⟩
  · have e1 : addNN a b = 0 := by simp [addNN, h]
    have e2 : addB a b = false := by simp [addB, h]
    have q1 : (a + b) / 18446744073709551616 = 1 := by omega
    rw [e1, e2]
    rw [q1] at hr
    clear q1 e1 e2
    go_enter Tryz.func97, Tryz.ntmps97
    go_wp2
    go_ret2
    exact ⟨rfl, rfl⟩


theorem mul64_any (a b : Int) (ha : 0 ≤ a) (ha1 : a ≤ 18446744073709551615) (hb : 0 ≤ b) (hb1 : b ≤ 18446744073709551615) (w : World) :
    Calls Tryz.prog 81 #[.int .u64 a, .int .u64 b] w fun e w' => e = .returned (.tuple #[.int .u64 (a * b / 18446744073709551616), .int .u64 (a * b % 18446744073709551616)]) ∧ w = w' := by
  obtain ⟨x, rfl⟩ := Int.eq_ofNat_of_zero_le ha
  obtain ⟨y, rfl⟩ := Int.eq_ofNat_of_zero_le hb
  refine (Tryz.bits_Mul64 x y (by omega) (by omega) w).mono fun e w' ⟨he, hw⟩ => ⟨?_, hw.symm⟩
  rw [he, ← Int.natCast_mul]
  rfl

theorem mul_nonneg' (a b : Int) (ha : 0 ≤ a) (hb : 0 ≤ b) : 0 ≤ a * b := Int.mul_nonneg ha hb

set_option maxHeartbeats 400000 in
theorem mul_any (a b : Int) (ha : 0 ≤ a) (ha1 : a ≤ 18446744073709551615) (hb : 0 ≤ b) (hb1 : b ≤ 18446744073709551615) (w : World) :
    Calls Tryz.prog 122 #[.int .u64 a, .int .u64 b] w fun e w' => e = .returned (.tuple #[.int .u64 (mulN a b), .bool (mulB a b)]) ∧ w = w' := by
  have hc := mul64_any a b ha ha1 hb hb1 w
  have hp := mul_nonneg' a b ha hb
  unfold mulN mulB
  generalize a * b = p at *
  by_cases h : p ≤ 18446744073709551615
  · have q1 : p / 18446744073709551616 = 0 := by omega
    have q2 : p % 18446744073709551616 = p := by omega
    rw [if_pos h, decide_eq_true h]
    rw [q1, q2] at hc
    clear q1 q2
    have H := Lib.hid hc
    clear hc
    go_enter Tryz.func122, Tryz.ntmps122
    go_wp2_with (go_at_call 81; refine H.out.mono ?_; rintro e w' ⟨rfl, rfl⟩)
    go_ret2
    exact ⟨rfl, rfl⟩
  · rw [if_neg h, decide_eq_false h]
    have q1 : (p / 18446744073709551616 == 0) = false := by simp; omega
    have H := Lib.hid hc
    clear hc
    go_enter Tryz.func122, Tryz.ntmps122
    go_wp2_with (go_at_call 81; refine H.out.mono ?_; rintro e w' ⟨rfl, rfl⟩)
    go_ret2
    exact ⟨rfl, rfl⟩

set_option maxHeartbeats 400000 in
theorem times_any (a b : Int) (ha : 0 ≤ a) (ha1 : a ≤ 18446744073709551615) (hb : 0 ≤ b) (hb1 : b ≤ 18446744073709551615) (w : World) :
    Calls Tryz.prog 100 #[.int .u64 a, .int .u64 b] w fun e w' => e = .returned (.int .u64 (endN (mulB a b) (mulN a b))) ∧ w = w' := by
  have hc := mul_any a b ha ha1 hb hb1 w
  generalize mulN a b = n at *
  generalize mulB a b = k at *
  have H := Lib.hid hc
  clear hc
  cases k
  all_goals
    simp only [endN]
    go_enter Tryz.func100, Tryz.ntmps100
    go_wp2_with (go_at_call 122; refine H.out.mono ?_; rintro e w' ⟨rfl, rfl⟩)
    go_ret
    exact ⟨rfl, rfl⟩

end Go.Proofs.YtnhddnldebdmbaaGreatDoor
/- Contracts of the document's own answers (package cadencyref01), of Ceil, and of Sum. -/
namespace Go.Proofs.YtnhddnldebdmbaaGreatDoor
open Go.RowKit
set_option linter.unusedVariables false

theorem mul_over (a b : Int) (hb : 0 < b) (h : 18446744073709551615 / b < a) : ¬ a * b ≤ 18446744073709551615 := by
  intro hle
  have := (Int.le_ediv_iff_mul_le hb).2 hle
  omega
theorem mul_under (a b : Int) (hb : 0 < b) (h : ¬ 18446744073709551615 / b < a) : a * b ≤ 18446744073709551615 :=
  (Int.le_ediv_iff_mul_le hb).1 (by omega)

theorem quo_le (a b : Int) (ha : 0 ≤ a) : 0 ≤ b → 0 ≤ a / b ∧ a / b ≤ a := fun hb => ⟨Int.ediv_nonneg ha hb, Int.ediv_le_self _ ha⟩
theorem quo_lt (a b : Int) (ha : 0 ≤ a) (ha1 : a ≤ 18446744073709551615) (hb : 0 < b) (h : a % b ≠ 0) : a / b + 1 ≤ 18446744073709551615 := by
  have h1 : b ≠ 1 := by intro e; subst e; omega
  have h0 : 0 ≤ a / b := Int.ediv_nonneg ha (by omega)
  have h2 : a / b * 2 ≤ a / b * b := Int.mul_le_mul_of_nonneg_left (by omega) h0
  have h3 := Int.ediv_mul_le a (b := b) (by omega)
  omega

set_option maxHeartbeats 400000 in
theorem ceil_any (a b : Int) (ha : 0 ≤ a) (ha1 : a ≤ 18446744073709551615) (hb : 0 ≤ b) (hb1 : b ≤ 18446744073709551615) (w : World) :
    Calls Tryz.prog 123 #[.int .u64 a, .int .u64 b] w fun e w' => e = .returned (.tuple #[.int .u64 (ceilN a b), .bool (ceilB b)]) ∧ w = w' := by
  by_cases h0 : b = 0
  · subst h0
    have e1 : ceilN a 0 = 0 := by simp [ceilN]
    have e2 : ceilB 0 = false := by simp [ceilB]
    rw [e1, e2]
    clear e1 e2
    go_enter Tryz.func123, Tryz.ntmps123
    go_wp2
    go_ret2
    exact ⟨rfl, rfl⟩
  · have hp : 0 < b := by omega
    have hz : (b == 0) = false := by simp; omega
    have hq := quo_le a b ha hb
    have e2 : ceilB b = true := by simp [ceilB, h0]
    have hm := Int.emod_nonneg a h0
    by_cases hr : a % b = 0
    · have e1 : ceilN a b = a / b := by simp [ceilN, h0, hr]
      have hrb : (a % b == 0) = true := by simp [hr]
      rw [e1, e2]
      clear e1 e2 hr h0
      go_enter Tryz.func123, Tryz.ntmps123
      go_wp2
      go_ret2
      exact ⟨rfl, rfl⟩
    · have e1 : ceilN a b = a / b + 1 := by simp [ceilN, h0, hr]
      have hrb : (a % b == 0) = false := by simp; exact hr
      have hl := quo_lt a b ha ha1 hp hr
      rw [e1, e2]
      clear e1 e2 hr h0
      go_enter Tryz.func123, Tryz.ntmps123
      go_wp2
      go_ret2
      exact ⟨rfl, rfl⟩

/-! ### Sum -/
def satAdd (s n : Int) : Int := if s + n ≤ 18446744073709551615 then s + n else 18446744073709551615
def satSum (s : Int) (l : List Int) : Int := l.foldl satAdd s
theorem satSum_top : ∀ (l : List Int), (∀ n ∈ l, 0 ≤ n) → satSum 18446744073709551615 l = 18446744073709551615
  | [], _ => rfl
  | n :: l, h => by
    have h0 := h n (by simp)
    have : satAdd 18446744073709551615 n = 18446744073709551615 := by unfold satAdd; split <;> omega
    rw [satSum, List.foldl_cons, this]
    exact satSum_top l fun m hm => h m (by simp [hm])
theorem satSum_bd : ∀ (l : List Int) (s : Int), 0 ≤ s → s ≤ 18446744073709551615 → (∀ n ∈ l, 0 ≤ n) → 0 ≤ satSum s l ∧ satSum s l ≤ 18446744073709551615
  | [], s, h0, h1, _ => ⟨h0, h1⟩
  | n :: l, s, h0, h1, h => by
    have h2 := h n (by simp)
    rw [satSum, List.foldl_cons]
    exact satSum_bd l _ (by unfold satAdd; split <;> omega) (by unfold satAdd; split <;> omega) fun m hm => h m (by simp [hm])
theorem take_oneN (zs : List Int) (k : Nat) (h : k < zs.length) : zs.take (k + 1) = zs.take k ++ [zs.getD k 0] := by
  rw [List.take_succ_eq_append_getElem h]; simp [List.getD_eq_getElem?_getD, h]
theorem satSum_snoc (s : Int) (zs : List Int) (k : Nat) (h : k < zs.length) : satSum s (zs.take (k + 1)) = satAdd (satSum s (zs.take k)) (zs.getD k 0) := by
  rw [take_oneN zs k h, satSum, List.foldl_append]; rfl
theorem satSum_over (s : Int) (zs : List Int) (k : Nat) (hn : ∀ n ∈ zs, 0 ≤ n) (h : k < zs.length) (ho : ¬ satSum s (zs.take k) + zs.getD k 0 ≤ 18446744073709551615) : satSum s zs = 18446744073709551615 := by
  have e : zs = zs.take (k + 1) ++ zs.drop (k + 1) := (List.take_append_drop _ _).symm
  have : satSum s zs = satSum (satSum s (zs.take (k + 1))) (zs.drop (k + 1)) := by
    conv => lhs; rw [e]
    rw [satSum, List.foldl_append]; rfl
  rw [this, satSum_snoc s zs k h, satAdd, if_neg ho]
  exact satSum_top _ fun n hm => hn n (List.mem_of_mem_drop hm)
theorem ret_u64 {a b : Int} (h : a = b) : Ending.returned (.int .u64 a) = .returned (.int .u64 b) := by rw [h]

set_option maxHeartbeats 800000 in
theorem sum_any (first : Int) (x : Addr) (len cap : Nat) (zs : List Int) (h0 : 0 ≤ first) (h1 : first ≤ 18446744073709551615) (hlen : zs.length = len) (hcap : len ≤ cap) (hmax : cap ≤ maxLen)
    (w : World) (hc : ∀ i, i < len → w.cell? (x.add i) = some (.int .u64 (zs.getD i 0))) (hz : ∀ n ∈ zs, 0 ≤ n ∧ n ≤ 18446744073709551615) :
    Calls Tryz.prog 74 #[.int .u64 first, .slice (some x) len cap] w fun e w' => e = .returned (.int .u64 (satSum first zs)) ∧ w = w' := by
  unfold maxLen at hmax
  have HC := Lib.hid hc
  have HL := Lib.hid hlen
  have HZ := Lib.hid hz
  clear hc hlen hz
  go_enter Tryz.func74, Tryz.ntmps74
  go_wp2
  go_loop [5, 13] (fun s i => ∃ k : Nat, k ≤ len ∧ i = .int .i64 k ∧ s = .int .u64 (satSum first (zs.take k))) (fun _ i => len - (intOf i).toNat)
  case atStart => exact ⟨0, Nat.zero_le _, rfl, rfl⟩
  case round =>
    obtain ⟨k, hk, rfl, rfl⟩ := hrel
    have hnn : ∀ n ∈ zs.take k, 0 ≤ n := fun n hn => (HZ.out n (List.mem_of_mem_take hn)).1
    have hb := satSum_bd (zs.take k) first h0 h1 hnn
    clear hnn
    by_cases hlt : k < len
    · have hcell := HC.out k hlt
      have hkz : k < zs.length := by rw [HL.out]; exact hlt
      have hzb : 0 ≤ zs.getD k 0 ∧ zs.getD k 0 ≤ 18446744073709551615 := HZ.out _ (by rw [List.getD_eq_getElem?_getD, List.getElem?_eq_getElem hkz]; exact List.getElem_mem _)
      have HS := Lib.hid (satSum_snoc first zs k hkz)
      have HO := Lib.hid (satSum_over first zs k (fun n hn => (HZ.out n hn).1) hkz)
      have hadd := add_any (satSum first (zs.take k)) (zs.getD k 0) hb.1 hb.2 hzb.1 hzb.2 w
      clear hkz
      generalize zs.getD k 0 = z at *
      generalize satSum first (zs.take k) = s at *
      by_cases ho : s + z ≤ 18446744073709551615
      · have e1 : addNN s z = s + z := by simp [addNN, ho]
        have e2 : addB s z = true := by simp [addB, ho]
        rw [e1, e2] at hadd
        have HA := Lib.hid hadd
        clear hadd e1 e2
        go_wp2_with (go_at_call 97; refine HA.out.mono ?_; rintro e w' ⟨rfl, rfl⟩)
        go_round
        case rel => exact ⟨k + 1, by omega, by go_num, by rw [HS.out, satAdd, if_pos ho]⟩
        case measure => simp [intOf]; omega
      · have e1 : addNN s z = 0 := by simp [addNN, ho]
        have e2 : addB s z = false := by simp [addB, ho]
        rw [e1, e2] at hadd
        have HA := Lib.hid hadd
        clear hadd e1 e2
        go_wp2_with (go_at_call 97; refine HA.out.mono ?_; rintro e w' ⟨rfl, rfl⟩)
        go_ret
        exact ⟨ret_u64 (HO.out ho).symm, rfl⟩
    · go_wp2
      go_ret
      exact ⟨ret_u64 (by rw [List.take_of_length_le (by rw [HL.out]; omega)]), rfl⟩
end Go.Proofs.YtnhddnldebdmbaaGreatDoor
