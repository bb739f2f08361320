/- Texts about the program, one after the other: ENew. -/
import Derived.Test.YtngmaiiibinkaaaGreatG13
import Derived.Laws.MakeOwn
/- A new executive. -/
namespace Go.Proofs.YtngmaiiibinkaaaGreat
open Go.RowKit
set_option linter.unusedVariables false
set_option linter.unusedSimpArgs false
attribute [local go_sem ↓] Go.wp_at_zero Go.wp_at_succ
theorem infoQu : (Tryz.prog.info? TQu).map (fun i => (i.zero, i.size, i.bytes)) = some (some (.agg #[.slice none 0 0, .int .i64 0, .int .i64 0]), 3, 40) := by kernel_rfl
def quCells (n : Nat) : Array Value := madeCells (Value.cells (.agg #[.slice none 0 0, .int .i64 0, .int .i64 0])) (n * 3)
theorem make_qu (n : Nat) (hn : n ≤ 1000) (W : World) : (Instr.makeSlice 83 (.int .i64 (n : Int)) (.int .i64 (n : Int))).run Tryz.prog W = .ok (.slice (some ⟨W.heap.size, 0, none⟩) n n) (W.alloc (.cells (quCells n) TQu)) := by
  obtain ⟨i0, hi, hz0, hz1, hz2⟩ := info_parts infoQu
  have h := run_make (P := Tryz.prog) W 83 TQu i0 _ Tryz.underlying83 hi hz0 .i64 .i64 n n (by omega) (Int.le_refl _) (by rw [hz2]; omega) (by omega)
  simp only [Int.toNat_natCast, hz1] at h
  exact h
abbrev NS (W1 : World) (bl : Nat) (A : Option Addr) (n cap : Nat) (W : World) : Prop := W.cell? ⟨bl, 0, none⟩ = some (.slice A n cap) ∧ Lt W1 W
theorem NS.step {W1 W W' : World} {bl n cap : Nat} {A : Option Addr} (h : NS W1 bl A n cap W) (hl : Lt W W') : NS W1 bl A n cap W' := by
  have hl : Below W.heap.size W W' := hl
  have h2 : Below W1.heap.size W1 W := h.2
  exact ⟨(hl.cell (p := ⟨bl, 0, none⟩) (World.block_lt_of_cell? W _ h.1)).trans h.1, h2.trans (hl.mono h2.size)⟩
/-- What newExecutive has made. -/
structure NwS (W1 : World) (K : LK) (R : Option Addr) (rc : Nat) (ts : List Ts) (js : List Fv) (bx : Nat) (wx : World) : Prop where
  ex : ∃ (o : List Nat) (vc : Value) (gq ge hb Bh : Nat) (X : List Nat), IsOrd (rls js) o ∧ wx.ownsRow W1.heap.size TIn 1 vc (rls js).length (numL (nL o)) ∧ (∃ g, vc = .slice (some ⟨g, 0, none⟩) (rls js).length (rls js).length) ∧
    HsI K Bh wx hb X 0 [] ∧ W1.heap.size ≤ Bh ∧ wx.heap[gq]? = some (Obj.cells (quCells ts.length) TQu (0, 0)) ∧ W1.heap.size ≤ gq ∧ wx.heap[ge]? = some (Obj.cells (madeCells (Value.cells (.int .i64 0)) js.length) T64 (0, 0)) ∧ W1.heap.size ≤ ge ∧
    wx.heap[bx]? = some (Obj.cells #[.slice R js.length rc, vc, .pointer (some ⟨hb, 0, none⟩), .slice (some ⟨gq, 0, none⟩) ts.length ts.length, .int .i64 0, .slice none 0 0, .slice (some ⟨ge, 0, none⟩) js.length js.length] TX (0, 0)) ∧ W1.heap.size ≤ bx ∧ Lt W1 wx
theorem quCells_get {n τ : Nat} (h : τ < n) : (quCells n)[τ * 3]? = some (.slice none 0 0) ∧ (quCells n)[τ * 3 + 1]? = some (.int .i64 0) ∧ (quCells n)[τ * 3 + 2]? = some (.int .i64 0) := by
  have key : ∀ j (hj : j < 3), (quCells n)[τ * 3 + j]? = some ((#[.slice none 0 0, .int .i64 0, .int .i64 0] : Array Value)[j]!) := by
    intro j hj
    unfold quCells madeCells
    have e : Value.cells (.agg #[.slice none 0 0, .int .i64 0, .int .i64 0]) = #[.slice none 0 0, .int .i64 0, .int .i64 0] := rfl
    rw [e, Array.getElem?_map, Array.getElem?_range, if_pos (by omega)]
    simp only [Option.map_some]
    congr 2
    show (τ * 3 + j) % 3 = j
    omega
  exact ⟨key 0 (by omega), key 1 (by omega), key 2 (by omega)⟩
structure JH (ts : List Ts) (js : List Fv) : Prop where
  lg : Lg js
  seq : Seq js
  dist : Dist ts
  t0 : ∀ i, i < js.length → 0 ≤ (jb js i).t ∧ (jb js i).t < ts.length
  bd : ∀ i, i < js.length → (jb js i).r ≤ 35184372088832 ∧ (jb js i).k ≤ 2147483647
  nt : 0 < ts.length
  ft : ts.length ≤ 1000
  fj : js.length ≤ 1000
def NewP (w : World) (R : Option Addr) (rc : Nat) (ts : List Ts) (js : List Fv) (e : Ending) (w' : World) : Prop :=
  ∃ C, e = .returned (.pointer (some ⟨C.bx, 0, none⟩)) ∧ Cok C ∧ C.w0 = w ∧ C.ts = ts ∧ C.js = js ∧ PlI C 0 0 w' ∧ ∀ T, PlI C T 0 w'
theorem new_end {w W1 wc wr : World} {lb lo cap : Nat} {R : Option Addr} {rc : Nat} {ts : List Ts} {js : List Fv} {bx gq ge hb Bh : Nat} {vc : Value} {o X : List Nat} (H : JH ts js) (hR : FRow w R rc js) (hlb : lb < w.heap.size) (B1 : Lt w W1) (hs : W1.heap.size = w.heap.size + 1)
    (hBl : W1.heap[w.heap.size]? = some (Obj.cells #[.slice (some ⟨lb, lo, none⟩) ts.length cap] TTs (0, 0)))
    (n1 : IsOrd (rls js) o) (n2 : wc.ownsRow W1.heap.size TIn 1 vc (rls js).length (numL (nL o))) (n3 : ∃ g, vc = .slice (some ⟨g, 0, none⟩) (rls js).length (rls js).length)
    (n4 : HsI ⟨w.heap.size, lb, lo, cap, ts.map (·.p)⟩ Bh wc hb X 0 []) (n5 : W1.heap.size ≤ Bh) (n6 : wc.heap[gq]? = some (Obj.cells (quCells ts.length) TQu (0, 0))) (n7 : W1.heap.size ≤ gq) (n9 : W1.heap.size ≤ ge) (n8 : wc.heap[ge]? = some (Obj.cells (madeCells (Value.cells (.int .i64 0)) js.length) T64 (0, 0)))
    (n10 : wc.heap[bx]? = some (Obj.cells #[.slice R js.length rc, vc, .pointer (some ⟨hb, 0, none⟩), .slice (some ⟨gq, 0, none⟩) ts.length ts.length, .int .i64 0, .slice none 0 0, .slice (some ⟨ge, 0, none⟩) js.length js.length] TX (0, 0))) (n11 : W1.heap.size ≤ bx) (n12 : Lt W1 wc)
    (hE : EnR wc ge js.length js.length wr) : NewP w R rc ts js (.returned (.pointer (some ⟨bx, 0, none⟩))) wr := by
  have hC : Cok ⟨w, R, rc, ts, js, o, ⟨w.heap.size, lb, lo, cap, ts.map (·.p)⟩, bx, hb, gq, Bh⟩ :=
    ⟨hR, n1, H.fj, H.ft, H.lg, H.seq, H.dist, H.t0, H.bd, rfl, hlb, by simp only; omega, by simp only; omega⟩
  have bc : Below w.heap.size w wc := ltT B1 n12
  have kt : KT [T64] wc wr := KT.kept hE.kp (fun k hk => by rw [List.mem_singleton.1 hk]; exact ⟨_, _, n8, by simp⟩)
  have br : Below w.heap.size w wr := bc.trans (hE.kp.below bc.size (fun k hk => by rw [List.mem_singleton.1 hk]; omega))
  have hbl := heapLt hBl n12
  have hlen : o.length = js.length := by have := n1.len; simpa using this
  have hX : Ex ⟨w, R, rc, ts, js, o, ⟨w.heap.size, lb, lo, cap, ts.map (·.p)⟩, bx, hb, gq, Bh⟩ wr (Cfg.mv ⟨w, R, rc, ts, js, o, ⟨w.heap.size, lb, lo, cap, ts.map (·.p)⟩, bx, hb, gq, Bh⟩ 0 0 []) vc (.slice none 0 0) (.slice (some ⟨ge, 0, none⟩) js.length js.length) (fun _ => 0) (fun _ => .slice none 0 0) (lfN js (List.replicate js.length 0)) := by
    refine ⟨br, kt.blk _ _ _ n10 (by decide), ?_, World.ownsRow_nil _ _ _ _, hE.own (by simp only; omega) H.fj, ⟨X, 0, n4.kt kt (by decide) bc br hlb ⟨_, hbl⟩, Nat.le_refl _⟩, ⟨_, kt.blk _ _ _ hbl (by decide)⟩, fun τ hτ => ?_, fun τ σ g _ _ _ hg => by simp [Value.ownBlock] at hg, fun p hp => by simp [Cfg.mv] at hp, fun p q hp => by simp [Cfg.mv] at hp⟩
    · obtain ⟨g, rfl⟩ := n3
      obtain ⟨cs, hcs⟩ := own_ty n2 (g := g) rfl
      refine Com.kt (w := wc) ⟨g, 0, cs, by simp [Cfg.mv, hlen], by have := (n2.lt g rfl).1; simp only; omega, hcs, by simp [Cfg.mv, hlen]; exact H.fj, fun j p hp => ?_⟩ kt (by decide)
      simp only [Cfg.mv, List.drop_zero] at hp
      rw [Nat.zero_add]
      exact own_cell n2 rfl (by simp [numL, nL, hp])
    · obtain ⟨q0, q1, q2⟩ := quCells_get (n := ts.length) hτ
      have hq := kt.blk _ _ _ n6 (by decide)
      refine ⟨0, 0, ⟨by simp only; omega, ⟨_, hq⟩, by rw [cell_of_row _ _ _ _ _ _ hq, q0], by rw [cell_of_row _ _ _ _ _ _ hq, q1]; rfl, by rw [cell_of_row _ _ _ _ _ _ hq, q2]; simp [Cfg.mv, quS], .inl ⟨rfl, rfl, rfl, by simp [Cfg.mv, quS]⟩, by omega⟩, by omega⟩
  have hF : PlF ⟨w, R, rc, ts, js, o, ⟨w.heap.size, lb, lo, cap, ts.map (·.p)⟩, bx, hb, gq, Bh⟩ 0 0 [] := by
    refine ⟨⟨List.Pairwise.nil, fun τ => by simp [quS], by simp⟩, fun i hi => by simp [Cfg.st, tst] at hi, Nat.zero_le _, by simp, fun p hp => ?_⟩
    have hpl : p < js.length := by have := n1.mem.1 (List.mem_of_mem_drop hp); simpa using this
    simp only [Cfg.st, tst]
    exact kO_rep _ _ _ hpl
  exact ⟨_, rfl, hC, rfl, rfl, rfl, ⟨⟨0, [], _, vc, _, _, _, _, hX, fun _ => ⟨rfl, hF⟩⟩, Nat.le_refl _⟩, fun T => ⟨⟨0, [], _, vc, _, _, _, _, hX, fun _ => ⟨rfl, hF⟩⟩, Nat.zero_le _⟩⟩
theorem nws_mk {W1 Wl wf wo wn wq we : World} {K : LK} {R : Option Addr} {rc : Nat} {ts : List Ts} {js : List Fv} {vc : Value} {gq ge hb Bh B0 : Nat} {o : List Nat} {X : List Nat}
    (hwf : wf = Wl.alloc (.cells #[.slice R js.length rc, vc, .pointer (some ⟨hb, 0, none⟩), .slice (some ⟨gq, 0, none⟩) ts.length ts.length, .int .i64 0, .slice none 0 0, .slice (some ⟨ge, 0, none⟩) js.length js.length] TX))
    (hO1 : IsOrd (rls js) o) (hO2 : wo.ownsRow B0 TIn 1 vc (rls js).length (numL (nL o))) (hB0 : W1.heap.size ≤ B0) (lO : Lt wo Wl) (hv : ∃ g, vc = .slice (some ⟨g, 0, none⟩) (rls js).length (rls js).length)
    (hN : HsI K Bh wn hb X 0 []) (lN : Lt wn Wl) (hBh : W1.heap.size ≤ Bh) (hq : wq.heap[gq]? = some (Obj.cells (quCells ts.length) TQu (0, 0))) (lq : Lt wq Wl) (hq2 : W1.heap.size ≤ gq)
    (he : we.heap[ge]? = some (Obj.cells (madeCells (Value.cells (.int .i64 0)) js.length) T64 (0, 0))) (le : Lt we Wl) (he2 : W1.heap.size ≤ ge) (lt : Lt W1 Wl) : NwS W1 K R rc ts js Wl.heap.size wf := by
  subst hwf
  have hl : Lt Wl (Wl.alloc (.cells #[.slice R js.length rc, vc, .pointer (some ⟨hb, 0, none⟩), .slice (some ⟨gq, 0, none⟩) ts.length ts.length, .int .i64 0, .slice none 0 0, .slice (some ⟨ge, 0, none⟩) js.length js.length] TX)) := ltA (ltR _) _
  exact ⟨o, vc, gq, ge, hb, Bh, X, hO1, ownLt (own_mono hO2 hB0) (ltT lO hl), hv, hN.later (ltT lN hl), hBh, heapLt hq (ltT lq hl), hq2, heapLt he (ltT le hl), he2, heap_alloc_new _ _, ltS lt, ltT lt hl⟩
set_option maxRecDepth 100000 in
set_option maxHeartbeats 16000000 in
theorem newX_any {A R : Option Addr} {cap rc : Nat} {ts : List Ts} {js : List Fv} (w : World) (hT : Row w A cap ts) (hR : FRow w R rc js) (H : JH ts js) :
    Calls Tryz.prog 37 #[.slice A ts.length cap, .slice R js.length rc] w (NewP w R rc ts js) := by
  have hnt := H.nt
  have hft := H.ft
  have hfj := H.fj
  obtain ⟨lb, lo, x0, rfl, hx0, hxw, hlb, hX0⟩ := hT.get (k := 0) hnt
  obtain ⟨W1, hW1⟩ : ∃ W1, w.alloc (.cells #[.slice (some ⟨lb, lo, none⟩) ts.length cap] 25) = W1 := ⟨_, rfl⟩
  have B1 : Lt w W1 := by rw [← hW1]; exact ltA (ltR w) _
  have cb : W1.cell? ⟨w.heap.size, 0, none⟩ = some (.slice (some ⟨lb, lo, none⟩) ts.length cap) := by rw [← hW1]; exact cell_of_row _ _ 0 _ _ _ (heap_alloc_new w _)
  have hBl : W1.heap[w.heap.size]? = some (Obj.cells #[.slice (some ⟨lb, lo, none⟩) ts.length cap] 25 (0, 0)) := by rw [← hW1]; exact heap_alloc_new w _
  have hs1 : W1.heap.size = w.heap.size + 1 := by rw [← hW1]; simp
  have NS1 : NS W1 w.heap.size (some ⟨lb, lo, none⟩) ts.length cap W1 := ⟨cb, ltR _⟩
  have KO := Lib.hid (fun W (h : NS W1 w.heap.size (some ⟨lb, lo, none⟩) ts.length cap W) => order_any R rc js W (hR.later (ltT B1 h.2)) hfj)
  have LK0 : ∀ W, NS W1 w.heap.size (some ⟨lb, lo, none⟩) ts.length cap W → LessOk ⟨w.heap.size, lb, lo, cap, ts.map (·.p)⟩ W.heap.size W := fun W h => by
    have hl := ltS h.2
    have hTW := hT.later (ltT B1 h.2)
    refine ⟨by simp only; omega, by simp only; omega, Nat.le_refl _, by simp; omega, by simp only [List.length_map]; exact ⟨hT.le, hT.mx⟩, by simp only [List.length_map]; exact h.1, fun i p hp => ?_⟩
    simp only [List.getElem?_map, Option.map_eq_some_iff] at hp
    obtain ⟨x, hx, rfl⟩ := hp
    obtain ⟨b', o', e, ht⟩ := hTW.at_ i x hx
    simp only [Option.some.injEq, Addr.mk.injEq, and_true] at e
    obtain ⟨rfl, rfl⟩ := e
    exact ht.c6
  have KN := Lib.hid (fun W (h : NS W1 w.heap.size (some ⟨lb, lo, none⟩) ts.length cap W) => show Calls Tryz.prog 54 #[.func (.func 55) #[] #[.pointer (some ⟨w.heap.size, 0, none⟩)], .slice none 0 0] W (HNewI ⟨w.heap.size, lb, lo, cap, ts.map (·.p)⟩ 0 [] W) from
    new_anyI (K := ⟨w.heap.size, lb, lo, cap, ts.map (·.p)⟩) (n := 0) (cap := 0) (xs := []) W (LK0 W h) (fun i x hx => by simp at hx) rfl (by omega) (Nat.le_refl _) (by omega))
  obtain ⟨gQ, aQ, MQ, FQ⟩ : ∃ (gQ : World → Nat) (aQ : World → World), (∀ W, (Instr.makeSlice 83 (.int .i64 (ts.length : Int)) (.int .i64 (ts.length : Int))).run Tryz.prog W = .ok (.slice (some ⟨gQ W, 0, none⟩) ts.length ts.length) (aQ W)) ∧ ∀ W, (aQ W).heap[gQ W]? = some (Obj.cells (quCells ts.length) TQu (0, 0)) ∧ W.heap.size ≤ gQ W ∧ Lt W (aQ W) :=
    ⟨_, _, fun W => make_qu ts.length hft W, fun W => ⟨heap_alloc_new W _, Nat.le_refl _, ltA (ltR W) _⟩⟩
  obtain ⟨gE, aE, M6, FE⟩ : ∃ (gE : World → Nat) (aE : World → World), (∀ W, (Instr.makeSlice 31 (.int .i64 (js.length : Int)) (.int .i64 (js.length : Int))).run Tryz.prog W = .ok (.slice (some ⟨gE W, 0, none⟩) js.length js.length) (aE W)) ∧ ∀ W, (aE W).heap[gE W]? = some (Obj.cells (madeCells (Value.cells (.int .i64 0)) js.length) T64 (0, 0)) ∧ W.heap.size ≤ gE W ∧ Lt W (aE W) :=
    ⟨_, _, fun W => make_64 js.length hfj W, fun W => ⟨heap_alloc_new W _, Nat.le_refl _, ltA (ltR W) _⟩⟩
  have FQ := Lib.hid FQ
  have FE := Lib.hid FE
  have HN := Lib.hid NS1
  have END := Lib.hid (fun wc wr (bx gq ge hb Bh : Nat) (vc : Value) (o X : List Nat) => new_end (lo := lo) (cap := cap) (wc := wc) (wr := wr) (bx := bx) (gq := gq) (ge := ge) (hb := hb) (Bh := Bh) (vc := vc) (o := o) (X := X) H hR hlb B1 hs1 hBl)
  clear hT hR NS1 cb LK0 hX0 hs1
  generalize hbl : w.heap.size = bl at *
  go_enter Tryz.func37, Tryz.ntmps37
  go_upto_region 1 with (fail)
  try rw [hW1]
  clear hW1
  have HN0 := Lib.hid (NS.step HN.out (ltD (ltR W1)))
  have FQL : ∀ W, Lt W (aQ W) := fun W => (FQ.out W).2.2
  have FEL : ∀ W, Lt W (aE W) := fun W => (FE.out W).2.2
  go_cut [5] from 7 to 19 (fun s5 wx => ∃ bx, s5 = .pointer (some ⟨bx, 0, none⟩) ∧ NwS W1 ⟨bl, lb, lo, cap, ts.map (·.p)⟩ R rc ts js bx wx)
  case first =>
    go_region_held_law (fun W => NS W1 bl (some ⟨lb, lo, none⟩) ts.length cap W)
      (first | (with_reducible assumption) | (with_reducible exact HN0.out) | (with_reducible exact HNo.out) | (with_reducible exact HNn.out) | exact NS.step (by with_reducible assumption) (FQ.out _).2.2 | exact NS.step (by with_reducible assumption) (FE.out _).2.2 | exact NS.step (by with_reducible assumption) (ltA (ltR _) _) | fail)
      (first
      | (go_at_call 53; (with_reducible refine (KO.out _ (by with_reducible assumption)).mono ?_); rintro e wo ⟨vo, o, rfl, hO1, hO2, hO3, go, hO4⟩; rw [List.length_map] at hO4; subst hO4; have hO3' : Lt _ wo := hO3; have HNo := Lib.hid (NS.step (by with_reducible assumption) hO3))
      | (go_at_call 54; (with_reducible refine (KN.out _ (by with_reducible assumption)).mono ?_); rintro e wn ⟨X, rfl, hN1, hN2⟩; have hN2' : Lt _ wn := hN2; have HNn := Lib.hid (NS.step (by with_reducible assumption) hN2))
      | fail)
    all_goals
      go_wp2_with (fail)
      go_meet
      refine ⟨_, rfl, nws_mk rfl hO1 hO2 ?_ ?_ ⟨go, by rw [List.length_map]⟩ hN1 ?_ ?_ (FQ.out _).1 ?_ ?_ (FE.out _).1 ?_ ?_ ?_⟩
      · refine ltS ?_
        (repeat (first | exact ltR _ | exact FQL _ | exact FEL _ | refine ltA ?_ _ | refine ltD ?_ | refine ltT ?_ hO3' | refine ltT ?_ hN2' | refine ltT ?_ (FQL _) | refine ltT ?_ (FEL _)))
      · (repeat (first | exact ltR _ | exact FQL _ | exact FEL _ | refine ltA ?_ _ | refine ltD ?_ | refine ltT ?_ hO3' | refine ltT ?_ hN2' | refine ltT ?_ (FQL _) | refine ltT ?_ (FEL _)))
      · (repeat (first | exact ltR _ | exact FQL _ | exact FEL _ | refine ltA ?_ _ | refine ltD ?_ | refine ltT ?_ hO3' | refine ltT ?_ hN2' | refine ltT ?_ (FQL _) | refine ltT ?_ (FEL _)))
      · refine ltS ?_
        (repeat (first | exact ltR _ | exact FQL _ | exact FEL _ | refine ltA ?_ _ | refine ltD ?_ | refine ltT ?_ hO3' | refine ltT ?_ hN2' | refine ltT ?_ (FQL _) | refine ltT ?_ (FEL _)))
      · (repeat (first | exact ltR _ | exact FQL _ | exact FEL _ | refine ltA ?_ _ | refine ltD ?_ | refine ltT ?_ hO3' | refine ltT ?_ hN2' | refine ltT ?_ (FQL _) | refine ltT ?_ (FEL _)))
      · refine Nat.le_trans (ltS ?_) (FQ.out _).2.1
        (repeat (first | exact ltR _ | exact FQL _ | exact FEL _ | refine ltA ?_ _ | refine ltD ?_ | refine ltT ?_ hO3' | refine ltT ?_ hN2' | refine ltT ?_ (FQL _) | refine ltT ?_ (FEL _)))
      · (repeat (first | exact ltR _ | exact FQL _ | exact FEL _ | refine ltA ?_ _ | refine ltD ?_ | refine ltT ?_ hO3' | refine ltT ?_ hN2' | refine ltT ?_ (FQL _) | refine ltT ?_ (FEL _)))
      · refine Nat.le_trans (ltS ?_) (FE.out _).2.1
        (repeat (first | exact ltR _ | exact FQL _ | exact FEL _ | refine ltA ?_ _ | refine ltD ?_ | refine ltT ?_ hO3' | refine ltT ?_ hN2' | refine ltT ?_ (FQL _) | refine ltT ?_ (FEL _)))
      · (repeat (first | exact ltR _ | exact FQL _ | exact FEL _ | refine ltA ?_ _ | refine ltD ?_ | refine ltT ?_ hO3' | refine ltT ?_ hN2' | refine ltT ?_ (FQL _) | refine ltT ?_ (FEL _)))
  case rest =>
    obtain ⟨bx, rfl, hN⟩ := hcut
    obtain ⟨o, vc, gq, ge, hb, Bh, X, n1, n2, n3, n4, n5, n6, n7, n8, n9, n10, n11, n12⟩ := hN.ex
    have END2 := Lib.hid (fun wr => END.out wc wr bx gq ge hb Bh vc o X n1 n2 n3 n4 n5 n6 n7 n9 n8 n10 n11 n12)
    have c6 := cell_of_row wc bx 6 _ _ _ n10
    simp only [List.getElem?_toArray, List.getElem?_cons_zero, List.getElem?_cons_succ] at c6
    have hbg : bx ≠ ge := fun e => by
      rw [e, n8] at n10
      simp only [Option.some.injEq, Obj.cells.injEq] at n10
      exact absurd n10.2.1 (by decide)
    have hbxl := World.block_lt_of_cell? wc _ c6
    have E0 := Lib.hid (show EnR wc ge js.length 0 wc from ⟨⟨_, n8, by rw [size_madeCells], fun j hj => absurd hj (by omega)⟩, Kept.refl _ _⟩)
    generalize js.length = n at *
    clear n1 n2 n3 n4 n5 n6 n7 n8 n9 n10 n11 n12 hN END
    go_wp2
    go_loopw [6, 25] (fun v i wr => ∃ k : Nat, k ≤ n ∧ i = .int .i64 (k : Int) ∧ Hid (EnR wc ge n k wr)) (fun _ i _ => n - (intOf i).toNat)
    case atStart => exact ⟨0, Nat.zero_le _, rfl, E0⟩
    case round =>
      obtain ⟨k, hk, rfl, hI⟩ := hrel
      by_cases hlt : k < n
      · obtain ⟨⟨v, cv⟩, fv⟩ := hI.out.cell hlt
        have d6 := (hI.out.kp.cell (i := 6) hbxl (by simp; exact hbg)).trans c6
        have hi0 : (0 : Int) ≤ (k : Int) := by omega
        have hi1 : (k : Int) < (n : Int) := by omega
        have S := Lib.hid (hI.out.step hlt)
        go_wp2
        go_roundw
        case rel => exact ⟨k + 1, by omega, by go_num, S⟩
        case measure => simp [intOf]; omega
      · obtain rfl : k = n := by omega
        go_wp2
        go_ret
        exact END2.out _ hI.out
end Go.Proofs.YtngmaiiibinkaaaGreat
