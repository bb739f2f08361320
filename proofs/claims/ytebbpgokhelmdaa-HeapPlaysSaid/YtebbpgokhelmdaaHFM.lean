/- A heap's Peek, Pop. -/
import Derived.Test.YtebbpgokhelmdaaHEM
namespace Go.Proofs.Ytebbpgokhelmdaa
open Go.RowKit
set_option linter.unusedVariables false
set_option linter.unusedSimpArgs false
attribute [local go_sem ↓] Go.wp_at_zero Go.wp_at_succ

/-- A thing in a box. -/
structure IB (W : World) (b : Nat) (x : It) : Prop where
  is : W.heap[b]? = some (.cells #[.int .i64 x.k, .int .i64 x.w] 31 (0, 0))
theorem IB.lt {W : World} {b : Nat} {x : It} (h : IB W b x) : b < W.heap.size := (Array.getElem?_eq_some_iff.1 h.is).1
theorem IB.c0 {W : World} {b : Nat} {x : It} (h : IB W b x) : W.cell? ⟨b, 0, none⟩ = some (.int .i64 x.k) := by rw [cell_of_row W b 0 _ _ _ h.is]; rfl
theorem IB.c1 {W : World} {b : Nat} {x : It} (h : IB W b x) : W.cell? ⟨b, 1, none⟩ = some (.int .i64 x.w) := by rw [cell_of_row W b 1 _ _ _ h.is]; rfl
theorem IB.frozen {W : World} {b : Nat} {x : It} (h : IB W b x) (i : Nat) : W.frozen? ⟨b, i, none⟩ = false := by simp [World.frozen?, h.is]
theorem IB.later {W W' : World} {b : Nat} {x : It} (h : IB W b x) (hb : Below W.heap.size W W') : IB W' b x := ⟨(hb.block b h.lt).trans h.is⟩
theorem IB.kept {X : List Nat} {W W' : World} {b : Nat} {x : It} (h : IB W b x) (hk : Kept X W W') (hb : b ∉ X) : IB W' b x := ⟨(hk.block b h.lt hb).trans h.is⟩
theorem IB.new (W : World) (x : It) : IB (W.alloc (.cells #[.int .i64 x.k, .int .i64 x.w] 31)) W.heap.size x := ⟨heap_alloc_new W _⟩
theorem IB.whole {W : World} {b : Nat} {x y : It} (h : IB W b x) : IB ((W.setCell ⟨b, 0, none⟩ (.int .i64 y.k)).setCell ⟨b, 1, none⟩ (.int .i64 y.w)) b y :=
  ⟨heap_setCell_same _ b 1 _ _ _ (heap_setCell_same _ b 0 _ _ _ h.is)⟩
theorem infoIt (x : It) : (Try.prog.info? 31).map (·.size) = some 2 := by kernel_rfl
theorem results_it {fn : Func} {p u : Tmp} (h : fn.results = #[.cell p 31, .tmp u]) (tmps : Array Value) (w : World) (b : Nat) (x : It) (v : Value) (hp : tmps.getD p undef = .pointer (some ⟨b, 0, none⟩)) (hu : tmps.getD u undef = v) (hb : IB w b x) :
    (results fn tmps).run Try.prog w = .ok (.tuple #[.agg #[.int .i64 x.k, .int .i64 x.w], v]) w := by
  rw [results_cell_tmp h, hp, hu]
  have := run_loadVar_row w b 31 31 _ _ _ hb.is Try.underlying31 rfl (infoIt x)
  simp [asAddr, Result.andThen, this]
theorem below_two {B b : Nat} {w W : World} (h : Below B w W) (hb : B ≤ b) (u0 u1 : Value) : Below B w ((W.setCell ⟨b, 0, none⟩ u0).setCell ⟨b, 1, none⟩ u1) :=
  (h.setCell (p := ⟨b, 0, none⟩) hb _).setCell (p := ⟨b, 1, none⟩) hb _
set_option maxRecDepth 100000 in
set_option maxHeartbeats 2000000 in
theorem peek_noneM {B b c : Nat} {v : Value} (w : World) (h : HBM B w b v c []) : Calls Try.prog 15 #[.pointer (some ⟨b, 0, none⟩)] w (Told (.tuple #[.agg #[.int .i64 0, .int .i64 0], .bool false]) w) := by
  have LN := Lib.hid (fun W (hB : Below w.heap.size w W) => len_anyM W (h.later hB))
  clear h
  have B1 : Below w.heap.size w (w.alloc (.cells #[.int .i64 0, .int .i64 0] 31)) := (Below.refl _ _).alloc (Nat.le_refl _) _
  have I1 := Lib.hid ((IB.new w ⟨0, 0⟩).later ((Below.refl _ _).alloc (Nat.le_refl _) (.cells #[.int .i64 0, .int .i64 0] 31)))
  have HB1 := Lib.hid B1
  clear B1
  go_enter Try.func15, Try.ntmps15
  go_wp2_with (go_at_call 14; (with_reducible refine (LN.out _ HB1.out).mono ?_); rintro e w1 ⟨rfl, rfl⟩)
  exact bodyPost_ret (v := .tuple #[.agg #[.int .i64 0, .int .i64 0], .bool false]) (results_it (x := ⟨0, 0⟩) rfl _ _ _ _ rfl rfl I1.out) rfl ⟨rfl, HB1.out.alloc HB1.out.size _⟩
set_option maxRecDepth 100000 in
set_option maxHeartbeats 2000000 in
theorem peek_someM {B b c : Nat} {v : Value} {l : List (It × Nat)} {p : It × Nat} (w : World) (h : HBM B w b v c l) (hp : l[0]? = some p) : Calls Try.prog 15 #[.pointer (some ⟨b, 0, none⟩)] w (Told (.tuple #[.agg #[.int .i64 (p.1).k, .int .i64 (p.1).w], .bool true]) w) := by
  have h0 : 0 < l.length := (List.getElem?_eq_some_iff.1 hp).1
  obtain ⟨g, cap, rfl, -, hgl, hle, hmx, -⟩ := own_form h.row h0
  have hln0 : ((l.length : Int) == 0) = false := by rw [beq_eq_false_iff_ne]; omega
  have hlt : (0 : Int) < (l.length : Int) := by omega
  unfold maxLen at hmx
  have LN := Lib.hid (fun W (hB : Below w.heap.size w W) => len_anyM W (h.later hB))
  have B1 : Below w.heap.size w (w.alloc (.cells #[.int .i64 0, .int .i64 0] 31)) := (Below.refl _ _).alloc (Nat.le_refl _) _
  have h1 := h.later B1
  have I1 := Lib.hid (IB.new w ⟨0, 0⟩)
  have HB1 := Lib.hid B1
  have c1 := h1.c1
  have x0 : (w.alloc (.cells #[.int .i64 0, .int .i64 0] 31)).cell? ⟨g, 0, none⟩ = some (.int .i64 p.1.k) := by have := h1.th rfl hp 0 _ rfl; rwa [Nat.zero_mul] at this
  have x1 : (w.alloc (.cells #[.int .i64 0, .int .i64 0] 31)).cell? ⟨g, 1, none⟩ = some (.int .i64 p.1.w) := by have := h1.th rfl hp 1 _ rfl; rwa [Nat.zero_mul] at this
  clear B1 h h1 hp
  go_enter Try.func15, Try.ntmps15
  go_wp2_with (go_at_call 14; (with_reducible refine (LN.out _ HB1.out).mono ?_); rintro e w1 ⟨rfl, rfl⟩)
  exact bodyPost_ret (v := .tuple #[.agg #[.int .i64 p.1.k, .int .i64 p.1.w], .bool true]) (results_it (x := p.1) rfl _ _ _ _ rfl rfl (IB.new w p.1)) rfl ⟨rfl, (Below.refl _ _).alloc (Nat.le_refl _) _⟩
end Go.Proofs.Ytebbpgokhelmdaa
