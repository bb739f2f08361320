/- begun: the token that begins at a place. -/
import Derived.Test.YtngmaiiibinkaaaStrs
import Derived.RangeFuncBox
import Derived.Deep.CutBlock
namespace Go.Proofs.Ytngmaiiibinkaaa
open Go.RowKit
set_option linter.unusedVariables false

theorem info36 (x : Tk) : (Try.prog.info? 89).map (·.size) = some 4 := by kernel_rfl
/-- The cells of a token. -/
abbrev tkC (x : Tk) : Array Value := #[.int .i64 (x.k : Int), .int .i64 (x.at' : Int), .string (bs x.t), .int .i64 (x.n : Int)]
/-- Block b holds the token x. -/
structure TB (W : World) (b : Nat) (x : Tk) : Prop where
  is : W.heap[b]? = some (.cells (tkC x) 89 (0, 0))
theorem TB.lt {W : World} {b : Nat} {x : Tk} (h : TB W b x) : b < W.heap.size := (Array.getElem?_eq_some_iff.1 h.is).1
theorem TB.c0 {W : World} {b : Nat} {x : Tk} (h : TB W b x) : W.cell? ⟨b, 0, none⟩ = some (.int .i64 (x.k : Int)) := by rw [cell_of_row W b 0 _ _ _ h.is]; rfl
theorem TB.c1 {W : World} {b : Nat} {x : Tk} (h : TB W b x) : W.cell? ⟨b, 1, none⟩ = some (.int .i64 (x.at' : Int)) := by rw [cell_of_row W b 1 _ _ _ h.is]; rfl
theorem TB.c2 {W : World} {b : Nat} {x : Tk} (h : TB W b x) : W.cell? ⟨b, 2, none⟩ = some (.string (bs x.t)) := by rw [cell_of_row W b 2 _ _ _ h.is]; rfl
theorem TB.c3 {W : World} {b : Nat} {x : Tk} (h : TB W b x) : W.cell? ⟨b, 3, none⟩ = some (.int .i64 (x.n : Int)) := by rw [cell_of_row W b 3 _ _ _ h.is]; rfl
theorem TB.frozen {W : World} {b : Nat} {x : Tk} (h : TB W b x) (i : Nat) : W.frozen? ⟨b, i, none⟩ = false := frozen_of_row W b i _ _ h.is
theorem TB.below {W W' : World} {b B : Nat} {x : Tk} (h : TB W b x) (hb : Below B W W') (hB : b < B) : TB W' b x := ⟨(hb.block b hB).trans h.is⟩
theorem TB.later {W W' : World} {b : Nat} {x : Tk} (h : TB W b x) (hb : Below W.heap.size W W') : TB W' b x := h.below hb h.lt
theorem TB.alloc {W : World} {b : Nat} {x : Tk} (h : TB W b x) (o : Obj) : TB (W.alloc o) b x := ⟨(Below.heap_alloc W o b h.lt).trans h.is⟩
theorem TB.new (W : World) (x : Tk) : TB (W.alloc (.cells (tkC x) 89)) W.heap.size x := ⟨heap_alloc_new W _⟩
theorem TB.other {W : World} {b : Nat} {x : Tk} (h : TB W b x) (a : Addr) (v : Value) (hb : b ≠ a.block) : TB (W.setCell a v) b x := ⟨(heap_setCell_other W a b v hb).trans h.is⟩

/-- The token that begins with c, ahead of r, if one does. -/
def tkB (i : Nat) (c : UInt8) (r : List UInt8) : Tk := if kind c = 0 then ⟨0, i, [], 0⟩ else tkOf i c r

theorem below_drewN {B : Nat} {a w : World} (h : Below B a w) (n : Nat) : Below B a (w.drewN n) := h.trans ⟨rfl, rfl, rfl, Nat.le_refl _, fun _ _ => rfl⟩
theorem TB.drewN {W : World} {b : Nat} {x : Tk} (h : TB W b x) (n : Nat) : TB (W.drewN n) b x := ⟨h.is⟩
theorem TB.whole {W : World} {b : Nat} {x y : Tk} (h : TB W b x) : TB ((((W.setCell ⟨b, 0, none⟩ (.int .i64 (y.k : Int))).setCell ⟨b, 1, none⟩ (.int .i64 (y.at' : Int))).setCell ⟨b, 2, none⟩ (.string (bs y.t))).setCell ⟨b, 3, none⟩ (.int .i64 (y.n : Int))) b y := by
  have h0 := heap_setCell_same W b 0 _ _ (.int .i64 (y.k : Int)) h.is
  have h1 := heap_setCell_same _ b 1 _ _ (.int .i64 (y.at' : Int)) h0
  have h2 := heap_setCell_same _ b 2 _ _ (.string (bs y.t)) h1
  exact ⟨heap_setCell_same _ b 3 _ _ (.int .i64 (y.n : Int)) h2⟩
theorem TB.text {W : World} {b k i n : Nat} {t t' : List UInt8} (h : TB W b ⟨k, i, t, n⟩) : TB (W.setCell ⟨b, 2, none⟩ (.string (bs t'))) b ⟨k, i, t', n⟩ :=
  ⟨heap_setCell_same _ b 2 _ _ (.string (bs t')) h.is⟩
theorem TB.num {W : World} {b k i n n' : Nat} {t : List UInt8} (h : TB W b ⟨k, i, t, n⟩) : TB (W.setCell ⟨b, 3, none⟩ (.int .i64 (n' : Int))) b ⟨k, i, t, n'⟩ :=
  ⟨heap_setCell_same _ b 3 _ _ (.int .i64 (n' : Int)) h.is⟩
/-- The result of a function that hands a token back out of a block. -/
theorem results_tok {fn : Func} {p : Tmp} (h : fn.results = #[.cell p 89]) (tmps : Array Value) (w : World) (b : Nat) (x : Tk) (hp : tmps.getD p undef = .pointer (some ⟨b, 0, none⟩)) (hb : TB w b x) :
    (results fn tmps).run Try.prog w = .ok (tkV x) w :=
  results_cell_row h tmps w b _ _ _ _ hp hb.is Try.underlying89 rfl (info36 x)

/-- The two blocks that are made ahead of the walk's work. -/
theorem two_toks (w : World) (k i : Nat) : ∃ W1, (w.alloc (.cells #[.int .i64 0, .int .i64 0, .string { data := #[] }, .int .i64 0] 89)).alloc (.cells #[.int .i64 (k : Int), .int .i64 (i : Int), .string { data := #[] }, .int .i64 0] 89) = W1 ∧
    TB W1 w.heap.size ⟨0, 0, [], 0⟩ ∧ TB W1 (w.heap.size + 1) ⟨k, i, [], 0⟩ ∧ Below w.heap.size w W1 := by
  have T4 := (TB.new w ⟨0, 0, [], 0⟩).alloc (.cells (tkC ⟨k, i, [], 0⟩) 89)
  have T5 := TB.new (w.alloc (.cells (tkC ⟨0, 0, [], 0⟩) 89)) ⟨k, i, [], 0⟩
  rw [World.size_alloc] at T5
  exact ⟨_, rfl, T4, T5, ((Below.refl _ _).alloc (Nat.le_refl _) _).alloc (by simp) _⟩
theorem tk_eq {x : Tk} {k i n : Nat} (h1 : x.k = k) (h2 : x.at' = i) (h3 : x.n = n) : tkV ⟨k, i, x.t, n⟩ = tkV x := by subst h1 h2 h3; rfl
theorem below_whole {B b : Nat} {w W : World} (h : Below B w W) (hb : B ≤ b) (u0 u1 u2 u3 : Value) : Below B w ((((W.setCell ⟨b, 0, none⟩ u0).setCell ⟨b, 1, none⟩ u1).setCell ⟨b, 2, none⟩ u2).setCell ⟨b, 3, none⟩ u3) :=
  (((h.setCell (p := ⟨b, 0, none⟩) hb _).setCell (p := ⟨b, 1, none⟩) hb _).setCell (p := ⟨b, 2, none⟩) hb _).setCell (p := ⟨b, 3, none⟩) hb _

end Go.Proofs.Ytngmaiiibinkaaa
