/- Tasks in memory; rows of them; regions that only read, and whose callees leave what was there, walked in the text's order. -/
import Derived.Test.YtghijgpelkjohaaTskR
import Derived.Deep.Quiet
import Derived.Deep.MidRow
namespace Go.Proofs.Ytghijgpelkjohaa
open Go.RowKit
set_option linter.unusedVariables false
set_option linter.unusedSimpArgs false

/-- The cells of a task. -/
def tsL (x : Ts) : List Value := [.string x.n, .int .i64 x.c, .int .i64 x.t, .int .i64 x.d, .int .i64 x.j, .int .i64 x.q, .int .i64 x.p]
theorem tsL_val (x : Ts) : tsV x = .agg (tsL x).toArray := rfl
/-- The task x lies in block b from offset o on. -/
structure TAt (w : World) (b o : Nat) (x : Ts) : Prop where
  r : w.rangeAt b o (tsL x)
theorem TAt.c0 {w : World} {b o : Nat} {x : Ts} (h : TAt w b o x) : w.cell? ⟨b, o, none⟩ = some (.string x.n) := h.r 0 _ rfl
theorem TAt.c1 {w : World} {b o : Nat} {x : Ts} (h : TAt w b o x) : w.cell? ⟨b, o + 1, none⟩ = some (.int .i64 x.c) := h.r 1 _ rfl
theorem TAt.c2 {w : World} {b o : Nat} {x : Ts} (h : TAt w b o x) : w.cell? ⟨b, o + 2, none⟩ = some (.int .i64 x.t) := h.r 2 _ rfl
theorem TAt.c3 {w : World} {b o : Nat} {x : Ts} (h : TAt w b o x) : w.cell? ⟨b, o + 3, none⟩ = some (.int .i64 x.d) := h.r 3 _ rfl
theorem TAt.c4 {w : World} {b o : Nat} {x : Ts} (h : TAt w b o x) : w.cell? ⟨b, o + 4, none⟩ = some (.int .i64 x.j) := h.r 4 _ rfl
theorem TAt.c5 {w : World} {b o : Nat} {x : Ts} (h : TAt w b o x) : w.cell? ⟨b, o + 5, none⟩ = some (.int .i64 x.q) := h.r 5 _ rfl
theorem TAt.c6 {w : World} {b o : Nat} {x : Ts} (h : TAt w b o x) : w.cell? ⟨b, o + 6, none⟩ = some (.int .i64 x.p) := h.r 6 _ rfl
theorem TAt.lt {w : World} {b o : Nat} {x : Ts} (h : TAt w b o x) : b < w.heap.size := World.block_lt_of_cell? w _ h.c0
theorem TAt.keep {w w' : World} {b o : Nat} {x : Ts} (h : TAt w b o x) (hk : ∀ i, w'.cell? ⟨b, i, none⟩ = w.cell? ⟨b, i, none⟩) : TAt w' b o x := ⟨fun j v hv => (hk _).trans (h.r j v hv)⟩
theorem TAt.below {w w' : World} {b o B : Nat} {x : Ts} (h : TAt w b o x) (hb : Below B w w') (hB : b < B) : TAt w' b o x := h.keep fun i => hb.cell (p := ⟨b, i, none⟩) hB
theorem TAt.later {w w' : World} {b o : Nat} {x : Ts} (h : TAt w b o x) (hb : Below w.heap.size w w') : TAt w' b o x := h.below hb h.lt
theorem TAt.alloc {w : World} {b o : Nat} {x : Ts} (h : TAt w b o x) (ob : Obj) : TAt (w.alloc ob) b o x := h.later ((Below.refl _ _).alloc (Nat.le_refl _) _)
theorem TAt.new (w : World) (x : Ts) : TAt (w.alloc (.cells #[.string x.n, .int .i64 x.c, .int .i64 x.t, .int .i64 x.d, .int .i64 x.j, .int .i64 x.q, .int .i64 x.p] 40)) w.heap.size 0 x :=
  ⟨fun j v hv => by rw [Nat.zero_add, cell_of_row _ _ j _ _ _ (heap_alloc_new w _)]; simpa [tsL] using hv⟩
theorem infoT : (Try.prog.info? 40).map (·.size) = some 7 := by kernel_rfl
theorem TAt.load {w : World} {b o : Nat} {x : Ts} (h : TAt w b o x) : (loadVar 40 ⟨b, o, none⟩).run Try.prog w = .ok (tsV x) w :=
  run_loadVar_mid w b o 40 (tsL x) _ h.r Try.underlying40 rfl infoT

/-- A slice that reads as a row of tasks. -/
structure Row (w : World) (A : Option Addr) (cap : Nat) (l : List Ts) : Prop where
  le : l.length ≤ cap
  mx : cap ≤ 9223372036854775807
  wf : ∀ x ∈ l, TsW x
  at_ : ∀ i x, l[i]? = some x → ∃ b o, A = some ⟨b, o, none⟩ ∧ TAt w b (o + i * 7) x
theorem Row.later {w w' : World} {A : Option Addr} {cap : Nat} {l : List Ts} (h : Row w A cap l) (hb : Below w.heap.size w w') : Row w' A cap l :=
  ⟨h.le, h.mx, h.wf, fun i x hx => by
    obtain ⟨b, o, e, ht⟩ := h.at_ i x hx
    exact ⟨b, o, e, ht.later hb⟩⟩
theorem Row.nil {w : World} (A : Option Addr) (cap : Nat) (h : cap ≤ 9223372036854775807) : Row w A cap [] := ⟨by simp, h, by simp, by simp⟩
/-- The task at a place: its block, and where it begins. -/
theorem Row.get {w : World} {A : Option Addr} {cap : Nat} {l : List Ts} (h : Row w A cap l) {k : Nat} (hk : k < l.length) : ∃ b o x, A = some ⟨b, o, none⟩ ∧ l[k]? = some x ∧ TsW x ∧ b < w.heap.size ∧ TAt w b (o + k * 7) x := by
  obtain ⟨b, o, e, ht⟩ := h.at_ k l[k] (List.getElem?_eq_getElem hk)
  exact ⟨b, o, l[k], e, List.getElem?_eq_getElem hk, h.wf _ (List.getElem_mem hk), ht.lt, ht⟩
theorem Row.at2 {w : World} {b o cap : Nat} {l : List Ts} (h : Row w (some ⟨b, o, none⟩) cap l) {k : Nat} {x : Ts} (hk : l[k]? = some x) : TAt w b (o + k * 7) x := by
  obtain ⟨b', o', e, ht⟩ := h.at_ k x hk
  cases e
  exact ht
theorem Row.take {w : World} {A : Option Addr} {cap : Nat} {l : List Ts} (h : Row w A cap l) (n : Nat) : Row w A cap (l.take n) :=
  ⟨by have := h.le; rw [List.length_take]; omega, h.mx, fun x hx => h.wf x (List.mem_of_mem_take hx), fun i x hx => by
    rw [List.getElem?_take] at hx
    split at hx
    · exact h.at_ i x hx
    · cases hx⟩

/-! ### The lexical walk of a region in a class of worlds -/
section
variable {ops : Array Oper} {C : World → Prop} {Q : Act → Prop} {a : Act} {o : Oper} {rest : List Oper}
theorem wq_skip (hw : Region.wanted o (yielded ops a.tmps) = false) (h : wpQuiet Try.prog ops C Q rest (a.put o.dst undef)) : wpQuiet Try.prog ops C Q (o :: rest) a :=
  wpQuiet_step fun K hK => by rw [hw]; exact hK _ h
theorem wq_val (v : Value) (hw : Region.wanted o (yielded ops a.tmps) = true) (hr : ∀ w, C w → (execOp a.eval o).run Try.prog w = .ok (.value v) w) (h : wpQuiet Try.prog ops C Q rest (a.put o.dst v)) : wpQuiet Try.prog ops C Q (o :: rest) a :=
  wpQuiet_step fun K hK => by
    rw [if_pos hw]
    refine ⟨v, fun w hC => ?_, hK _ h⟩
    unfold Oper.quietAt
    rw [hr w hC]
    exact ⟨rfl, rfl⟩
theorem wq_call {g : FuncId} {args : Array Value} {v : Value} (hc : ∀ w, C w → Calls Try.prog g args w fun e w' => e = .returned v ∧ Below w.heap.size w w') (hstep : ∀ w w', C w → Below w.heap.size w w' → C w')
    (hw : Region.wanted o (yielded ops a.tmps) = true) (hr : ∀ w, C w → (execOp a.eval o).run Try.prog w = .ok (.enter g args) w) (h : wpQuiet Try.prog ops C Q rest (a.put o.dst v)) : wpQuiet Try.prog ops C Q (o :: rest) a :=
  wpQuiet_step fun K hK => by
    rw [if_pos hw]
    refine ⟨v, fun w hC => ?_, hK _ h⟩
    unfold Oper.quietAt
    rw [hr w hC]
    exact ⟨rfl, (hc w hC).mono fun e w' hq => ⟨hq.1, hstep w w' hC hq.2⟩⟩
theorem wq_loadT {b p : Nat} {x : Ts} (y : Operand) (hC : ∀ w, C w → TAt w b p x) (hw : Region.wanted o (yielded ops a.tmps) = true) (ho : o.op = .load 40 y) (hy : a.eval y = .pointer (some ⟨b, p, none⟩))
    (h : wpQuiet Try.prog ops C Q rest (a.put o.dst (tsV x))) : wpQuiet Try.prog ops C Q (o :: rest) a :=
  wq_val (tsV x) hw (fun w hw' => by
    unfold execOp
    simp only [ho, hy, Instr.loadAt, Instr.sureAddr, Sem.run_bind, Sem.run_pure, Result.andThen_ok, (hC w hw').load]) h
theorem region_quiet_l {l : List Oper} {C : World → Prop} {id : Nat} {Q : Exit → Act → World → Prop} {a : Act} {w : World} (hm : Try.prog.follows .mixedOrders = true) (hB : Region.lexB .any l.toArray = true) (hC : C w.drew)
    (h : wpQuiet Try.prog l.toArray C (fun a' => ∀ w', C w' → Q .normal a' w') l a) : (Code.region id l.toArray true).wp Try.prog Q a w :=
  wp_region_quiet hm hB hC (by simpa using h)
theorem below_drew (w : World) : Below w.heap.size w w.drew := ⟨rfl, rfl, rfl, Nat.le_refl _, fun _ _ => rfl⟩
end
theorem calls_same {P : Program} {f : FuncId} {args : Array Value} {w : World} {v : Value} (h : Calls P f args w fun e w' => e = .returned v ∧ w = w') : Calls P f args w fun e w' => e = .returned v ∧ Below w.heap.size w w' :=
  h.mono fun e w' h => ⟨h.1, by rw [← h.2]; exact Below.refl _ _⟩
/-- The worlds in which of what was there nothing has turned. -/
def Lt (W w : World) : Prop := Below W.heap.size W w
theorem lt_step {W : World} (w w' : World) (h : Lt W w) (hb : Below w.heap.size w w') : Lt W w' := Below.trans h (hb.mono (Below.size h))
theorem lt_drew (W : World) : Lt W W.drew := below_drew W
end Go.Proofs.Ytghijgpelkjohaa
