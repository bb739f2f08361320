/- The reader in memory; what is kept while it reads; take. -/
import Derived.Test.YtlelnoalajeihaaDoorRow
import Derived.Test.YtlelnoalajeihaaDoorPars
import Derived.Test.YtlelnoalajeihaaDoorToks
namespace Go.Proofs.YtlelnoalajeihaaDoor
open Go.RowKit
set_option linter.unusedVariables false
set_option linter.unusedSimpArgs false

/-- Of what was there nothing has turned but these blocks. -/
structure Kept (X : List Nat) (w w' : World) : Prop where
  os : w'.os = w.os
  tape : w'.tape = w.tape
  output : w'.output = w.output
  size : w.heap.size ≤ w'.heap.size
  block : ∀ k, k < w.heap.size → k ∉ X → w'.heap[k]? = w.heap[k]?
theorem Kept.refl (X : List Nat) (w : World) : Kept X w w := ⟨rfl, rfl, rfl, Nat.le_refl _, fun _ _ _ => rfl⟩
theorem Kept.trans {X : List Nat} {a b c : World} (h : Kept X a b) (k : Kept X b c) : Kept X a c :=
  ⟨k.os.trans h.os, k.tape.trans h.tape, k.output.trans h.output, Nat.le_trans h.size k.size, fun i hi hx => (k.block i (Nat.lt_of_lt_of_le hi h.size) hx).trans (h.block i hi hx)⟩
theorem Kept.of (X : List Nat) {w w' : World} (h : Below w.heap.size w w') : Kept X w w' := ⟨h.os, h.tape, h.output, h.size, fun k hk _ => h.block k hk⟩
theorem Kept.mono {X Y : List Nat} {w w' : World} (h : Kept X w w') (hs : ∀ k ∈ X, k ∈ Y) : Kept Y w w' := ⟨h.os, h.tape, h.output, h.size, fun k hk hx => h.block k hk (fun hm => hx (hs k hm))⟩
/-- Blocks that are new ahead of it may be left out. -/
theorem Kept.less {X Y : List Nat} {w w' : World} (h : Kept X w w') (hs : ∀ k ∈ X, k ∈ Y ∨ w.heap.size ≤ k) : Kept Y w w' := ⟨h.os, h.tape, h.output, h.size, fun k hk hx => h.block k hk (fun hm => by rcases hs k hm with h | h; exact hx h; omega)⟩
theorem Kept.later {X : List Nat} {a w w' : World} (h : Kept X a w) (hb : Below w.heap.size w w') : Kept X a w' := h.trans (Kept.of X hb)
theorem Kept.set {X : List Nat} {a w : World} (h : Kept X a w) (b i : Nat) (v : Value) (hb : b ∈ X) : Kept X a (w.setCell ⟨b, i, none⟩ v) :=
  h.trans ⟨rfl, rfl, rfl, by simp [World.setCell], fun k hk hx => Below.heap_setCell _ _ _ _ (fun e => hx (by rw [e]; exact hb))⟩
theorem Kept.put {X : List Nat} {a w : World} (h : Kept X a w) (b : Nat) (o : Obj) (hb : b ∈ X) : Kept X a (w.putObj b o) :=
  h.trans ⟨rfl, rfl, rfl, by simp, fun k hk hx => World.putObj_heap_other (fun e => hx (by rw [e]; exact hb))⟩
theorem Kept.below {X : List Nat} {w w' : World} {B : Nat} (h : Kept X w w') (hB : B ≤ w.heap.size) (hX : ∀ k ∈ X, B ≤ k) : Below B w w' :=
  ⟨h.os, h.tape, h.output, h.size, fun k hk => h.block k (by omega) (fun hm => by have := hX k hm; omega)⟩
theorem Kept.cell {X : List Nat} {w w' : World} (h : Kept X w w') {b i : Nat} (hl : b < w.heap.size) (hx : b ∉ X) : w'.cell? ⟨b, i, none⟩ = w.cell? ⟨b, i, none⟩ :=
  World.cell?_of_block (w := w) (h.block b hl hx)
theorem Kept.row {X : List Nat} {W W' : World} (h : Kept X W W') {base e size k : Nat} {v : Value} {xs : List Value} (hr : W.ownsRow base e size v k xs) (hx : ∀ g, v.ownBlock = some g → g ∉ X) : W'.ownsRow base e size v k xs := by
  obtain ⟨h1, h2⟩ := hr
  refine ⟨h1, ?_⟩
  rcases h2 with h2 | ⟨g, cap, cur, hv, hg, hh, r⟩
  · exact .inl h2
  · subst hv
    exact .inr ⟨g, cap, cur, rfl, hg, (h.block g (Array.getElem?_eq_some_iff.1 hh).1 (hx g rfl)).trans hh, r⟩

/-! ### Tokens and tasks -/
def tkL (x : Tk) : List Value := [.int .i64 (x.k : Int), .int .i64 (x.at' : Int), .string (bs x.t), .int .i64 (x.n : Int)]
structure TkAt (w : World) (b o : Nat) (x : Tk) : Prop where
  r : w.rangeAt b o (tkL x)
theorem TkAt.c0 {w : World} {b o : Nat} {x : Tk} (h : TkAt w b o x) : w.cell? ⟨b, o, none⟩ = some (.int .i64 (x.k : Int)) := h.r 0 _ rfl
theorem TkAt.c1 {w : World} {b o : Nat} {x : Tk} (h : TkAt w b o x) : w.cell? ⟨b, o + 1, none⟩ = some (.int .i64 (x.at' : Int)) := h.r 1 _ rfl
theorem TkAt.c2 {w : World} {b o : Nat} {x : Tk} (h : TkAt w b o x) : w.cell? ⟨b, o + 2, none⟩ = some (.string (bs x.t)) := h.r 2 _ rfl
theorem TkAt.c3 {w : World} {b o : Nat} {x : Tk} (h : TkAt w b o x) : w.cell? ⟨b, o + 3, none⟩ = some (.int .i64 (x.n : Int)) := h.r 3 _ rfl
theorem TkAt.lt {w : World} {b o : Nat} {x : Tk} (h : TkAt w b o x) : b < w.heap.size := World.block_lt_of_cell? w _ h.c0
theorem TkAt.keep {w w' : World} {b o : Nat} {x : Tk} (h : TkAt w b o x) (hk : ∀ i, w'.cell? ⟨b, i, none⟩ = w.cell? ⟨b, i, none⟩) : TkAt w' b o x := ⟨fun j v hv => (hk _).trans (h.r j v hv)⟩
theorem TAt.kept {X : List Nat} {w w' : World} {b o : Nat} {x : Ts} (h : TAt w b o x) (hk : Kept X w w') (hb : b ∉ X) : TAt w' b o x := h.keep fun i => hk.cell h.lt hb

/-- Block br is a reader that has these tokens left; they lie in block g. -/
structure Rd (w : World) (br g o cap : Nat) (ts : List Tk) : Prop where
  is : w.heap[br]? = some (.cells #[.slice (some ⟨g, o, none⟩) ts.length cap] 67 (0, 0))
  le : ts.length ≤ cap
  mx : cap ≤ 9223372036854775807
  ne : g ≠ br
  glt : g < w.heap.size
  at_ : ∀ i x, ts[i]? = some x → TkAt w g (o + i * 4) x
theorem Rd.lt {w : World} {br g o cap : Nat} {ts : List Tk} (h : Rd w br g o cap ts) : br < w.heap.size := (Array.getElem?_eq_some_iff.1 h.is).1
theorem Rd.cell {w : World} {br g o cap : Nat} {ts : List Tk} (h : Rd w br g o cap ts) : w.cell? ⟨br, 0, none⟩ = some (.slice (some ⟨g, o, none⟩) ts.length cap) := by rw [cell_of_row w br 0 _ _ _ h.is]; rfl
theorem Rd.frozen {w : World} {br g o cap : Nat} {ts : List Tk} (h : Rd w br g o cap ts) (i : Nat) : w.frozen? ⟨br, i, none⟩ = false := frozen_of_row w br i _ _ h.is
theorem Rd.kept {X : List Nat} {w w' : World} {br g o cap : Nat} {ts : List Tk} (h : Rd w br g o cap ts) (hk : Kept X w w') (h1 : br ∉ X) (h2 : g ∉ X) : Rd w' br g o cap ts :=
  ⟨(hk.block br h.lt h1).trans h.is, h.le, h.mx, h.ne, Nat.lt_of_lt_of_le h.glt hk.size, fun i x hx => (h.at_ i x hx).keep fun j => hk.cell h.glt h2⟩
theorem Rd.later {w w' : World} {br g o cap : Nat} {ts : List Tk} (h : Rd w br g o cap ts) (hb : Below w.heap.size w w') : Rd w' br g o cap ts := h.kept (Kept.of [] hb) (by simp) (by simp)
theorem Rd.head {w : World} {br g o cap : Nat} {x : Tk} {r : List Tk} (h : Rd w br g o cap (x :: r)) : TkAt w g o x := by have := h.at_ 0 x rfl; rwa [Nat.zero_mul, Nat.add_zero] at this
theorem Rd.step {w : World} {br g o cap o' : Nat} {x : Tk} {r : List Tk} (h : Rd w br g o cap (x :: r)) (ho : r = [] ∨ o' = o + 4) : Rd (w.setCell ⟨br, 0, none⟩ (.slice (some ⟨g, o', none⟩) r.length (cap - 1))) br g o' (cap - 1) r := by
  have hl := h.le
  have hm := h.mx
  simp only [List.length_cons] at hl
  refine ⟨heap_setCell_same _ br 0 _ _ _ h.is, by omega, by omega, h.ne, by simp; exact h.glt, fun i y hy => ?_⟩
  rcases ho with rfl | rfl
  · simp at hy
  · refine TkAt.keep (w := w) ?_ (fun j => World.cell?_setCell_other _ _ _ _ (fun e => h.ne (congrArg Addr.block e).symm))
    have := h.at_ (i + 1) y (by simpa using hy)
    rwa [show o + (i + 1) * 4 = o + 4 + i * 4 by omega] at this

theorem results_tok_tmp {fn : Func} {p u : Tmp} (h : fn.results = #[.cell p 65, .tmp u]) (tmps : Array Value) (w : World) (b : Nat) (x : Tk) (v : Value) (hp : tmps.getD p undef = .pointer (some ⟨b, 0, none⟩)) (hu : tmps.getD u undef = v) (hb : TB w b x) :
    (results fn tmps).run Tryd.prog w = .ok (.tuple #[tkV x, v]) w := by
  rw [results_cell_tmp h, hp, hu]
  have := run_loadVar_row w b 65 65 _ _ _ hb.is Tryd.underlying65 rfl (info36 x)
  simp [asAddr, Result.andThen, this]

def TakeNo (w : World) (e : Ending) (w' : World) : Prop := e = .returned (.tuple #[tkV ⟨0, 0, [], 0⟩, .bool false]) ∧ Below w.heap.size w w'
def TakeYes (br g : Nat) (x : Tk) (r : List Tk) (w : World) (e : Ending) (w' : World) : Prop := ∃ o' cap', e = .returned (.tuple #[tkV x, .bool true]) ∧ Rd w' br g o' cap' r ∧ Kept [br] w w'

theorem two_blocks (w : World) (x : Tk) : ∃ W1, (w.alloc (.cells #[.int .i64 0, .int .i64 0, .string { data := #[] }, .int .i64 0] 65)).alloc (.cells #[.int .i64 (x.k : Int), .int .i64 (x.at' : Int), .string (bs x.t), .int .i64 (x.n : Int)] 65) = W1 ∧
    TB W1 w.heap.size ⟨0, 0, [], 0⟩ ∧ TB W1 (w.heap.size + 1) x ∧ Below w.heap.size w W1 := by
  have T4 := (TB.new w ⟨0, 0, [], 0⟩).alloc (.cells (tkC x) 65)
  have T5 := TB.new (w.alloc (.cells (tkC ⟨0, 0, [], 0⟩) 65)) x
  rw [World.size_alloc] at T5
  exact ⟨_, rfl, T4, T5, ((Below.refl _ _).alloc (Nat.le_refl _) _).alloc (by simp) _⟩

set_option maxRecDepth 100000 in
set_option maxHeartbeats 2000000 in
theorem take_no {br g o cap : Nat} (k : Int) {x : Tk} {r : List Tk} {w : World} (hR : Rd w br g o cap (x :: r)) (hk : (x.k : Int) ≠ k) :
    Calls Tryd.prog 35 #[.pointer (some ⟨br, 0, none⟩), .int .i64 k] w (TakeNo w) := by
  obtain ⟨W1, hW1, T4, T5, B1⟩ := two_blocks w x
  have c := hR.cell
  have a0 := hR.head.c0
  have a1 := hR.head.c1
  have a2 := hR.head.c2
  have a3 := hR.head.c3
  have hbr := hR.lt
  have hg := hR.glt
  have hln : (0 : Int) < ((x :: r).length : Int) := by rw [List.length_cons]; omega
  have hne : ((x.k : Int) == k) = false := by rw [beq_eq_false_iff_ne]; exact hk
  have hne2 : ((x.k : Int) != k) = true := by simp; exact hk
  have HW := Lib.hid hW1
  generalize (x :: r).length = n at *
  clear hW1 hR hk
  go_enter Tryd.func35, Tryd.ntmps35
  go_upto_region 2 with (fail)
  rw [HW.out]
  have f4 := T4.frozen
  have d0 := T5.c0
  have e0 := T4.c0
  have e1 := T4.c1
  have e2 := T4.c2
  have e3 := T4.c3
  clear c a0 a1 a2 a3
  go_wp2
  have R := T4.whole (y := ⟨0, 0, [], 0⟩)
  exact bodyPost_ret (v := .tuple #[tkV ⟨0, 0, [], 0⟩, .bool false]) (results_tok_tmp rfl _ _ _ _ _ rfl rfl R) rfl ⟨rfl, below_whole B1 (Nat.le_refl _) _ _ _ _⟩

theorem rd_whole {X : List Nat} {w W : World} {br g o cap : Nat} {r : List Tk} (hbr : br < w.heap.size) (hg : g < w.heap.size) (S : Rd W br g o cap r) (K : Kept X w W) (x : Tk) :
    Rd ((((W.setCell ⟨w.heap.size, 0, none⟩ (.int .i64 (x.k : Int))).setCell ⟨w.heap.size, 1, none⟩ (.int .i64 (x.at' : Int))).setCell ⟨w.heap.size, 2, none⟩ (.string (bs x.t))).setCell ⟨w.heap.size, 3, none⟩ (.int .i64 (x.n : Int))) br g o cap r ∧
    Kept X w ((((W.setCell ⟨w.heap.size, 0, none⟩ (.int .i64 (x.k : Int))).setCell ⟨w.heap.size, 1, none⟩ (.int .i64 (x.at' : Int))).setCell ⟨w.heap.size, 2, none⟩ (.string (bs x.t))).setCell ⟨w.heap.size, 3, none⟩ (.int .i64 (x.n : Int))) := by
  have B : ∀ V : World, ∀ i v, Kept [w.heap.size] V (V.setCell ⟨w.heap.size, i, none⟩ v) := fun V i v => (Kept.refl [w.heap.size] V).set w.heap.size i v (by simp)
  have B4 := (((B W 0 (.int .i64 (x.k : Int))).trans (B _ 1 (.int .i64 (x.at' : Int)))).trans (B _ 2 (.string (bs x.t)))).trans (B _ 3 (.int .i64 (x.n : Int)))
  refine ⟨S.kept B4 (by simp; omega) (by simp; omega), ?_⟩
  have h1 : Kept (w.heap.size :: X) w _ := (K.mono (fun k hk => List.mem_cons_of_mem _ hk)).trans (B4.mono (Y := w.heap.size :: X) (fun k hk => by simp at hk; subst hk; simp))
  exact h1.less (fun k hk => by
    rcases List.mem_cons.1 hk with rfl | hk
    · exact .inr (Nat.le_refl _)
    · exact .inl hk)

set_option maxRecDepth 100000 in
set_option maxHeartbeats 2000000 in
theorem take_yes {br g o cap : Nat} (k : Int) {x : Tk} {r : List Tk} {w : World} (hR : Rd w br g o cap (x :: r)) (hk : (x.k : Int) = k) :
    Calls Tryd.prog 35 #[.pointer (some ⟨br, 0, none⟩), .int .i64 k] w (TakeYes br g x r w) := by
  subst hk
  obtain ⟨W1, hW1, T4, T5, B1⟩ := two_blocks w x
  have RR := Lib.hid hR
  have c := hR.cell
  have a0 := hR.head.c0
  have a1 := hR.head.c1
  have a2 := hR.head.c2
  have a3 := hR.head.c3
  have hbr := hR.lt
  have hg := hR.glt
  have hle := hR.le
  have hmx := hR.mx
  have hln : (0 : Int) < ((x :: r).length : Int) := by rw [List.length_cons]; omega
  have HW := Lib.hid hW1
  have hlr : (x :: r).length = r.length + 1 := rfl
  have hl1 : ((x :: r).length : Int) - 1 = (r.length : Int) := by rw [hlr]; omega
  by_cases h1 : cap = 1
  · subst h1
    obtain rfl : r = [] := List.eq_nil_of_length_eq_zero (by rw [hlr] at hle; omega)
    clear hW1 hR hl1 hlr hle hln
    go_enter Tryd.func35, Tryd.ntmps35
    go_upto_region 2 with (fail)
    rw [HW.out]
    have R1 := RR.out.later B1
    have f4 := T4.frozen
    have d0 := T5.c0
    have d1 := T5.c1
    have d2 := T5.c2
    have d3 := T5.c3
    have e0 := T4.c0
    have e1 := T4.c1
    have e2 := T4.c2
    have e3 := T4.c3
    have c := R1.cell
    have fb := R1.frozen 0
    clear a0 a1 a2 a3
    go_wp2
    have S := R1.step (o' := o) (.inl rfl)
    have K := ((Kept.of [br] B1).set br 0 (.slice (some ⟨g, o, none⟩) ([] : List Tk).length (1 - 1)) (by simp))
    have T := (T4.other ⟨br, 0, none⟩ (.slice (some ⟨g, o, none⟩) ([] : List Tk).length (1 - 1)) (by simp only; omega)).whole (y := x)
    obtain ⟨Q1, Q2⟩ := rd_whole hbr hg S K x
    exact bodyPost_ret (v := .tuple #[tkV x, .bool true]) (results_tok_tmp rfl _ _ _ _ _ rfl rfl T) rfl ⟨_, _, rfl, Q1, Q2⟩
  · have hm : r.length + 1 ≤ cap := by rw [← hlr]; exact hle
    have hc1 : (1 : Int) ≤ (cap : Int) := by omega
    have hcz : ¬ (cap : Int) - 1 = 0 := by omega
    rw [hlr] at c hln hl1
    clear hW1 hR hlr hle hl1
    go_enter Tryd.func35, Tryd.ntmps35
    go_upto_region 2 with (fail)
    rw [HW.out]
    have R1 := RR.out.later B1
    have f4 := T4.frozen
    have d0 := T5.c0
    have d1 := T5.c1
    have d2 := T5.c2
    have d3 := T5.c3
    have e0 := T4.c0
    have e1 := T4.c1
    have e2 := T4.c2
    have e3 := T4.c3
    have c : W1.cell? ⟨br, 0, none⟩ = some (.slice (some ⟨g, o, none⟩) (r.length + 1) cap) := R1.cell
    have fb := R1.frozen 0
    clear a0 a1 a2 a3
    go_wp2
    have S := R1.step (o' := o + 4) (.inr rfl)
    have K := ((Kept.of [br] B1).set br 0 (.slice (some ⟨g, o + 4, none⟩) r.length (cap - 1)) (by simp))
    have T := (T4.other ⟨br, 0, none⟩ (.slice (some ⟨g, o + 4, none⟩) r.length (cap - 1)) (by simp only; omega)).whole (y := x)
    obtain ⟨Q1, Q2⟩ := rd_whole hbr hg S K x
    exact bodyPost_ret (v := .tuple #[tkV x, .bool true]) (results_tok_tmp rfl _ _ _ _ _ rfl rfl T) rfl ⟨_, _, rfl, Q1, Q2⟩
end Go.Proofs.YtlelnoalajeihaaDoor
