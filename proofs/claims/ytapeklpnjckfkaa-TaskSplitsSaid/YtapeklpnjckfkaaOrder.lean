/- Order: its contract, for few tasks. -/
import Derived.Test.YtapeklpnjckfkaaSorted
import Derived.Test.YtapeklpnjckfkaaShelf
import Derived.Laws.MakeOwn
namespace Go.Proofs.Ytapeklpnjckfkaa
open Go.RowKit Go.Sort
set_option linter.unusedVariables false
set_option linter.unusedSimpArgs false

set_option maxRecDepth 100000 in
set_option maxHeartbeats 2000000 in
theorem order1_any (bx b o n cap x y : Nat) (tx ty : Ts) (W : World) (hb : W.cell? ⟨bx, 0, none⟩ = some (.slice (some ⟨b, o, none⟩) n cap)) (hx : TAt W b (o + x * 7) tx) (hy : TAt W b (o + y * 7) ty) (hxn : x < n) (hyn : y < n) (hn : n ≤ 1000) :
    Calls Try.prog 36 #[.int .i64 (x : Int), .int .i64 (y : Int), .pointer (some ⟨bx, 0, none⟩)] W fun e w' => e = .returned (.int .i64 (Lib.compareInt tx.p ty.p)) ∧ ∃ q, w' = W.drewN q := by
  have c6 := hx.c6
  have d6 := hy.c6
  have hx0 : (0 : Int) ≤ (x : Int) := by omega
  have hy0 : (0 : Int) ≤ (y : Int) := by omega
  have hx1 : (x : Int) < (n : Int) := by omega
  have hy1 : (y : Int) < (n : Int) := by omega
  have C := Lib.hid (fun W => Try.cmp_Compare_int tx.p ty.p W)
  generalize Lib.compareInt tx.p ty.p = r at *
  clear hx hy
  go_enter Try.func36, Try.ntmps36
  go_wp2
  go_quiet ((go_at_call 37; exact Calls.quiet_of_same (C.out _)))
  go_wp2
  go_ret
  exact ⟨rfl, nq, rfl⟩

theorem cell_sortWorld {α : Type} [Inhabited α] (enc : α → Value) (w : World) (g off m : Nat) (d : Array α) (os : Array Obj) (b i : Nat) (hb : b ≠ g) (hl : b < w.heap.size) : (sortWorld enc w g off m d os).cell? ⟨b, i, none⟩ = w.cell? ⟨b, i, none⟩ := by
  unfold sortWorld
  rw [cell?_grow _ _ _ (by simp; exact hl), cell?_putRow_other _ _ _ _ _ _ (Or.inl hb)]
  rfl
abbrev encF (m : Nat) : Fin (m + 1) → Value := fun x => .int .i64 (x.val : Int)
theorem encF_one (m : Nat) : OneCell (encF m) := fun _ => rfl

/-- What Order's closure reads. -/
structure Asks (W : World) (bx g : Nat) (l : List Ts) : Prop where
  ex : ∃ b o cap, W.cell? ⟨bx, 0, none⟩ = some (.slice (some ⟨b, o, none⟩) l.length cap) ∧ b ≠ g ∧ b < W.heap.size ∧ ∀ (k : Nat) (x : Ts), l[k]? = some x → TAt W b (o + k * 7) x
  ne : bx ≠ g
  lt : bx < W.heap.size
theorem Asks.reads {W : World} {bx g m : Nat} {l : List Ts} (h : Asks W bx g l) (hl : l.length = m + 1) (hn : m + 1 ≤ 1000) (size : Nat) :
    CmpReads Try.prog 36 #[.pointer (some ⟨bx, 0, none⟩)] (encF m) (fun x y => Lib.compareInt (pOf l x.val) (pOf l y.val)) g 0 size W := by
  intro q os dk hdk x y
  obtain ⟨b, o, cap, hc, hne, hlt, ht⟩ := h.ex
  have hx : x.val < l.length := by rw [hl]; exact x.isLt
  have hy : y.val < l.length := by rw [hl]; exact y.isLt
  have ex : l[x.val]? = some l[x.val] := List.getElem?_eq_getElem hx
  have ey : l[y.val]? = some l[y.val] := List.getElem?_eq_getElem hy
  have px : pOf l x.val = l[x.val].p := by simp [pOf, ex]
  have py : pOf l y.val = l[y.val].p := by simp [pOf, ey]
  show Calls _ _ _ _ fun e w' => e = .returned (.int .i64 (Lib.compareInt (pOf l x.val) (pOf l y.val))) ∧ _
  rw [px, py]
  have hcell : ∀ b' i, b' ≠ g → b' < W.heap.size → (sortWorld (encF m) W g 0 q dk os).cell? ⟨b', i, none⟩ = W.cell? ⟨b', i, none⟩ := fun b' i h1 h2 => cell_sortWorld _ _ _ _ _ _ _ _ _ h1 h2
  exact order1_any bx b o l.length cap x.val y.val _ _ _ ((hcell _ _ h.ne h.lt).trans hc) ((ht _ _ ex).keep fun i => hcell _ _ hne hlt) ((ht _ _ ey).keep fun i => hcell _ _ hne hlt) hx hy (by omega)

theorem compareInt_lt (x y : Int) : decide (Lib.compareInt x y < 0) = decide (x < y) := by
  unfold Lib.compareInt
  rw [decide_eq_decide]
  split
  · omega
  · split <;> omega
set_option maxRecDepth 100000 in
set_option maxHeartbeats 2000000 in
theorem ins_any {W : World} {bx g m cap : Nat} {l : List Ts} (h : Asks W bx g l) (hl : l.length = m + 1) (hn : m + 1 ≤ 1000) (hH : Holds (encF m) W g 0 (ids m)) :
    Calls Try.prog 53 #[.slice (some ⟨g, 0, none⟩) l.length cap, .int .i64 0, .int .i64 (l.length : Int), .func (.func 36) #[] #[.pointer (some ⟨bx, 0, none⟩)]] W fun e w' =>
      e = .returned (.tuple #[]) ∧ ∃ q, w' = (putRow (encF m) W g 0 (ordF (m := m) fun x => pOf l x.val)).drewN q := by
  have eg : ∀ args w, (callFunc 36 args).run Try.prog w = .ok (.enter 36 args) w := enters_of Try.func36 (by kernel_rfl) rfl
  have := Try.insertionSortCmpFunc_one (encF m) (encF_one m) (fun x y => Lib.compareInt (pOf l x.val) (pOf l y.val)) 36 #[.pointer (some ⟨bx, 0, none⟩)] g 0 cap 0 (m + 1) (ids m) W eg (h.reads hl hn _) hH (by omega) (by rw [ids_size]; omega) (by rw [ids_size]; omega)
  rw [ids_size] at this
  rw [hl]
  refine this.mono fun e w' hq => ⟨hq.1, ?_⟩
  obtain ⟨q, hw⟩ := hq.2
  refine ⟨q, hw.trans ?_⟩
  have e : ltOf (fun x y : Fin (m + 1) => Lib.compareInt (pOf l x.val) (pOf l y.val)) = lt1 (fun x : Fin (m + 1) => pOf l x.val) := by
    funext x y
    exact compareInt_lt _ _
  rw [e]
  rfl
set_option maxRecDepth 100000 in
set_option maxHeartbeats 2000000 in
theorem ins_zero (A : Option Addr) (cap : Nat) (f : Value) (W : World) :
    Calls Try.prog 53 #[.slice A 0 cap, .int .i64 0, .int .i64 0, f] W fun e w' => e = .returned (.tuple #[]) ∧ W = w' := by
  go_enter Try.func53, Try.ntmps53
  go_wp2
  go_rounds 1
  go_end0
  exact ⟨rfl, rfl⟩
set_option maxRecDepth 100000 in
set_option maxHeartbeats 2000000 in
theorem stable_any (R : World → World → Prop) (A : Option Addr) (n cap : Nat) (f : Fn) (b : Array Value) (W : World) (hn : n ≤ 16)
    (h : Calls Try.prog 53 #[.slice A n cap, .int .i64 0, .int .i64 (n : Int), .func f #[] b] W fun e w' => e = .returned (.tuple #[]) ∧ R W w') :
    Calls Try.prog 49 #[.slice A n cap, .int .i64 (n : Int), .func f #[] b] W fun e w' => e = .returned (.tuple #[]) ∧ R W w' := by
  have H := Lib.hid h
  clear h
  have t1 : decide ((20 : Int) ≤ (n : Int)) = false := decide_eq_false (by omega)
  have t2 : decide ((20 : Int) < (n : Int)) = false := decide_eq_false (by omega)
  go_enter Try.func49, Try.ntmps49
  go_wp2
  refine wp_loop_rounds 1 ?_
  rw [rounds_succ]
  go_wp2_with (go_at_call 53; (with_reducible refine H.out.mono ?_); rintro e w2 ⟨rfl, h2⟩)
  refine wp_loop_rounds 1 ?_
  rw [rounds_succ]
  go_wp2
  go_end0
  exact ⟨rfl, h2⟩
set_option maxRecDepth 100000 in
set_option maxHeartbeats 2000000 in
theorem sort_any (R : World → World → Prop) (A : Option Addr) (n cap : Nat) (f : Fn) (b : Array Value) (W : World) (hn : n ≤ 16)
    (h : Calls Try.prog 53 #[.slice A n cap, .int .i64 0, .int .i64 (n : Int), .func f #[] b] W fun e w' => e = .returned (.tuple #[]) ∧ R W w') :
    Calls Try.prog 35 #[.slice A n cap, .func f #[] b] W fun e w' => e = .returned (.tuple #[]) ∧ R W w' := by
  have H := Lib.hid (stable_any R A n cap f b W hn h)
  clear h
  go_enter Try.func35, Try.ntmps35
  go_wp2_with (go_at_call 49; (with_reducible refine H.out.mono ?_); rintro e w2 ⟨rfl, h2⟩)
  go_end0
  exact ⟨rfl, h2⟩
end Go.Proofs.Ytapeklpnjckfkaa
