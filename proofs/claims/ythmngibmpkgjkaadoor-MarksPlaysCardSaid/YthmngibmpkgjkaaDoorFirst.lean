/- Contracts of First and Next. -/
import Derived.Test.YthmngibmpkgjkaaDoorSeq
import Derived.RangeFuncFrom
namespace Go.Proofs.YthmngibmpkgjkaaDoor
open Go.RowKit Go.Shelf
set_option linter.unusedVariables false
attribute [local go_sem] Oper.semAt_some

/-! ### Whole arrays, inside a fence -/
theorem wpListIn_load_box {F : Fence} {n : Nat} {ops : Array Oper} {rest : List Oper} {o : Oper} {a : Act} {w : World} {Q : Exit → Act → World → Prop} (hgd : o.guard = none) (x : Operand) (ho : o.op = .load 26 x)
    (b : Nat) (f : Nat → Bool) (hx : a.eval x = .pointer (some ⟨b, 0, none⟩)) (hb : Box w b f)
    (h : wpListIn F n Tryd.prog ops Q rest (a.put o.dst (setV f)) w) : wpListIn F n Tryd.prog ops Q (o :: rest) a w := by
  refine wpListIn_plain hgd fun K hK' => ?_
  unfold Oper.wpIn
  refine ⟨?_, ?_⟩
  · intro f' hf'; simp [Oper.about, ho] at hf'
  · rw [Oper.semAt_plain F _ _ (by rw [ho]; intro c hc'; cases hc')]
    have hl := hb.load
    simp only [execOp, ho, hx, Instr.loadAt, Instr.sureAddr, Sem.run_bind, Sem.run_pure, Result.andThen_ok, hl]
    exact hK' _ _ h
theorem wpListIn_store_box {F : Fence} {n : Nat} {ops : Array Oper} {rest : List Oper} {o : Oper} {a : Act} {w : World} {Q : Exit → Act → World → Prop} (hgd : o.guard = none) (x y : Operand) (ho : o.op = .store 26 x y)
    (b : Nat) (f g : Nat → Bool) (hx : a.eval x = .pointer (some ⟨b, 0, none⟩)) (hy : a.eval y = setV g) (hb : Box w b f)
    (h : wpListIn F n Tryd.prog ops Q rest (a.put o.dst undef) (w.setCells b 0 (cellsL g))) : wpListIn F n Tryd.prog ops Q (o :: rest) a w := by
  refine wpListIn_plain hgd fun K hK' => ?_
  unfold Oper.wpIn
  refine ⟨?_, ?_⟩
  · intro f' hf'; simp [Oper.about, ho] at hf'
  · rw [Oper.semAt_plain F _ _ (by rw [ho]; intro c hc'; cases hc')]
    have hl := run_storeVar_mid (P := Tryd.prog) w b 0 26 (cellsL g).toArray (hb.there g) (info26' g) (cellsL_all g)
    simp only [execOp, ho, hx, hy, Instr.storeAt, Instr.sureAddr, Sem.run_bind, Sem.run_pure, Result.andThen_ok, hl]
    exact hK' _ _ h
theorem cell_new_l (W : World) (v : Value) (t : TypeId) : (W.alloc (.cells #[v] t)).cell? ⟨W.heap.size, 0, none⟩ = some v ∧ (W.alloc (.cells #[v] t)).frozen? ⟨W.heap.size, 0, none⟩ = false := ⟨by simp, by simp⟩
theorem cell_alloc_l {W : World} {a : Addr} {v : Value} (o : Obj) (h : W.cell? a = some v) : (W.alloc o).cell? a = some v := cell_kept h (World.grownBy_alloc W o none) (fun r e => by cases e)
theorem frozen_alloc_l {W : World} {a : Addr} {v : Value} (o : Obj) (h : W.cell? a = some v) (hf : W.frozen? a = false) : (W.alloc o).frozen? a = false := (frozen_kept h (World.grownBy_alloc W o none) (fun r e => by cases e)).trans hf

theorem two_stored (W : World) (a b : Addr) (u v : Value) (h1 : (W.cell? a).isSome = true) (h2 : (W.cell? b).isSome = true) (hne : b ≠ a) :
    ((W.setCell a u).setCell b v).cell? a = some u ∧ ((W.setCell a u).setCell b v).cell? b = some v := by
  obtain ⟨x, hx⟩ := Option.isSome_iff_exists.1 h1
  obtain ⟨y, hy⟩ := Option.isSome_iff_exists.1 h2
  refine ⟨?_, World.cell?_setCell_same _ _ _ (by rw [World.cell?_setCell_other _ _ _ _ (fun e => hne e.symm)]; exact hy)⟩
  rw [World.cell?_setCell_other _ _ _ _ hne, World.cell?_setCell_same _ _ _ hx]

def hdN (l : List Nat) : Int := ((l.headD 0 : Nat) : Int)
def hdB (l : List Nat) : Bool := !l.isEmpty

set_option maxRecDepth 100000 in
set_option maxHeartbeats 2000000 in
theorem first_any (f : Nat → Bool) (w : World) (hT : Tab w) :
    Calls Tryd.prog 24 #[setV f] w fun e w' => e = .returned (.tuple #[.int .i64 (hdN (nums f)), .bool (hdB (nums f))]) ∧ Below w.heap.size w w' := by
  have hpos := hT.pos
  have b0 := Box.new w f
  have c1 := cell_new_l (w.alloc (.cells (cellsL f).toArray 26)) (.int .i64 0) 3
  have c2 := cell_new_l ((w.alloc (.cells (cellsL f).toArray 26)).alloc (.cells #[.int .i64 0] 3)) (.bool false) 4
  simp only [World.size_alloc] at c1 c2
  have b1 := (b0.alloc (.cells #[.int .i64 0] 3)).alloc (.cells #[.bool false] 4)
  have hb := (((Below.refl w.heap.size w).alloc (Nat.le_refl _) (.cells (cellsL f).toArray 26)).alloc (by simp) (.cells #[.int .i64 0] 3)).alloc (by simp; omega) (.cells #[.bool false] 4)
  refine (callsIn_wide (n := 3)).1 ?_
  refine callsIn_of_wp_marks Tryd.func24 rfl trivial ?_ rfl
  simp only [Tryd.ntmps24, List.size_toArray, List.length_cons, List.length_nil, Nat.reduceAdd, Nat.reduceSub, Array.replicate_succ, Array.replicate_zero, List.push_toArray, List.append_toArray, List.nil_append, List.cons_append]
  gi_wp2_with (first
    | ((with_reducible show wpListIn _ _ _ _ _ (⟨some 5, _, _, _, _, _⟩ :: _) _ _); refine wpListIn_load_box rfl _ rfl _ _ rfl b1 ?_)
    | (refine ⟨trivial, ?_⟩; gi_at_call 23; refine (callsIn_wide.2 (all_any f _)).mono ?_; rintro e w' ⟨rfl, rfl⟩))
  have b3 := Box.new (((w.alloc (.cells (cellsL f).toArray 26)).alloc (.cells #[.int .i64 0] 3)).alloc (.cells #[.bool false] 4)) f
  simp only [World.size_alloc] at b3
  have hb3 := hb.alloc (by simp; omega) (.cells (cellsL f).toArray 26)
  have k1 := cell_alloc_l (.cells (cellsL f).toArray 26) (cell_alloc_l (.cells #[.bool false] 4) c1.1)
  have k2 := frozen_alloc_l (.cells (cellsL f).toArray 26) (cell_alloc_l (.cells #[.bool false] 4) c1.1) (frozen_alloc_l (.cells #[.bool false] 4) c1.1 c1.2)
  have k3 := cell_alloc_l (.cells (cellsL f).toArray 26) c2.1
  have k4 := frozen_alloc_l (.cells (cellsL f).toArray 26) c2.1 c2.2
  clear b0 b1 c1 c2 hb
  generalize (((w.alloc (.cells (cellsL f).toArray 26)).alloc (.cells #[.int .i64 0] 3)).alloc (.cells #[.bool false] 4)).alloc (.cells (cellsL f).toArray 26) = W0 at *
  have hT0 := hT.below hb3
  have hsz := hb3.size
  refine wpIn_rangeFunc_ownF rfl (by omega) (gf := 34) (lb := #[.pointer (some ⟨w.heap.size + 1 + 1 + 1, 0, none⟩)]) rfl trivial (enters_of Tryd.func34 (by kernel_rfl) rfl)
    (all_stops 2 (by omega) f (w.heap.size + 1 + 1 + 1) w.heap.size W0 b3 hT0 hpos) Kp.t (Kp.b hsz b3.lt) (Below.refl _ _) (fun _ => rfl)
    (fun pre W => (pre = [] ∧ W.cell? ⟨w.heap.size + 1, 0, none⟩ = some (.int .i64 0) ∧ W.frozen? ⟨w.heap.size + 1, 0, none⟩ = false ∧ W.cell? ⟨w.heap.size + 1 + 1, 0, none⟩ = some (.bool false) ∧ W.frozen? ⟨w.heap.size + 1 + 1, 0, none⟩ = false) ∧ Below w.heap.size w W)
    (fun c pre W => (c = .ret ∧ ∃ x : Nat, pre = [x] ∧ W.cell? ⟨w.heap.size + 1, 0, none⟩ = some (.int .i64 (x : Int)) ∧ W.cell? ⟨w.heap.size + 1 + 1, 0, none⟩ = some (.bool true)) ∧ Below w.heap.size w W)
    (OwnFrom.and (Own.from (fun s A B row hs hg hr => ⟨hs.1, cell_kept hs.2.1 hg hr, (frozen_kept hs.2.1 hg hr).trans hs.2.2.1, cell_kept hs.2.2.2.1 hg hr, (frozen_kept hs.2.2.2.1 hg hr).trans hs.2.2.2.2⟩) _) (ownFrom_below (Nat.le_refl _) hsz))
    (fun c => OwnFrom.and (Own.from (fun s A B row hs hg hr => ⟨hs.1, hs.2.choose, hs.2.choose_spec.1, cell_kept hs.2.choose_spec.2.1 hg hr, cell_kept hs.2.choose_spec.2.2 hg hr⟩) _) (ownFrom_below (Nat.le_refl _) hsz))
    ⟨⟨rfl, k1, k2, k3, k4⟩, hb3⟩
    (fun x => { tmps := #[setV f, .pointer (some ⟨w.heap.size, 0, none⟩), .pointer (some ⟨w.heap.size + 1, 0, none⟩), .pointer (some ⟨w.heap.size + 1 + 1, 0, none⟩), .int .i64 (x : Int), setV f, .func (.func 34) #[] #[.pointer (some ⟨w.heap.size + 1 + 1 + 1, 0, none⟩)], .int .i64 (x : Int), undef], defers := [] }) ?assign ?body ?done ?stop
  case assign =>
    intro l x W K hK
    gi_wp2
    exact hK
  case body =>
    rintro l pre x W ⟨⟨rfl, h1, h2, h3, h4⟩, hB⟩ _
    gi_wp2
    exact ⟨(KeepsOthers.setCell _ _ _).trans (KeepsOthers.setCell _ _ _), ⟨rfl, x, rfl, two_stored W _ _ _ _ (by rw [h1]; rfl) (by rw [h3]; rfl) (by simp)⟩, (hB.setCell (p := ⟨w.heap.size + 1, 0, none⟩) (by simp) _).setCell (p := ⟨w.heap.size + 1 + 1, 0, none⟩) (by simp; omega) _⟩
  case done =>
    rintro D ys W hD rfl ⟨⟨hn, h1, h2, h3, h4⟩, hB⟩ hK
    gi_wp2
    have hK' := (KeepsOthers.setCell (W.setCell ⟨w.heap.size + 1, 0, none⟩ (.int .i64 0)) ⟨w.heap.size + 1 + 1, 0, none⟩ (.bool false)).same D _ ((KeepsOthers.setCell W ⟨w.heap.size + 1, 0, none⟩ (.int .i64 0)).same D _ hK rfl) rfl
    obtain ⟨e1, e2⟩ := two_stored W ⟨w.heap.size + 1, 0, none⟩ ⟨w.heap.size + 1 + 1, 0, none⟩ (.int .i64 0) (.bool false) (by rw [h1]; rfl) (by rw [h3]; rfl) (by simp)
    have hB2 := (hB.setCell (p := ⟨w.heap.size + 1, 0, none⟩) (by simp) (.int .i64 0)).setCell (p := ⟨w.heap.size + 1 + 1, 0, none⟩) (by simp; omega) (.bool false)
    generalize (W.setCell ⟨w.heap.size + 1, 0, none⟩ (.int .i64 0)).setCell ⟨w.heap.size + 1 + 1, 0, none⟩ (.bool false) = W5 at *
    refine ⟨by simp, .inl ⟨_, _, rfl, run_takeDeferred hK', ?_⟩⟩
    have hc5 := cell_kept e1 (grownBy_putObj' _ D (.deferred none)) (fun r e => by cases e; exact ⟨_, hK', rfl⟩)
    have hc6 := cell_kept e2 (grownBy_putObj' _ D (.deferred none)) (fun r e => by cases e; exact ⟨_, hK', rfl⟩)
    refine ⟨.tuple #[.int .i64 0, .bool false], ?_, by rw [hn]; rfl, hB2.trans (belowK_b (w := w) (Nat.le_refl _) W5 D _ _ (by omega) hK' rfl rfl)⟩
    simp [results, Tryd.f24, go_sem, hc5, hc6]
  case stop =>
    rintro D c pre W hD hpre ⟨⟨rfl, x, rfl, h1, h2⟩, hB⟩ hK
    gi_wp2
    refine ⟨by simp, .inl ⟨_, _, rfl, run_takeDeferred hK, ?_⟩⟩
    have hc5 := cell_kept h1 (grownBy_putObj' _ D (.deferred none)) (fun r e => by cases e; exact ⟨_, hK, rfl⟩)
    have hc6 := cell_kept h2 (grownBy_putObj' _ D (.deferred none)) (fun r e => by cases e; exact ⟨_, hK, rfl⟩)
    obtain ⟨rest, hr⟩ := hpre
    refine ⟨.tuple #[.int .i64 (x : Int), .bool true], ?_, by rw [← hr]; rfl, hB.trans (belowK_b (w := w) (Nat.le_refl _) W D _ _ (by omega) hK rfl rfl)⟩
    simp [results, Tryd.f24, go_sem, hc5, hc6]
end Go.Proofs.YthmngibmpkgjkaaDoor
