/- CheckAll: the walk. -/
import Derived.Test.YtngmaiiibinkaaaMaps
import Derived.Deep.LoopGhost
import Derived.WalkMore
namespace Go.Proofs.Ytngmaiiibinkaaa
open Go.RowKit
set_option linter.unusedVariables false
set_option linter.unusedSimpArgs false

theorem run_store_func (P : Program) (w : World) (a : Addr) (m : Mode) (f : Fn) (x y : Array Value) : (store a (.func f x y) m).run P w = stored P w a (.func f x y) m := run_store P w a _ m rfl
attribute [local go_sem] run_store_func
theorem MapOf.put_other {w : World} {r r' : Nat} {keys : List Value} (h : MapOf w r keys) (o : Obj) (hne : r ≠ r') : MapOf (w.putObj r' o) r keys := by
  obtain ⟨es, c, h1, h2⟩ := h
  exact ⟨es, c, (World.putObj_heap_other hne).trans h1, h2⟩
theorem cell_put {w : World} {r b i : Nat} (o : Obj) (hne : b ≠ r) : (w.putObj r o).cell? ⟨b, i, none⟩ = w.cell? ⟨b, i, none⟩ := by
  unfold World.cell?
  simp only [World.putObj_heap_other (o := o) hne]
theorem below_put {B : Nat} {w0 w : World} {r : Nat} (h : Below B w0 w) (o : Obj) (hB : B ≤ r) : Below B w0 (w.putObj r o) :=
  h.trans ⟨rfl, rfl, rfl, by simp, fun k hk => World.putObj_heap_other (by omega)⟩
/-- A task that lies at the beginning of a block. -/
theorem TAt.z {w : World} {b : Nat} {x : Ts} (h : TAt w b 0 x) : w.cell? ⟨b, 0, none⟩ = some (.string x.n) ∧ w.cell? ⟨b, 1, none⟩ = some (.int .i64 x.c) ∧ w.cell? ⟨b, 2, none⟩ = some (.int .i64 x.t) ∧ w.cell? ⟨b, 3, none⟩ = some (.int .i64 x.d) ∧ w.cell? ⟨b, 4, none⟩ = some (.int .i64 x.j) ∧ w.cell? ⟨b, 5, none⟩ = some (.int .i64 x.q) ∧ w.cell? ⟨b, 6, none⟩ = some (.int .i64 x.p) :=
  ⟨h.c0, h.c1, h.c2, h.c3, h.c4, h.c5, h.c6⟩
end Go.Proofs.Ytngmaiiibinkaaa
