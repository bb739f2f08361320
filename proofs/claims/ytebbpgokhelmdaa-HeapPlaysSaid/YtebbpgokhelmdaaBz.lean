/- Both side by side, and things beside them that stay. -/
import Derived.Test.YtebbpgokhelmdaaBms
import Derived.Test.YtebbpgokhelmdaaSrt
namespace Go.Proofs.Ytebbpgokhelmdaa
open Go.RowKit Go.Shelf
set_option linter.unusedVariables false
set_option linter.unusedSimpArgs false
structure Bz (w0 wr : World) (B b bm : Nat) (X : List Nat) (c : Nat) (L : List It) (Y : List Nat) (M : List It) (K : List (Nat × Obj)) : Prop where
  h : BM w0 wr B b bm X c L Y M
  k : ∀ p ∈ K, wr.heap[p.1]? = some p.2 ∧ p.1 ∉ X ∧ p.1 ∉ Y
section
variable {w0 w w' : World} {B b bm c : Nat} {X Y : List Nat} {L M : List It} {K : List (Nat × Obj)}
theorem Bz.later (h : Bz w0 w B b bm X c L Y M K) (hb : Below w.heap.size w w') : Bz w0 w' B b bm X c L Y M K :=
  ⟨h.h.later hb, fun p hp => ⟨(hb.block _ (Array.getElem?_eq_some_iff.1 (h.k p hp).1).1).trans (h.k p hp).1, (h.k p hp).2⟩⟩
theorem Bz.kX (h : Bz w0 w B b bm X c L Y M K) {X2 : List Nat} (hk : Kept X w w') (h3 : ∀ k ∈ X2, k ∈ X ∨ w.heap.size ≤ k) : ∀ p ∈ K, w'.heap[p.1]? = some p.2 ∧ p.1 ∉ X2 ∧ p.1 ∉ Y := fun p hp => by
  obtain ⟨k1, k2, k3⟩ := h.k p hp
  have hl := (Array.getElem?_eq_some_iff.1 k1).1
  exact ⟨(hk.block _ hl k2).trans k1, fun hm => (h3 _ hm).elim k2 (fun h4 => by omega), k3⟩
theorem Bz.kY (h : Bz w0 w B b bm X c L Y M K) {Y2 : List Nat} (hk : Kept [bm] w w') (h3 : ∀ k ∈ Y2, k ∈ Y ∨ w.heap.size ≤ k) : ∀ p ∈ K, w'.heap[p.1]? = some p.2 ∧ p.1 ∉ X ∧ p.1 ∉ Y2 := fun p hp => by
  obtain ⟨k1, k2, k3⟩ := h.k p hp
  have hl := (Array.getElem?_eq_some_iff.1 k1).1
  exact ⟨(hk.block _ hl (fun hm => by simp at hm; rw [hm] at k3; exact k3 h.h.m.mem)).trans k1, k2, fun hm => (h3 _ hm).elim k3 (fun h4 => by omega)⟩
def PushHP (w0 : World) (B b bm c : Nat) (L : List It) (Y : List Nat) (M : List It) (K : List (Nat × Obj)) (e : Ending) (w' : World) : Prop := e = .returned (.tuple #[]) ∧ ∃ X2, Bz w0 w' B b bm X2 c L Y M K
theorem Bz.pushH {x : It} (h : Bz w0 w B b bm X c L Y M K) (hx : okM x) (hc : c + 1 ≤ 1000000) :
    Calls Try.prog 29 #[.pointer (some ⟨b, 0, none⟩), .agg #[.int .i64 x.k, .int .i64 x.w]] w (PushHP w0 B b bm (c + 1) (ins keyM x L) Y M K) := by
  refine (hpushM h.h.h hx hc).mono ?_
  rintro e w' ⟨rfl, X2, h1, h2, h3⟩
  obtain ⟨k1, k2⟩ := h.h.keptX h2
  refine ⟨rfl, X2, ⟨h1, k1, fun k hk hy => ?_, k2, h.h.le⟩, h.kX h2 h3⟩
  rcases h3 k hk with h4 | h4
  · exact h.h.dis k h4 hy
  · have := (h.h.m.ge k hy).2; omega
def SameHP (v : Value) (w0 : World) (B b bm : Nat) (X : List Nat) (c : Nat) (L : List It) (Y : List Nat) (M : List It) (K : List (Nat × Obj)) (e : Ending) (w' : World) : Prop := e = .returned v ∧ Bz w0 w' B b bm X c L Y M K
theorem Bz.popH {x : It} (h : Bz w0 w B b bm X c (x :: L) Y M K) :
    Calls Try.prog 30 #[.pointer (some ⟨b, 0, none⟩)] w (SameHP (.tuple #[.agg #[.int .i64 x.k, .int .i64 x.w], .bool true]) w0 B b bm X c L Y M K) := by
  refine (hpopM h.h.h).mono ?_
  rintro e w' ⟨rfl, h1, h2⟩
  obtain ⟨k1, k2⟩ := h.h.keptX h2
  exact ⟨rfl, ⟨h1, k1, h.h.dis, k2, h.h.le⟩, h.kX h2 (fun k hk => .inl hk)⟩
def PushRP (w0 : World) (B b bm : Nat) (X : List Nat) (c : Nat) (L : List It) (M : List It) (K : List (Nat × Obj)) (e : Ending) (w' : World) : Prop := e = .returned (.tuple #[]) ∧ ∃ Y2, Bz w0 w' B b bm X c L Y2 M K
theorem Bz.pushR {x : It} (h : Bz w0 w B b bm X c L Y M K) (hx : okM x) (hM : M.length ≤ 200) (hso : M.Pairwise (fun a b => a.k ≤ b.k)) :
    Calls Try.prog 10 #[.pointer (some ⟨bm, 0, none⟩), .agg #[.int .i64 x.k, .int .i64 x.w]] w (PushRP w0 B b bm X c L (ins keyM x M) K) := by
  refine (mpush h.h.m hx hM hso).mono ?_
  rintro e w' ⟨rfl, Y2, h1, h2, h3⟩
  obtain ⟨k1, k2⟩ := h.h.keptY h2
  refine ⟨rfl, Y2, ⟨k1, h1, fun k hk hy => ?_, k2, h.h.le⟩, h.kY h2 h3⟩
  rcases h3 k hy with h4 | h4
  · exact h.h.dis k hk h4
  · have := (h.h.h.ge k hk).2; omega
theorem Bz.popR {x : It} (h : Bz w0 w B b bm X c L Y (x :: M) K) :
    Calls Try.prog 33 #[.pointer (some ⟨bm, 0, none⟩)] w (SameHP (.agg #[.int .i64 x.k, .int .i64 x.w]) w0 B b bm X c L Y M K) := by
  refine (mpop h.h.m).mono ?_
  rintro e w' ⟨rfl, h1, h2⟩
  obtain ⟨k1, k2⟩ := h.h.keptY h2
  exact ⟨rfl, ⟨k1, h1, h.h.dis, k2, h.h.le⟩, h.kY h2 (fun k hk => .inl hk)⟩
theorem Bz.nilH (h : Bz w0 w B b bm X c [] Y M K) : Calls Try.prog 30 #[.pointer (some ⟨b, 0, none⟩)] w (SameHP (.tuple #[.agg #[.int .i64 0, .int .i64 0], .bool false]) w0 B b bm X c [] Y M K) := by
  refine (hnilM h.h.h).1.mono ?_
  rintro e w' ⟨rfl, hb⟩
  exact ⟨rfl, h.later hb⟩
theorem Bz.nilR (h : Bz w0 w B b bm X c L Y [] K) : Calls Try.prog 33 #[.pointer (some ⟨bm, 0, none⟩)] w (SameHP (.agg #[.int .i64 0, .int .i64 0]) w0 B b bm X c L Y [] K) := by
  refine (mnil h.h.m).mono ?_
  rintro e w' ⟨rfl, hb⟩
  exact ⟨rfl, h.later hb⟩
theorem Bz.add (h : Bz w0 w B b bm X c L Y M K) (cs : Array Value) (t : TypeId) : Bz w0 (w.alloc (.cells cs t)) B b bm X c L Y M ((w.heap.size, .cells cs t (0, 0)) :: K) := by
  have hb : Below w.heap.size w (w.alloc (.cells cs t)) := (Below.refl _ _).alloc (Nat.le_refl _) _
  refine ⟨h.h.later hb, fun p hp => ?_⟩
  rcases List.mem_cons.1 hp with rfl | hp
  · exact ⟨heap_alloc_new _ _, fun hm => by have := (h.h.h.ge _ hm).2; simp at this, fun hm => by have := (h.h.m.ge _ hm).2; simp at this⟩
  · exact (h.later hb).k p hp
theorem Bz.sub {K' : List (Nat × Obj)} (h : Bz w0 w B b bm X c L Y M K) (hs : ∀ p ∈ K', p ∈ K) : Bz w0 w B b bm X c L Y M K' := ⟨h.h, fun p hp => h.k p (hs p hp)⟩
/-- A block beside them gets another value. -/
theorem Bz.set1 {k0 : Nat} {t : TypeId} {u : Value} (h : Bz w0 w B b bm X c L Y M ((k0, .cells #[u] t (0, 0)) :: K)) (hk0 : w0.heap.size ≤ k0) (hK : ∀ p ∈ K, p.1 ≠ k0) (v : Value) : Bz w0 (w.setCell ⟨k0, 0, none⟩ v) B b bm X c L Y M ((k0, .cells #[v] t (0, 0)) :: K) := by
  obtain ⟨k1, k2, k3⟩ := h.k _ List.mem_cons_self
  have hK1 : Kept [k0] w (w.setCell ⟨k0, 0, none⟩ v) := (Kept.refl _ _).set _ _ _ (by simp)
  refine ⟨⟨h.h.h.kept hK1 (fun k hk hm => by simp at hm; subst hm; exact k2 hk), h.h.m.kept hK1 (fun k hk hm => by simp at hm; subst hm; exact k3 hk), h.h.dis, h.h.b.setCell hk0 _, h.h.le⟩, fun p hp => ?_⟩
  rcases List.mem_cons.1 hp with rfl | hp
  · exact ⟨Boxed.set (W := w) (B := k0) (t := t) v k1, k2, k3⟩
  · obtain ⟨p1, p2, p3⟩ := h.k p (List.mem_cons_of_mem _ hp)
    exact ⟨(hK1.block _ (Array.getElem?_eq_some_iff.1 p1).1 (by simp; exact hK p hp)).trans p1, p2, p3⟩
theorem Bz.at (h : Bz w0 w B b bm X c L Y M K) {k0 : Nat} {cs : Array Value} {t : TypeId} (hm : (k0, Obj.cells cs t (0, 0)) ∈ K) (i : Nat) : w.cell? ⟨k0, i, none⟩ = cs[i]? := cell_of_row w k0 i _ _ _ (h.k _ hm).1
theorem Bz.fz (h : Bz w0 w B b bm X c L Y M K) {k0 : Nat} {cs : Array Value} {t : TypeId} (hm : (k0, Obj.cells cs t (0, 0)) ∈ K) (i : Nat) : w.frozen? ⟨k0, i, none⟩ = false := by
  have := (h.k _ hm).1
  simp only at this
  simp [World.frozen?, this]
end
/-- Both go on alike. -/
def Goes (w0 : World) (B b bm c n : Nat) (e : Ending) (w' : World) : Prop := e = .returned (.bool true) ∧ ∃ X' Y' c' L', c' ≤ c + 1 ∧ L'.length ≤ n + 1 ∧ L'.Pairwise (fun a b => a.k ≤ b.k) ∧ BM w0 w' B b bm X' c' L' Y' L'
end Go.Proofs.Ytebbpgokhelmdaa
