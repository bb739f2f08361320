/- What a range over Drain keeps in does. -/
import Derived.Test.YtebbpgokhelmdaaDo2
import Derived.Test.YtebbpgokhelmdaaRnd
namespace Go.Proofs.Ytebbpgokhelmdaa
open Go.RowKit Go.Shelf
set_option linter.unusedVariables false
set_option linter.unusedSimpArgs false
structure DoI (w0 : World) (B bm : Nat) (Y : List Nat) (P : Nat) (lf : Int) (r : List It) (V : World) : Prop where
  m : MH B V bm Y r
  p : Boxed V P 26 (.pointer (some ⟨bm, 0, none⟩))
  q : Boxed V (P + 1 + 1) 4 (.bool false)
  l : Boxed V (P + 4) 3 (.int .i64 lf)
  b : Below w0.heap.size w0 V
  le : P + 5 ≤ V.heap.size
section
variable {w0 V V' : World} {B bm P : Nat} {Y : List Nat} {lf : Int} {r : List It}
theorem DoI.kept {Z : List Nat} (h : DoI w0 B bm Y P lf r V) (hk : Kept Z V V') (hZ : ∀ k ∈ Z, k ∉ Y ∧ k ≠ P ∧ k ≠ P + 1 + 1 ∧ k ≠ P + 4 ∧ w0.heap.size ≤ k) : DoI w0 B bm Y P lf r V' := by
  have h5 := h.le
  refine ⟨h.m.kept hk (fun k hk hz => (hZ k hz).1 hk), (hk.block _ (by omega) (fun hm => (hZ _ hm).2.1 rfl)).trans h.p, (hk.block _ (by omega) (fun hm => (hZ _ hm).2.2.1 rfl)).trans h.q, (hk.block _ (by omega) (fun hm => (hZ _ hm).2.2.2.1 rfl)).trans h.l, h.b.trans (hk.below h.b.size (fun k hm => (hZ _ hm).2.2.2.2)), Nat.le_trans h5 hk.size⟩
theorem DoI.later (h : DoI w0 B bm Y P lf r V) (hb : Below V.heap.size V V') : DoI w0 B bm Y P lf r V' := h.kept (Kept.of [] hb) (by simp)
theorem DoI.grown {row : Option Nat} (h : DoI w0 B bm Y P lf r V) (hg : V.grownBy V' row) (hr : ∀ k, row = some k → P + 5 ≤ k) (hY : ∀ k ∈ Y, k < P) (h0 : w0.heap.size ≤ P) : DoI w0 B bm Y P lf r V' :=
  h.kept (kept_grown hg (X := row.toList) (fun k hk => by simp [hk])) (fun k hk => by
    simp at hk
    have := hr k hk
    exact ⟨fun hm => by have := hY k hm; omega, by omega, by omega, by omega, by omega⟩)
def DoPopP (w0 : World) (B bm : Nat) (Y : List Nat) (P : Nat) (lf : Int) (r : List It) (V : World) (v : Value) (e : Ending) (V' : World) : Prop := e = .returned v ∧ DoI w0 B bm Y P lf r V' ∧ Kept [bm] V V'
theorem DoI.pop {x : It} (h : DoI w0 B bm Y P lf (x :: r) V) (hY : ∀ k ∈ Y, k < P) (h0 : w0.heap.size ≤ bm) : Calls Try.prog 33 #[.pointer (some ⟨bm, 0, none⟩)] V (DoPopP w0 B bm Y P lf r V (.agg #[.int .i64 x.k, .int .i64 x.w])) := by
  have hb := hY _ h.m.mem
  have h5 := h.le
  refine (mpop h.m).mono ?_
  rintro e w' ⟨rfl, h1, h2⟩
  exact ⟨rfl, ⟨h1, (h2.block _ (by omega) (by simp; omega)).trans h.p, (h2.block _ (by omega) (by simp; omega)).trans h.q, (h2.block _ (by omega) (by simp; omega)).trans h.l, h.b.trans (h2.below h.b.size (fun k hm => by simp at hm; omega)), Nat.le_trans h5 h2.size⟩, h2⟩
theorem DoI.setl (h : DoI w0 B bm Y P lf r V) (hY : ∀ k ∈ Y, k < P) (h0 : w0.heap.size ≤ P) (v : Int) : DoI w0 B bm Y P v r (V.setCell ⟨P + 4, 0, none⟩ (.int .i64 v)) := by
  have hk : Kept [P + 4] V (V.setCell ⟨P + 4, 0, none⟩ (.int .i64 v)) := (Kept.refl _ _).set _ _ _ (by simp)
  have h5 := h.le
  refine ⟨h.m.kept hk (fun k hk hz => by simp at hz; have := hY k hk; omega), (hk.block _ (by omega) (by simp)).trans h.p, (hk.block _ (by omega) (by simp)).trans h.q, Boxed.set _ h.l, h.b.setCell (p := ⟨P + 4, 0, none⟩) (by simp; omega) _, by simpa using h5⟩
theorem DoI.setq (h : DoI w0 B bm Y P lf r V) (hY : ∀ k ∈ Y, k < P) (h0 : w0.heap.size ≤ P) (u : Value) : MH B (V.setCell ⟨P + 1 + 1, 0, none⟩ u) bm Y r ∧ Boxed (V.setCell ⟨P + 1 + 1, 0, none⟩ u) (P + 1 + 1) 4 u ∧ Below w0.heap.size w0 (V.setCell ⟨P + 1 + 1, 0, none⟩ u) := by
  have hk : Kept [P + 1 + 1] V (V.setCell ⟨P + 1 + 1, 0, none⟩ u) := (Kept.refl _ _).set _ _ _ (by simp)
  exact ⟨h.m.kept hk (fun k hk hz => by simp at hz; have := hY k hk; omega), Boxed.set _ h.q, h.b.setCell (p := ⟨P + 1 + 1, 0, none⟩) (by simp; omega) _⟩
end
/-- What is told so far, and what is left of both. -/
def DoJ (w0 : World) (B bm : Nat) (Y : List Nat) (P : Nat) (R : Int) (L pre : List It) (V : World) : Prop := ∃ r, L = pre ++ r ∧ (pre.length : Int) < R ∧ DoI w0 B bm Y P (R - pre.length) r V
def DoX (i : Nat) (w0 : World) (B bm : Nat) (Y : List Nat) (P : Nat) (L : List It) (c : Code) (pre : List It) (V : World) : Prop := c = .exit i ∧ ∃ r, L = pre ++ r ∧ DoI w0 B bm Y P 0 r V
theorem do_kept {bm P : Nat} {V w3 : World} (h : Kept [bm] V.drew w3) (u : Value) : Kept [bm, P + 4] V (w3.setCell ⟨P + 4, 0, none⟩ u) :=
  ((Kept.of [bm, P + 4] (below_drew V)).trans (h.mono (fun k hk => by simp at hk; simp [hk]))).set _ _ _ (by simp)
theorem do_end {w0 V : World} {B b bm c P D : Nat} {X Y : List Nat} {lf : Int} {r : List It} (hH : HsM B V b X c r) (hI : DoI w0 B bm Y P lf r V) (hX : ∀ k ∈ X, k < P) (hY : ∀ k ∈ Y, k < P) (h0 : w0.heap.size ≤ P) (hd : ∀ k ∈ X, k ∉ Y) (hle : w0.heap.size ≤ B) (hD : P + 5 ≤ D) (hK : V.heap[D]? = some (.deferred (some []))) (u : Value) :
    (V.setCell ⟨P + 1 + 1, 0, none⟩ u).heap[D]? = some (.deferred (some [])) ∧ BM w0 ((V.setCell ⟨P + 1 + 1, 0, none⟩ u).putObj D (.deferred none)) B b bm X c r Y r ∧ Boxed ((V.setCell ⟨P + 1 + 1, 0, none⟩ u).putObj D (.deferred none)) (P + 1 + 1) 4 u := by
  obtain ⟨m1, q1, b1⟩ := hI.setq hY h0 u
  have k1 : Kept [P + 1 + 1] V (V.setCell ⟨P + 1 + 1, 0, none⟩ u) := (Kept.refl _ _).set _ _ _ (by simp)
  have hDl := (Array.getElem?_eq_some_iff.1 hK).1
  have hK1 : (V.setCell ⟨P + 1 + 1, 0, none⟩ u).heap[D]? = some (.deferred (some [])) := (k1.block D hDl (by simp; omega)).trans hK
  generalize V.setCell ⟨P + 1 + 1, 0, none⟩ u = W at *
  have k2 : Kept [D] W (W.putObj D (.deferred none)) := (Kept.refl _ _).put _ _ (by simp)
  have hql := q1.lt
  refine ⟨hK1, ⟨(hH.kept k1 (fun k hk hm => ?_)).kept k2 (fun k hk hm => ?_), m1.kept k2 (fun k hk hm => ?_), hd, b1.trans (k2.below b1.size (fun k hm => by simp at hm; omega)), hle⟩, (k2.block _ hql (by simp; omega)).trans q1⟩
  · have := hX k hk; simp at hm; omega
  · have := hX k hk; simp at hm; omega
  · have := hY k hk; simp at hm; omega
theorem suffix_sorted {L pre r : List It} (h : L.Pairwise (fun a b => a.k ≤ b.k)) (e : L = pre ++ r) : r.Pairwise (fun a b => a.k ≤ b.k) := by
  rw [e] at h; exact (List.pairwise_append.1 h).2.1
theorem wpIn_namedP {F : Fence} {n : Nat} {P : Program} {c : Code} {Q : Exit → Act → World → Prop} {a : Act} {w : World} (h : ∀ a', a' = a → Code.wpIn F n P c Q a' w) : Code.wpIn F n P c Q a w := h a rfl
theorem do_same {bm P n0 : Nat} {X : List Nat} {V w5 : World} (h : Kept [bm, P + 4] V w5) (hle : P + 5 ≤ V.heap.size) (hn : n0 = P + 5) (hbm : bm < P) (hX : ∀ k ∈ X, k < P) (hd : bm ∉ X) :
    KeepsFrom n0 V w5 ∧ SameB ((P + 3) :: X) V w5 := by
  refine ⟨⟨h.size, fun k o hB hk ho => (h.block k (Array.getElem?_eq_some_iff.1 hk).1 (by simp; omega)).trans hk⟩, fun k hk => h.block k ?_ ?_⟩
  · rcases List.mem_cons.1 hk with rfl | hk
    · omega
    · have := hX k hk; omega
  · rcases List.mem_cons.1 hk with rfl | hk
    · simp; omega
    · have := hX k hk
      intro hm
      simp at hm
      rcases hm with rfl | hm
      · exact hd hk
      · omega
theorem do_next {w0 w5 : World} {B bm P : Nat} {Y : List Nat} {s lf q : Int} {L pre r : List It} {x : It} (hL : L = pre ++ x :: r) (hlf : s - (pre.length : Int) = lf) (hq : lf - 1 = q) (hq1 : 0 < q) (h : DoI w0 B bm Y P q r w5) : DoJ w0 B bm Y P s L (pre ++ [x]) w5 := by
  have e : s - ((pre ++ [x]).length : Int) = q := by simp; omega
  exact ⟨r, by rw [hL]; simp, by simp; omega, by rw [e]; exact h⟩
theorem do_stop {w0 w5 : World} {B bm P : Nat} {Y : List Nat} {q : Int} {L pre r : List It} {x : It} (hL : L = pre ++ x :: r) (hq1 : q = 0) (h : DoI w0 B bm Y P q r w5) : DoX 1 w0 B bm Y P L (.exit 1) (pre ++ [x]) w5 := by
  subst hq1
  exact ⟨rfl, r, by rw [hL]; simp, h⟩
end Go.Proofs.Ytebbpgokhelmdaa
