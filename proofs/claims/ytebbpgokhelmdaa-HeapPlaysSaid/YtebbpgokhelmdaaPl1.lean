/- HeapPlays: what holds while both are filled. -/
import Derived.Test.YtebbpgokhelmdaaDo3
import Derived.Test.YtebbpgokhelmdaaEch
import Derived.Test.YtebbpgokhelmdaaAwk
namespace Go.Proofs.Ytebbpgokhelmdaa
open Go.RowKit Go.Shelf
set_option linter.unusedVariables false
set_option linter.unusedSimpArgs false
theorem wpList_appN {ops : Array Oper} {rest : List Oper} {o : Oper} {a : Act} {w : World} {Q : Exit → Act → World → Prop}
    (hg : o.guard = none) (s x : Operand) (hop : o.op = Op.call { callee := Callee.builtin Builtin.append, args := #[s, x], argTypes := #[25, 25] })
    (base : Nat) (v : Value) (n : Nat) (xs : List Value) (hs : a.eval s = v) (hown : w.ownsRow base 31 2 v n xs)
    (ad : Addr) (news : List Value) (hx : a.eval x = .slice (some ad) 1 1) (hn : news.length = 2) (hc : ∀ j u, news[j]? = some u → w.cell? (ad.add j) = some u) (h1c : ∀ u ∈ news, u.oneCell' = true)
    (b1 : n ≤ 1000000) (hbase : base ≤ w.heap.size)
    (hK : ∀ v' w', w'.ownsRow base 31 2 v' (n + 1) (xs ++ news) → w.grownBy w' v.ownBlock → (∀ k, v'.ownBlock = some k → v.ownBlock = some k ∨ w.heap.size ≤ k) → wpList Try.prog ops Q rest (a.put o.dst v') w') : wpList Try.prog ops Q (o :: rest) a w := by
  refine wpList_plain hg fun K hK' => ?_
  obtain ⟨v', w', hrun, r1, r2, r3⟩ := run_appN o.type hown ad news hn hc h1c b1 hbase
  unfold Oper.wp
  simp [execOp, hop, resolve, invoke, builtin, hs, hx, hrun, Result.andThen]
  exact hK' _ _ (hK v' w' r1 r2 r3)
def its (f : Nat → Int) (k : Nat) : List It := (List.range k).map (fun j => ⟨f j, -1 - (j : Int)⟩)
theorem its_succ (f : Nat → Int) (k : Nat) : its f (k + 1) = its f k ++ [⟨f k, -1 - (k : Int)⟩] := by simp [its, List.range_succ]
theorem its_len (f : Nat → Int) (k : Nat) : (its f k).length = k := by simp [its]
theorem allIts_len (f : Nat → Int) (k : Nat) : (allInM (its f k)).length = k := by
  induction k with
  | zero => rfl
  | succ k ih => rw [its_succ, allIn_snocM, ins_lengthM, ih]
theorem allIts_sort (f : Nat → Int) (k : Nat) : (allInM (its f k)).Pairwise (fun a b => a.k ≤ b.k) := by
  induction k with
  | zero => simp [its, allInM]
  | succ k ih => rw [its_succ, allIn_snocM]; exact ins_sortedM _ _ ih
structure P1 (w : World) (B1 : Nat) (f : Nat → Int) (k : Nat) (v : Value) (wr : World) : Prop where
  ex : ∃ Y, MH B1 wr B1 Y (allInM (its f k)) ∧ (∀ g, v.ownBlock = some g → g ∉ Y)
  row : wr.ownsRow B1 31 2 v k (itC (its f k))
  b : Below w.heap.size w wr
  le : w.heap.size ≤ B1
section
variable {w wr w' : World} {B1 k : Nat} {f : Nat → Int} {v : Value}
theorem P1.later (h : P1 w B1 f k v wr) (hb : Below wr.heap.size wr w') : P1 w B1 f k v w' := by
  obtain ⟨Y, h1, h2⟩ := h.ex
  exact ⟨⟨Y, h1.later hb, h2⟩, (Kept.of [] hb).row h.row (by simp), h.b.trans (hb.mono h.b.size), h.le⟩
/-- The program's row has one more. -/
def P1b (w : World) (B1 : Nat) (f : Nat → Int) (k : Nat) (v : Value) (wr : World) : Prop :=
  (∃ Y, MH B1 wr B1 Y (allInM (its f k)) ∧ (∀ g, v.ownBlock = some g → g ∉ Y)) ∧ wr.ownsRow B1 31 2 v (k + 1) (itC (its f (k + 1))) ∧ Below w.heap.size w wr
theorem P1.app {v' : Value} (h : P1 w B1 f k v wr) (ho : w'.ownsRow B1 31 2 v' (k + 1) (itC (its f k) ++ [.int .i64 (f k), .int .i64 (-1 - (k : Int))])) (hg : wr.grownBy w' v.ownBlock) (hor : ∀ g, v'.ownBlock = some g → v.ownBlock = some g ∨ wr.heap.size ≤ g) : P1b w B1 f k v' w' := by
  obtain ⟨Y, h1, h2⟩ := h.ex
  have hk := kept_grown hg (X := v.ownBlock.toList) (fun k hk => by simp [hk])
  have hge : ∀ g, v.ownBlock = some g → B1 ≤ g := fun g hg => by
    rcases h.row.2 with ⟨rfl, _⟩ | ⟨g', cap, cur, rfl, hb, _⟩
    · simp [Value.ownBlock] at hg
    · simp [Value.ownBlock] at hg; omega
  have hle := h.le
  refine ⟨⟨Y, h1.kept hk (fun k hk hm => h2 k (by simpa using hm) hk), fun g hg hy => ?_⟩, by rw [its_succ, itC_append]; exact ho, h.b.trans (hk.below h.b.size (fun k hm => by have := hge k (by simpa using hm); omega))⟩
  rcases hor g hg with h3 | h3
  · exact h2 g h3 hy
  · have := (h1.ge g hy).2; omega
def P1P (w : World) (B1 : Nat) (f : Nat → Int) (k : Nat) (v : Value) (e : Ending) (w' : World) : Prop := e = .returned (.tuple #[]) ∧ P1 w B1 f k v w'
theorem P1b.push (h : P1b w B1 f k v wr) (hle : w.heap.size ≤ B1) (hx : okM ⟨f k, -1 - (k : Int)⟩) (hk : k ≤ 100) : Calls Try.prog 10 #[.pointer (some ⟨B1, 0, none⟩), .agg #[.int .i64 (f k), .int .i64 (-1 - (k : Int))]] wr (P1P w B1 f (k + 1) v) := by
  obtain ⟨⟨Y, h1, h2⟩, h3, h4⟩ := h
  refine (mpush (x := ⟨f k, -1 - (k : Int)⟩) h1 hx (by rw [allIts_len]; omega) (allIts_sort _ _)).mono ?_
  rintro e w' ⟨rfl, Y', g1, g2, g3⟩
  refine ⟨rfl, ⟨Y', by rw [its_succ, allIn_snocM]; exact g1, fun g hg hy => ?_⟩, g2.row h3 (fun g hg hm => ?_), h4.trans (g2.below h4.size (fun k hm => by simp at hm; omega)), hle⟩
  · have hgl := h3.lt g hg
    rcases g3 g hy with h5 | h5
    · exact h2 g hg h5
    · omega
  · simp at hm; subst hm; exact h2 _ hg h1.mem
theorem P1.new (h : P1 w B1 f k v wr) (hok : ∀ x ∈ its f k, okM x) (hk : k ≤ 100) {A : Option Addr} {cap : Nat} (hv : v = .slice A k cap) (hc1 : k ≤ cap) (hc2 : cap ≤ maxLen) : Calls Try.prog 11 #[.func (.func 12) #[] #[], v] wr fun e w' => e = .returned (.pointer (some ⟨wr.heap.size, 0, none⟩)) ∧ ∃ X Y, BM w w' B1 wr.heap.size B1 X k (allInM (its f k)) Y (allInM (its f k)) := by
  obtain ⟨Y, h1, h2⟩ := h.ex
  have hR := rowM_of_own h.row hok hv
  have hbw := h.b.size
  subst hv
  unfold maxLen at hc2
  refine (new_anyM wr hR (its_len f k) (by omega) hc1 hc2).mono ?_
  rintro e w' ⟨X, rfl, g1, g2⟩
  have hHs : HsM B1 w' wr.heap.size X k (allInM (its f k)) := by
    obtain ⟨⟨v, l, r1, r2, r3⟩, r4⟩ := g1
    have hB : B1 ≤ wr.heap.size := Nat.le_of_lt h1.lt
    exact ⟨⟨v, l, ⟨by omega, r1.is, own_low r1.row hB, r1.ok, r1.few, r1.lim⟩, r2, r3⟩, r4⟩
  exact ⟨rfl, X, Y, hHs, h1.later g2, fun k hk hy => by have := (g1.ge k hk).1; have := (h1.ge k hy).2; omega, h.b.trans (g2.mono hbw), h.le⟩
end
theorem does_any {w0 w : World} {B b bm c : Nat} {X Y : List Nat} {L : List It} (kind key which : Int) (h : BM w0 w B b bm X c L Y L) (hk : in64 kind) (hy : in64 key) (hw : in64 which) (hL : L.length ≤ 190) (hc : c ≤ 500) (hso : L.Pairwise (fun a b => a.k ≤ b.k)) :
    Calls Try.prog 13 #[.pointer (some ⟨b, 0, none⟩), .pointer (some ⟨bm, 0, none⟩), .agg #[.int .i64 kind, .int .i64 key], .int .i64 which] w (Goes w0 B b bm c L.length) := by
  have hz : Bz w0 w B b bm X c L Y L [] := ⟨h, fun p hp => by simp at hp⟩
  obtain ⟨h0, h1⟩ := restI_bd kind 5 (by omega) (by omega)
  by_cases h2 : restI kind 5 ≤ 2
  · exact does_push kind key which hz hk hy hw hL hc hso h2
  by_cases h3 : restI kind 5 = 3
  · exact does_pop kind key which hz hk hy hw hL hc hso h3
  · exact does_drain kind key which hz hk hy hw hL hc hso (by omega)
def ActRow (W : World) (A : Option Addr) (len : Nat) : Prop := ∀ i, i < len → ∃ b o kd ky, A = some ⟨b, o, none⟩ ∧ b < W.heap.size ∧ in64 kd ∧ in64 ky ∧ W.cell? ⟨b, o + i * 2, none⟩ = some (.int .i64 kd) ∧ W.cell? ⟨b, o + i * 2 + 1, none⟩ = some (.int .i64 ky)
theorem ActRow.later {W W' : World} {A : Option Addr} {len : Nat} (h : ActRow W A len) (hb : Below W.heap.size W W') : ActRow W' A len := fun i hi => by
  obtain ⟨b, o, kd, ky, e, hl, k1, k2, c0, c1⟩ := h i hi
  exact ⟨b, o, kd, ky, e, Nat.lt_of_lt_of_le hl hb.size, k1, k2, (hb.cell (p := ⟨b, _, none⟩) hl).trans c0, (hb.cell (p := ⟨b, _, none⟩) hl).trans c1⟩
end Go.Proofs.Ytebbpgokhelmdaa
