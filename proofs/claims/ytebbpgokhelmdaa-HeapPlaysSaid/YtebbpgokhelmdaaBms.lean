/- The program's heap and the document's, side by side. -/
import Derived.Test.YtebbpgokhelmdaaPsh
namespace Go.Proofs.Ytebbpgokhelmdaa
open Go.RowKit Go.Shelf
set_option linter.unusedVariables false
set_option linter.unusedSimpArgs false
/-- The program's heap at b (its blocks X) tells L; the document's at bm (its blocks Y) tells M; no block is both's. -/
structure BM (w wr : World) (B b bm : Nat) (X : List Nat) (c : Nat) (L : List It) (Y : List Nat) (M : List It) : Prop where
  h : HsM B wr b X c L
  m : MH B wr bm Y M
  dis : ∀ k ∈ X, k ∉ Y
  b : Below w.heap.size w wr
  le : w.heap.size ≤ B
section
variable {w wr w' : World} {B b bm c : Nat} {X Y : List Nat} {L M : List It}
theorem BM.later (h : BM w wr B b bm X c L Y M) (hb : Below wr.heap.size wr w') : BM w w' B b bm X c L Y M :=
  ⟨h.h.later hb, h.m.later hb, h.dis, h.b.trans (hb.mono h.b.size), h.le⟩
theorem BM.keptX (h : BM w wr B b bm X c L Y M) (hk : Kept X wr w') : MH B w' bm Y M ∧ Below w.heap.size w w' :=
  ⟨h.m.kept hk (fun k hk hx => h.dis k hx hk), h.b.trans (hk.below h.b.size (fun k hk => Nat.le_trans h.le (h.h.ge k hk).1))⟩
theorem BM.keptY (h : BM w wr B b bm X c L Y M) (hk : Kept [bm] wr w') : HsM B w' b X c L ∧ Below w.heap.size w w' :=
  ⟨h.h.kept hk (fun k hkx hx => by simp at hx; subst hx; exact h.dis _ hkx h.m.mem), h.b.trans (hk.below h.b.size (fun k hk => by simp at hk; subst hk; exact Nat.le_trans h.le h.m.le))⟩
theorem BM.pushH {x : It} (h : BM w wr B b bm X c L Y M) (hx : okM x) (hc : c + 1 ≤ 1000000) :
    Calls Try.prog 29 #[.pointer (some ⟨b, 0, none⟩), .agg #[.int .i64 x.k, .int .i64 x.w]] wr fun e w' => e = .returned (.tuple #[]) ∧ ∃ X2, BM w w' B b bm X2 (c + 1) (ins keyM x L) Y M := by
  refine (hpushM h.h hx hc).mono ?_
  rintro e w' ⟨rfl, X2, h1, h2, h3⟩
  obtain ⟨k1, k2⟩ := h.keptX h2
  refine ⟨rfl, X2, h1, k1, fun k hk hy => ?_, k2, h.le⟩
  rcases h3 k hk with h4 | h4
  · exact h.dis k h4 hy
  · have := (h.m.ge k hy).2; omega
theorem BM.popH {x : It} (h : BM w wr B b bm X c (x :: L) Y M) :
    Calls Try.prog 30 #[.pointer (some ⟨b, 0, none⟩)] wr fun e w' => e = .returned (.tuple #[.agg #[.int .i64 x.k, .int .i64 x.w], .bool true]) ∧ BM w w' B b bm X c L Y M := by
  refine (hpopM h.h).mono ?_
  rintro e w' ⟨rfl, h1, h2⟩
  obtain ⟨k1, k2⟩ := h.keptX h2
  exact ⟨rfl, h1, k1, h.dis, k2, h.le⟩
theorem BM.pushR {x : It} (h : BM w wr B b bm X c L Y M) (hx : okM x) (hM : M.length ≤ 200) (hso : M.Pairwise (fun a b => a.k ≤ b.k)) :
    Calls Try.prog 10 #[.pointer (some ⟨bm, 0, none⟩), .agg #[.int .i64 x.k, .int .i64 x.w]] wr fun e w' => e = .returned (.tuple #[]) ∧ ∃ Y2, BM w w' B b bm X c L Y2 (ins keyM x M) := by
  refine (mpush h.m hx hM hso).mono ?_
  rintro e w' ⟨rfl, Y2, h1, h2, h3⟩
  obtain ⟨k1, k2⟩ := h.keptY h2
  refine ⟨rfl, Y2, k1, h1, fun k hk hy => ?_, k2, h.le⟩
  rcases h3 k hy with h4 | h4
  · exact h.dis k hk h4
  · have := (h.h.ge k hk).2; omega
theorem BM.popR {x : It} (h : BM w wr B b bm X c L Y (x :: M)) :
    Calls Try.prog 33 #[.pointer (some ⟨bm, 0, none⟩)] wr fun e w' => e = .returned (.agg #[.int .i64 x.k, .int .i64 x.w]) ∧ BM w w' B b bm X c L Y M := by
  refine (mpop h.m).mono ?_
  rintro e w' ⟨rfl, h1, h2⟩
  obtain ⟨k1, k2⟩ := h.keptY h2
  exact ⟨rfl, k1, h1, h.dis, k2, h.le⟩
theorem BM.nilH (h : BM w wr B b bm X c [] Y M) : Calls Try.prog 30 #[.pointer (some ⟨b, 0, none⟩)] wr fun e w' => e = .returned (.tuple #[.agg #[.int .i64 0, .int .i64 0], .bool false]) ∧ BM w w' B b bm X c [] Y M := by
  refine (hnilM h.h).1.mono ?_
  rintro e w' ⟨rfl, hb⟩
  exact ⟨rfl, h.later hb⟩
theorem BM.nilR (h : BM w wr B b bm X c L Y []) : Calls Try.prog 33 #[.pointer (some ⟨bm, 0, none⟩)] wr fun e w' => e = .returned (.agg #[.int .i64 0, .int .i64 0]) ∧ BM w w' B b bm X c L Y [] := by
  refine (mnil h.m).mono ?_
  rintro e w' ⟨rfl, hb⟩
  exact ⟨rfl, h.later hb⟩
end
/-- The order of keys stays. -/
theorem ins_permM (x : It) : ∀ L : List It, (ins keyM x L).Perm (x :: L)
  | [] => List.Perm.refl _
  | a :: l => by
    unfold ins
    split
    · exact List.Perm.refl _
    · exact ((ins_permM x l).cons a).trans (List.Perm.swap _ _ _)
theorem ins_sortedM (x : It) : ∀ L : List It, L.Pairwise (fun a b => a.k ≤ b.k) → (ins keyM x L).Pairwise (fun a b => a.k ≤ b.k)
  | [], _ => by simp [ins]
  | a :: l, h => by
    obtain ⟨h1, h2⟩ := List.pairwise_cons.1 h
    unfold ins
    split
    · rename_i hlt
      unfold keyM at hlt
      refine List.pairwise_cons.2 ⟨fun y hy => ?_, h⟩
      rcases List.mem_cons.1 hy with rfl | hy
      · omega
      · have := h1 y hy; omega
    · rename_i hlt
      unfold keyM at hlt
      refine List.pairwise_cons.2 ⟨fun y hy => ?_, ins_sortedM x l h2⟩
      rcases List.mem_cons.1 ((ins_permM x l).mem_iff.1 hy) with rfl | hy
      · omega
      · exact h1 y hy
end Go.Proofs.Ytebbpgokhelmdaa
