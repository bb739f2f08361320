/- A queue in memory: its place, its length, its room. -/
import Derived.Test.YtgcchmenadgboaaFBase
namespace Go.Proofs.Ytgcchmenadgboaa
open Go.RowKit
set_option linter.unusedVariables false
set_option linter.unusedSimpArgs false
attribute [local go_sem ↓] Go.wp_at_zero Go.wp_at_succ

def clI (l : List Int) : List Value := l.map (fun x => .int .i64 x)
theorem cl_lenI (l : List Int) : (clI l).length = l.length := by simp [clI]
theorem cl_appI (a b : List Int) : clI (a ++ b) = clI a ++ clI b := by simp [clI]
theorem cl_getI {l : List Int} {i : Nat} {x : Int} (h : l[i]? = some x) : (clI l)[i]? = some (.int .i64 x) := by simp [clI, h]
theorem cl_get'I {l : List Int} {i : Nat} {u : Value} (h : (clI l)[i]? = some u) : ∃ x, l[i]? = some x ∧ u = .int .i64 x := by
  simp only [clI, List.getElem?_map, Option.map_eq_some_iff] at h
  obtain ⟨x, h1, h2⟩ := h
  exact ⟨x, h1, h2.symm⟩
theorem cl_oneI (l : List Int) : ∀ u ∈ clI l, u.oneCell' = true := by
  intro u hu
  simp only [clI, List.mem_map] at hu
  obtain ⟨x, -, rfl⟩ := hu
  simp [Value.oneCell']
/-- The ring: v its slice, of N places, the first thing at f. -/
def RingI (B : Nat) (w : World) (v : Value) (N f : Nat) (l : List Int) : Prop := (v = .slice none 0 0 ∧ N = 0 ∧ f = 0 ∧ l = []) ∨
  ∃ g cur, v = .slice (some ⟨g, 0, none⟩) N N ∧ B ≤ g ∧ w.heap[g]? = some (.cells cur 3 (0, 0)) ∧ N ≤ cur.size ∧ f < N ∧ l.length ≤ N ∧ ∀ i x, l[i]? = some x → cur[(f + i) % N]? = some (.int .i64 x)
/-- Block b is a queue: v its ring; l its things. -/
structure FQI (B : Nat) (w : World) (b : Nat) (v : Value) (N f : Nat) (l : List Int) : Prop where
  hB : B ≤ b
  is : w.heap[b]? = some (.cells #[v, .int .i64 (f : Int), .int .i64 (l.length : Int)] 50 (0, 0))
  ring : RingI B w v N f l
  lim : N ≤ 1000000
section
variable {B : Nat} {w w' : World} {b N f : Nat} {v : Value} {l : List Int}
theorem FQI.lt (h : FQI B w b v N f l) : b < w.heap.size := (Array.getElem?_eq_some_iff.1 h.is).1
theorem FQI.cell (h : FQI B w b v N f l) (i : Nat) : w.cell? ⟨b, i, none⟩ = (#[v, .int .i64 (f : Int), .int .i64 (l.length : Int)] : Array Value)[i]? := cell_of_row w b i _ _ _ h.is
theorem FQI.c0 (h : FQI B w b v N f l) : w.cell? ⟨b, 0, none⟩ = some v := h.cell 0
theorem FQI.c1 (h : FQI B w b v N f l) : w.cell? ⟨b, 1, none⟩ = some (.int .i64 (f : Int)) := h.cell 1
theorem FQI.c2 (h : FQI B w b v N f l) : w.cell? ⟨b, 2, none⟩ = some (.int .i64 (l.length : Int)) := h.cell 2
theorem FQI.fz (h : FQI B w b v N f l) (i : Nat) : w.frozen? ⟨b, i, none⟩ = false := by simp [World.frozen?, h.is]
theorem FQI.blk_ge (h : FQI B w b v N f l) : ∀ k ∈ blk b v, B ≤ k ∧ k < w.heap.size := by
  intro k hk
  simp only [blk, List.mem_cons] at hk
  rcases hk with rfl | hk
  · exact ⟨h.hB, h.lt⟩
  · rcases h.ring with ⟨rfl, _⟩ | ⟨g, cur, rfl, hg, hh, _⟩
    · simp [Value.ownBlock] at hk
    · simp [Value.ownBlock] at hk
      subst hk
      exact ⟨hg, (Array.getElem?_eq_some_iff.1 hh).1⟩
theorem RingI.kept {X : List Nat} (h : RingI B w v N f l) (hk : Kept X w w') (hx : ∀ k ∈ v.ownBlock.toList, k ∉ X) : RingI B w' v N f l := by
  rcases h with h | ⟨g, cur, rfl, hg, hh, r⟩
  · exact .inl h
  · exact .inr ⟨g, cur, rfl, hg, (hk.block g (Array.getElem?_eq_some_iff.1 hh).1 (hx g (by simp [Value.ownBlock]))).trans hh, r⟩
theorem FQI.kept {X : List Nat} (h : FQI B w b v N f l) (hk : Kept X w w') (hx : ∀ k ∈ blk b v, k ∉ X) : FQI B w' b v N f l :=
  ⟨h.hB, (hk.block b h.lt (hx b (by simp [blk]))).trans h.is, h.ring.kept hk (fun k hm => hx k (by simp only [blk, List.mem_cons]; exact .inr hm)), h.lim⟩
theorem FQI.later (h : FQI B w b v N f l) (hb : Below w.heap.size w w') : FQI B w' b v N f l := h.kept (Kept.of [] hb) (by simp)
theorem FQI.len_le (h : FQI B w b v N f l) : l.length ≤ N := by
  rcases h.ring with ⟨_, rfl, _, rfl⟩ | ⟨g, cur, _, _, _, _, _, h, _⟩
  · exact Nat.le_refl _
  · exact h
theorem FQI.open (h : FQI B w b v N f l) (hN : 0 < N) : ∃ g cur, v = .slice (some ⟨g, 0, none⟩) N N ∧ B ≤ g ∧ w.heap[g]? = some (.cells cur 3 (0, 0)) ∧ N ≤ cur.size ∧ f < N ∧ (∀ i x, l[i]? = some x → cur[(f + i) % N]? = some (.int .i64 x)) ∧ b ≠ g := by
  rcases h.ring with ⟨_, rfl, _⟩ | ⟨g, cur, rfl, h1, h2, h3, h4, h5, h6⟩
  · omega
  · refine ⟨g, cur, rfl, h1, h2, h3, h4, h6, ?_⟩
    rintro rfl
    have := h.is
    rw [h2] at this
    simp only [Option.some.injEq, Obj.cells.injEq] at this
    exact absurd this.2.1 (by decide)
theorem FQI.first (h : FQI B w b v N f l) (hN : 0 < N) : f < N := by
  obtain ⟨_, _, _, _, _, _, h, _⟩ := h.open hN
  exact h
theorem FQI.ringv (h : FQI B w b v N f l) : ∃ A, v = .slice A N N := by
  rcases h.ring with ⟨rfl, rfl, _⟩ | ⟨g, cur, rfl, _⟩
  · exact ⟨_, rfl⟩
  · exact ⟨_, rfl⟩
end
set_option maxRecDepth 100000 in
set_option maxHeartbeats 2000000 in
theorem len_anyI {B b N f : Nat} {v : Value} {l : List Int} (w : World) (h : FQI B w b v N f l) : Calls Try.prog 20 #[.pointer (some ⟨b, 0, none⟩)] w fun e w' => e = .returned (.int .i64 (l.length : Int)) ∧ w = w' := by
  have c2 := h.c2
  generalize l.length = n at *
  clear h
  go_enter Try.func20, Try.ntmps20
  go_wp2
  go_ret
  exact ⟨rfl, rfl⟩
set_option maxRecDepth 100000 in
set_option maxHeartbeats 2000000 in
theorem room_anyI {B b N f : Nat} {v : Value} {l : List Int} (w : World) (h : FQI B w b v N f l) : Calls Try.prog 21 #[.pointer (some ⟨b, 0, none⟩)] w fun e w' => e = .returned (.int .i64 (N : Int)) ∧ w = w' := by
  obtain ⟨A, rfl⟩ := h.ringv
  have c0 := h.c0
  clear h
  go_enter Try.func21, Try.ntmps21
  go_wp2
  go_ret
  exact ⟨rfl, rfl⟩
set_option maxRecDepth 100000 in
set_option maxHeartbeats 4000000 in
theorem place_cI {b N f : Nat} {A : Option Addr} (w : World) (c0 : w.cell? ⟨b, 0, none⟩ = some (.slice A N N)) (c1 : w.cell? ⟨b, 1, none⟩ = some (.int .i64 (f : Int))) (hf : f < N) (hl : N ≤ 1000000) (i : Nat) (hi : i ≤ 1000000) : Calls Try.prog 26 #[.pointer (some ⟨b, 0, none⟩), .int .i64 (i : Int)] w (Quiet (.int .i64 (((f + i) % N : Nat) : Int)) w) := by
  obtain ⟨s, hs⟩ : ∃ s, f + i = s := ⟨_, rfl⟩
  have hm := tmod_nat s N
  have he : (f : Int) + (i : Int) = (s : Int) := by omega
  have hs2 : s ≤ 2000000 := by omega
  rw [hs]
  have hz : (N : Int) ≠ 0 := by omega
  generalize s % N = r at *
  clear hs
  go_enter Try.func26, Try.ntmps26
  go_upto_region 1 with (fail)
  go_quiet (fail)
  go_wp2
  go_ret
  exact ⟨rfl, _, rfl⟩
theorem place_anyI {B b N f : Nat} {v : Value} {l : List Int} (w : World) (h : FQI B w b v N f l) (i : Nat) (hN : 0 < N) (hi : i ≤ 1000000) : Calls Try.prog 26 #[.pointer (some ⟨b, 0, none⟩), .int .i64 (i : Int)] w (Quiet (.int .i64 (((f + i) % N : Nat) : Int)) w) := by
  obtain ⟨g, cur, rfl, -, -, -, hf, -⟩ := h.open hN
  exact place_cI w h.c0 h.c1 hf h.lim i hi
end Go.Proofs.Ytgcchmenadgboaa
