/- A queue's ring is laid anew; New. -/
import Derived.Test.YtgcchmenadgboaaFCI
namespace Go.Proofs.Ytgcchmenadgboaa
open Go.RowKit
set_option linter.unusedVariables false
set_option linter.unusedSimpArgs false
attribute [local go_sem ↓] Go.wp_at_zero Go.wp_at_succ

/-- A row that came in, nil or not. -/
structure RowOI (w : World) (A : Option Addr) (m c : Nat) (xs : List Int) : Prop where
  len : xs.length = m
  nil : A = none → m = 0 ∧ c = 0
  row : ∀ a, A = some a → RowAI w a xs
theorem RowOI.later {w w' : World} {A : Option Addr} {m c : Nat} {xs : List Int} (h : RowOI w A m c xs) (hb : Below w.heap.size w w') : RowOI w' A m c xs := ⟨h.len, h.nil, fun a e => (h.row a e).later hb⟩
theorem RowOI.own {w : World} {B m : Nat} {v : Value} {xs : List Int} (h : w.ownsRow B 3 1 v m (clI xs)) : ∃ A c, v = .slice A m c ∧ RowOI w A m c xs := by
  have hl := h.1
  rw [cl_lenI, Nat.mul_one] at hl
  rcases h.2 with ⟨rfl, rfl⟩ | ⟨g, cap, cur, rfl, _, hg, _, _, _, ht⟩
  · exact ⟨none, 0, rfl, ⟨hl, fun _ => ⟨rfl, rfl⟩, fun a e => by cases e⟩⟩
  · refine ⟨_, cap, rfl, ⟨hl, fun e => (by cases e), fun a e => ?_⟩⟩
    cases e
    intro i x hx
    have := h.cells (g := g) rfl i _ (cl_getI hx)
    exact this
/-- Block b is to be a queue. -/
def IsQI (w : World) (b : Nat) : Prop := ∃ v0 f0 c0, w.heap[b]? = some (.cells #[v0, .int .i64 f0, .int .i64 c0] 50 (0, 0))
def LayPI (B b N : Nat) (xs : List Int) (w : World) (e : Ending) (w' : World) : Prop := e = .returned (.tuple #[]) ∧ ∃ v, FQI B w' b v N 0 xs ∧ Kept [b] w w' ∧ ∀ k ∈ blk b v, k = b ∨ w.heap.size ≤ k
theorem three_setI {w : World} {b : Nat} {v0 v1 v2 u0 u1 u2 : Value} {T : TypeId} (h : w.heap[b]? = some (.cells #[v0, v1, v2] T (0, 0))) :
    (((w.setCell ⟨b, 0, none⟩ u0).setCell ⟨b, 1, none⟩ u1).setCell ⟨b, 2, none⟩ u2).heap[b]? = some (.cells #[u0, u1, u2] T (0, 0)) :=
  heap_setCell_same _ b 2 _ _ _ (heap_setCell_same _ b 1 _ _ _ (heap_setCell_same _ b 0 _ _ _ h))
theorem lay_midI {B b N m cap : Nat} {xs : List Int} {w w1 w2 : World} {v0 : Value} {f0 z0 : Int} (hi0 : w.heap[b]? = some (.cells #[v0, .int .i64 f0, .int .i64 z0] 50 (0, 0))) (hB1 : Below w.heap.size w w1) (hgrow : w1.grownBy w2 (some w.heap.size))
    (hown : w2.ownsRow w.heap.size 3 1 (.slice (some ⟨w.heap.size, 0, none⟩) (0 + m) cap) (0 + m) ([] ++ clI xs)) (hcap : N ≤ cap) (hm : m ≤ N) (hN : 0 < N) (hN2 : N ≤ 1000000) (hB : B ≤ b) (hx : xs.length = m) :
    (w2.cell? ⟨b, 0, none⟩ = some v0 ∧ w2.cell? ⟨b, 1, none⟩ = some (.int .i64 f0) ∧ w2.cell? ⟨b, 2, none⟩ = some (.int .i64 z0) ∧ ∀ i, w2.frozen? ⟨b, i, none⟩ = false) ∧
    LayPI B b N xs w (.returned (.tuple #[])) (((w2.setCell ⟨b, 0, none⟩ (.slice (some ⟨w.heap.size, 0, none⟩) N N)).setCell ⟨b, 1, none⟩ (.int .i64 0)).setCell ⟨b, 2, none⟩ (.int .i64 (m : Int))) := by
  have hbl : b < w.heap.size := (Array.getElem?_eq_some_iff.1 hi0).1
  have k2 : Kept [] w w2 := ((Kept.of [w.heap.size] hB1).trans (kept_grown hgrow (by simp))).less (fun k hk => .inr (by simp at hk; omega))
  have hb2 := (k2.block b hbl (by simp)).trans hi0
  refine ⟨⟨cell_of_row w2 b 0 _ _ _ hb2, cell_of_row w2 b 1 _ _ _ hb2, cell_of_row w2 b 2 _ _ _ hb2, fun i => by simp [World.frozen?, hb2]⟩, rfl, .slice (some ⟨w.heap.size, 0, none⟩) N N, ⟨hB, ?_, ?_, hN2⟩, ?_, ?_⟩
  · rw [hx]; exact three_setI hb2
  · subst hx
    rcases hown.2 with ⟨h, _⟩ | ⟨g, cp, cur, h, hbg, hg, hnc, hcm, hcs, ht⟩
    · simp at h
    · simp only [Value.slice.injEq, Option.some.injEq, Addr.mk.injEq, and_true, true_and] at h
      obtain ⟨rfl, rfl⟩ := h
      have hne : w.heap.size ≠ b := by omega
      refine .inr ⟨w.heap.size, cur, rfl, by omega, ?_, by omega, hN, hm, ?_⟩
      · rw [Below.heap_setCell _ _ _ _ (by simpa using hne), Below.heap_setCell _ _ _ _ (by simpa using hne), Below.heap_setCell _ _ _ _ (by simpa using hne)]
        exact hg
      · intro i x hi
        have hil := (List.getElem?_eq_some_iff.1 hi).1
        have h1 := cl_getI hi
        rw [Nat.zero_add, Nat.mod_eq_of_lt (by omega)]
        rw [Nat.zero_add, List.nil_append] at ht
        rw [← ht, List.getElem?_take, if_pos (by omega), Array.getElem?_toList] at h1
        exact h1
  · exact (((k2.mono (by simp)).set b 0 _ (by simp)).set b 1 _ (by simp)).set b 2 _ (by simp)
  · intro k hk
    simp [blk, Value.ownBlock] at hk
    omega
set_option maxRecDepth 100000 in
set_option maxHeartbeats 8000000 in
theorem lay_anyI {B b N m c : Nat} {A : Option Addr} {xs : List Int} (w : World) (hq : IsQI w b) (hB : B ≤ b) (hr : RowOI w A m c xs) (hm : m ≤ N) (hN : N ≤ 1000000) :
    Calls Try.prog 24 #[.pointer (some ⟨b, 0, none⟩), .slice A m c, .int .i64 (N : Int)] w (LayPI B b N xs w) := by
  obtain ⟨v0, f0, z0, hi0⟩ := hq
  have hbl : b < w.heap.size := (Array.getElem?_eq_some_iff.1 hi0).1
  rcases Nat.eq_zero_or_pos N with rfl | hN0
  · obtain rfl : m = 0 := by omega
    obtain rfl : xs = [] := List.eq_nil_of_length_eq_zero hr.len
    have c0 := cell_of_row w b 0 _ _ _ hi0
    have c1 := cell_of_row w b 1 _ _ _ hi0
    have c2 := cell_of_row w b 2 _ _ _ hi0
    have fz : ∀ i, w.frozen? ⟨b, i, none⟩ = false := fun i => by simp [World.frozen?, hi0]
    simp at c0 c1 c2
    have f0' := fz 0
    have f1' := fz 1
    have f2' := fz 2
    have e := three_setI (u0 := .slice none 0 0) (u1 := .int .i64 0) (u2 := .int .i64 0) hi0
    have k := (((Kept.refl [b] w).set b 0 (.slice none 0 0) (by simp)).set b 1 (.int .i64 0) (by simp)).set b 2 (.int .i64 0) (by simp)
    have G := Lib.hid (grow_zeroI w)
    have E := Lib.hid e
    have K := Lib.hid k
    clear hr fz e k hi0
    go_enter Try.func24, Try.ntmps24
    go_wp2_with (first
      | (go_at_call 34; (with_reducible refine G.out.mono ?_); rintro e w1 ⟨rfl, rfl⟩)
      | (at_builtin; refine wpList_app0I _ rfl _ _ rfl A c rfl rfl ?_))
    refine bodyPost_ret (results_none rfl _ _ _) rfl ?_
    refine ⟨rfl, .slice none 0 0, ⟨hB, E.out, .inl ⟨rfl, rfl, rfl, rfl⟩, by omega⟩, K.out, ?_⟩
    intro k hk
    simp [blk, Value.ownBlock] at hk
    exact .inl hk
  · obtain ⟨i0, hi, hz0, hz1, hz2⟩ := info_parts infoTI
    have G := Lib.hid (grow_someI w N hN0 (by omega))
    have HR := Lib.hid hr
    have HI := Lib.hid hi0
    have hmN : m ≤ N := hm
    have hN1 : (N : Int) ≤ 1000000 := by omega
    clear hr hi0
    go_enter Try.func24, Try.ntmps24
    go_wp2_with (first
      | (go_at_call 34; (with_reducible refine G.out.mono ?_); rintro e w1 ⟨cap, rfl, hcap, hcap2, hown, hB1⟩; have R1 := Lib.hid (HR.out.later hB1))
      | (at_builtin; refine wpList_append_fits_any _ rfl _ _ 22 rfl w.heap.size 3 i0 1 Try.underlying22 hi hz1 w.heap.size 0 cap [] rfl hown A m c (clI xs) rfl (by rw [cl_lenI, R1.out.len, Nat.mul_one]) R1.out.nil (fun ad e => (R1.out.row ad e).cells) (cl_oneI xs) (by omega) ?_; intro w2 hown' hgrow;
          obtain ⟨⟨c0, c1, c2, fz⟩, hP⟩ := lay_midI HI.out hB1 hgrow hown' hcap hmN hN0 hN hB R1.out.len;
          have f0' := fz 0; have f1' := fz 1; have f2' := fz 2; have HP := Lib.hid hP; clear hP fz hown' hgrow))
    refine bodyPost_ret (results_none rfl _ _ _) rfl ?_
    exact HP.out
end Go.Proofs.Ytgcchmenadgboaa
