/- The chapter's example holds. -/
import Derived.Test.YthmngibmpkgjkaaDoorRows2
import Derived.Deep.WholeRow
namespace Go.Proofs.YthmngibmpkgjkaaDoor
open Go.RowKit
set_option linter.unusedVariables false

def exF : Nat → Bool := insL noneF [3, 70, 3, -1]
set_option maxRecDepth 100000 in
theorem ex_len : cnt exF 16 = 2 := by decide +kernel
set_option maxRecDepth 100000 in
theorem ex_first : hdN (nums exF) = 3 ∧ hdB (nums exF) = true := by decide +kernel
set_option maxRecDepth 100000 in
theorem ex_next : hdN (nums (aboveF exF 3)) = 70 ∧ hdB (nums (aboveF exF 3)) = true := by decide +kernel

theorem four_cells (w : World) : Nums (w.alloc (.cells #[.int .i64 3, .int .i64 70, .int .i64 3, .int .i64 (-1)] 3)) (.slice (some ⟨w.heap.size, 0, none⟩) 4 4) [3, 70, 3, -1] :=
  .inr ⟨⟨w.heap.size, 0, none⟩, 4, rfl, by simp, by simp [maxLen], fun i hi => by
    simp at hi
    have h : i = 0 ∨ i = 1 ∨ i = 2 ∨ i = 3 := by omega
    rcases h with rfl | rfl | rfl | rfl <;> simp [Addr.add]⟩
theorem of_ex (w : World) : Calls Tryd.prog 10 #[.slice (some ⟨w.heap.size, 0, none⟩) 4 4] (w.alloc (.cells #[.int .i64 3, .int .i64 70, .int .i64 3, .int .i64 (-1)] 3)) fun e w' => e = .returned (setV exF) ∧ Below (w.heap.size + 1) (w.alloc (.cells #[.int .i64 3, .int .i64 70, .int .i64 3, .int .i64 (-1)] 3)) w' := by
  have h := of_nums _ _ _ (four_cells w) (by simp [InI])
  rwa [World.size_alloc] at h

theorem alloc_stored (w : World) (g : Nat → Bool) : (w.alloc (.cells #[.int .u64 0, .int .u64 0, .int .u64 0, .int .u64 0, .int .u64 0, .int .u64 0, .int .u64 0, .int .u64 0, .int .u64 0, .int .u64 0, .int .u64 0, .int .u64 0, .int .u64 0, .int .u64 0, .int .u64 0, .int .u64 0] 26)).setCells w.heap.size 0 (cellsL g) = w.alloc (.cells (cellsL g).toArray 26) := by
  rw [(zero_box w).stored g, World.setRow_alloc_new]
theorem held_new {w w1 : World} (hk : KeptT w w1) (g : Nat → Bool) : ∃ W2, w1.alloc (.cells (cellsL g).toArray 26) = W2 ∧ Box W2 w1.heap.size g ∧ KeptT w W2 :=
  ⟨_, rfl, Box.new w1 g, hk.step ((Below.refl _ _).alloc (Nat.le_refl _) _)⟩
theorem KeptT.refl {w : World} (h : Tab w) : KeptT w w := ⟨Below.refl _ _, h⟩
theorem Box.later {w w' : World} {b : Nat} {f : Nat → Bool} (h : Box w b f) (hb : Below w.heap.size w w') : Box w' b f := h.below hb h.lt

set_option maxRecDepth 100000 in
set_option maxHeartbeats 2000000 in
theorem awake_any (w : World) (hT : Tab w) : Calls Tryd.prog 9 #[] w fun e w' => e = .returned (.bool true) ∧ Below w.heap.size w w' := by
  have L := Lib.hid (fun w => len_any exF w)
  have F := Lib.hid (fun w hT => first_any exF w hT)
  have N := Lib.hid (fun w hT => next_any exF 3 w hT (by omega) (by omega))
  rw [ex_len] at L
  rw [ex_first.1, ex_first.2] at F
  rw [ex_next.1, ex_next.2] at N
  go_enter Tryd.func9, Tryd.ntmps9
  go_wp2_with (first
    | (go_at_call 10; refine (of_ex _).mono ?_; rintro e w1 ⟨rfl, h1⟩; have K1 : KeptT w w1 := (KeptT.refl hT).step (((Below.refl w.heap.size w).alloc (Nat.le_refl _) _).trans (h1.mono (by omega))); clear h1)
    | ((with_reducible show wpList _ _ _ (⟨none, Op.store 26 _ _, _, _, _, _⟩ :: _) _ _); refine wpList_store_mid rfl 26 _ _ rfl _ _ (cellsL exF).toArray rfl rfl ((zero_box _).there _) (info26' _) (cellsL_all _) ?_; rw [alloc_stored]; obtain ⟨W2, hW2, B2, K2⟩ := held_new K1 exF; rw [hW2]; clear hW2)
    | ((with_reducible show wpList _ _ _ (⟨some 9, _, _, _, _, _⟩ :: _) _ _); refine wpList_load_mid rfl 26 _ rfl _ _ rfl _ _ B2.range Tryd.underlying26 rfl (info26 _) ?_)
    | (go_at_call 24; refine (F.out _ K2.2).mono ?_; rintro e w3 ⟨rfl, h3⟩; have B3 := B2.later h3; have K3 := K2.step h3; clear h3)
    | ((with_reducible show wpList _ _ _ (⟨some 14, _, _, _, _, _⟩ :: _) _ _); refine wpList_load_mid rfl 26 _ rfl _ _ rfl _ _ B3.range Tryd.underlying26 rfl (info26 _) ?_)
    | (go_at_call 25; refine (N.out _ K3.2).mono ?_; rintro e w4 ⟨rfl, h4⟩; have B4 := B3.later h4; have K4 := K3.step h4; clear h4)
    | ((with_reducible show wpList _ _ _ (⟨some 18, _, _, _, _, _⟩ :: _) _ _); refine wpList_load_mid rfl 26 _ rfl _ _ rfl _ _ B4.range Tryd.underlying26 rfl (info26 _) ?_)
    | (go_at_call 21; refine (L.out _).mono ?_; rintro e w5 ⟨rfl, h5⟩; have K5 := K4.step h5; clear h5))
  go_ret
  exact ⟨rfl, K5.1⟩
end Go.Proofs.YthmngibmpkgjkaaDoor
