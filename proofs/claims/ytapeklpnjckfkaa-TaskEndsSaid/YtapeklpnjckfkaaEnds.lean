/- TaskEnds: the walk. -/
import Derived.Test.YtapeklpnjckfkaaRow
namespace Go.Proofs.Ytapeklpnjckfkaa
open Go.RowKit
set_option linter.unusedVariables false
set_option linter.unusedSimpArgs false

/-! ### What Check says at the ends -/
theorem wordB_ns (k : Nat) : wordB (bs (List.replicate (k + 1) 110)) = true := by
  rw [wordB_cons (c := 110) (r := List.replicate k 110) (by simp [bs, List.replicate_succ])]
  have hk : kind 110 = 1 := by decide +kernel
  have hg : goes 1 110 = true := by decide +kernel
  have hr : ∀ k, runLen 1 (List.replicate k 110) = k := by
    intro k
    induction k with
    | zero => rfl
    | succ k ih => rw [List.replicate_succ, runLen, if_pos hg, ih]
  simp [oneT, hk, tkOf, hr, bs_size]
/-- n, so many times. -/
def nm (k : Nat) : ByteArray := bs (List.replicate k 110)
theorem nm_size (k : Nat) : (nm k).size = k := by rw [nm, bs_size, List.length_replicate]
theorem nm_word (k : Nat) (h : 0 < k) : wordB (nm k) = true := by
  obtain ⟨m, rfl⟩ : ∃ m, k = m + 1 := ⟨k - 1, by omega⟩
  exact wordB_ns m
theorem nm_snoc (k : Nat) : nm k ++ { data := #[110] } = nm (k + 1) := by
  apply ByteArray.ext
  apply Array.toList_inj.1
  simp [nm, bs, List.replicate_succ', ByteArray.data_append]
theorem isOK {x : Ts} {b : Bool} (h : (namedB x && rangedB x && !overB x) = b) : (checkE x == 0) = b := by
  subst h
  unfold checkE
  cases namedB x && rangedB x <;> cases overB x <;> rfl
theorem a_named (c t d j q p : Int) : namedB ⟨{ data := #[97] }, c, t, d, j, q, p⟩ = true := by simp [namedB, word_a, ByteArray.size]
theorem ends_long (a : Int) (h0 : 0 ≤ a) (h3 : a < 4) : (checkE ⟨{ data := #[97] }, 1, 2147483647 + a - 2, 1, 0, 1, 1⟩ == 0) = decide (a ≤ 2) := by
  refine isOK ?_
  rw [a_named, Bool.eq_iff_iff]
  simp [rangedB, inB, overB]
  omega
theorem ends_urgent (d : Int) (h0 : 0 ≤ d) (h3 : d < 4) : (checkE ⟨{ data := #[97] }, 1, 1, 1, 0, 1, d⟩ == 0) = decide (d > 0) := by
  refine isOK ?_
  rw [a_named, Bool.eq_iff_iff]
  simp [rangedB, inB, overB]
  omega
theorem ends_far (b : Int) (h0 : 0 ≤ b) (h3 : b < 4) : (checkE ⟨{ data := #[97] }, 1, 1, 1, 0, 1, 1048575 + b⟩ == 0) = decide (b ≤ 1) := by
  refine isOK ?_
  rw [a_named, Bool.eq_iff_iff]
  simp [rangedB, inB, overB]
  omega
theorem ends_named (m : Nat) (h : 0 < m) : (checkE ⟨nm m, 1, 1, 1, 0, 1, 1⟩ == 0) = decide ((m : Int) ≤ 32) := by
  refine isOK ?_
  rw [Bool.eq_iff_iff]
  simp [namedB, nm_word m h, nm_size, rangedB, inB, overB]
  omega
theorem ends_late (a b : Int) (h0 : 0 ≤ a) (h3 : a < 4) (g0 : 0 ≤ b) (g3 : b < 4) : (checkE ⟨{ data := #[97] }, 3, 9, 9, 4 + a, 1 + b, 1⟩ == 0) = (decide (a ≤ 2) && decide (b ≤ 2)) := by
  refine isOK ?_
  rw [a_named, Bool.eq_iff_iff]
  simp [rangedB, inB, overB]
  omega

theorem arr4 {w w1 : World} {t : TypeId} {v0 v1 v2 v3 : Value} (h : Below (w.alloc (.cells #[v0, v1, v2, v3] t)).heap.size (w.alloc (.cells #[v0, v1, v2, v3] t)) w1) :
    (w1.cell? ⟨w.heap.size, 0, none⟩ = some v0 ∧ w1.cell? ⟨w.heap.size, 1, none⟩ = some v1 ∧ w1.cell? ⟨w.heap.size, 2, none⟩ = some v2 ∧ w1.cell? ⟨w.heap.size, 3, none⟩ = some v3) ∧ Below w.heap.size w w1 ∧ w.heap.size < w1.heap.size := by
  have hs := h.size
  simp only [World.size_alloc] at hs
  have hc : ∀ i, w1.cell? ⟨w.heap.size, i, none⟩ = (#[v0, v1, v2, v3] : Array Value)[i]? := fun i => by
    rw [h.cell (p := ⟨w.heap.size, i, none⟩) (by simp), cell_of_row _ _ i _ _ _ (heap_alloc_new w _)]
  exact ⟨⟨hc 0, hc 1, hc 2, hc 3⟩, ((Below.refl w.heap.size w).alloc (Nat.le_refl _) _).trans (h.mono (by simp)), by omega⟩

abbrev tsO (x : Ts) : Obj := .cells #[.string x.n, .int .i64 x.c, .int .i64 x.t, .int .i64 x.d, .int .i64 x.j, .int .i64 x.q, .int .i64 x.p] 33
theorem five_new (w : World) (x1 x2 x3 x4 x5 : Ts) : ∃ W, (((((w.alloc (tsO x1)).alloc (tsO x2)).alloc (tsO x3)).alloc (tsO x4)).alloc (tsO x5)) = W ∧
    TAt W w.heap.size 0 x1 ∧ TAt W (w.heap.size + 1) 0 x2 ∧ TAt W (w.heap.size + 1 + 1) 0 x3 ∧ TAt W (w.heap.size + 1 + 1 + 1) 0 x4 ∧ TAt W (w.heap.size + 1 + 1 + 1 + 1) 0 x5 ∧ Lt w W := by
  have n1 := TAt.new w x1
  have n2 := TAt.new (w.alloc (tsO x1)) x2
  have n3 := TAt.new ((w.alloc (tsO x1)).alloc (tsO x2)) x3
  have n4 := TAt.new (((w.alloc (tsO x1)).alloc (tsO x2)).alloc (tsO x3)) x4
  have n5 := TAt.new ((((w.alloc (tsO x1)).alloc (tsO x2)).alloc (tsO x3)).alloc (tsO x4)) x5
  simp only [World.size_alloc] at n2 n3 n4 n5
  exact ⟨_, rfl, (((n1.alloc _).alloc _).alloc _).alloc _, ((n2.alloc _).alloc _).alloc _, (n3.alloc _).alloc _, n4.alloc _, n5, (((((Below.refl w.heap.size w).alloc (Nat.le_refl _) _).alloc (by simp) _).alloc (by simp; omega) _).alloc (by simp; omega) _).alloc (by simp; omega) _⟩

def sizeS (v : Value) : Nat := match v with
  | .string s => s.size
  | _ => 0

set_option maxRecDepth 100000 in
set_option maxHeartbeats 4000000 in
theorem ends_walk (a0 a1 a2 a3 : Int) (w : World) (h0 : in64 a0) (h1 : in64 a1) (h2 : in64 a2) (h3 : in64 a3) :
    Calls Try.prog 4 #[.agg #[.int .i64 a0, .int .i64 a1, .int .i64 a2, .int .i64 a3]] w fun e w' => e = .returned (.bool true) ∧ Below w.heap.size w w' := by
  have r0 := fun w => rest_any a0 4 w h0 (by omega) (by omega)
  have r1 := fun w => rest_any a1 4 w h1 (by omega) (by omega)
  have r2 := fun w => rest_any a2 5 w h2 (by omega) (by omega)
  have r3 := fun w => rest_any a3 4 w h3 (by omega) (by omega)
  obtain ⟨a, ha⟩ : ∃ a, restI a0 4 = a := ⟨_, rfl⟩
  obtain ⟨b, hb⟩ : ∃ a, restI a1 4 = a := ⟨_, rfl⟩
  obtain ⟨c, hc⟩ : ∃ a, restI a2 5 = a := ⟨_, rfl⟩
  obtain ⟨d, hd⟩ : ∃ a, restI a3 4 = a := ⟨_, rfl⟩
  obtain ⟨aL, aH⟩ := restI_bd a0 4 (by omega) (by omega)
  obtain ⟨bL, bH⟩ := restI_bd a1 4 (by omega) (by omega)
  obtain ⟨cL, cH⟩ := restI_bd a2 5 (by omega) (by omega)
  obtain ⟨dL, dH⟩ := restI_bd a3 4 (by omega) (by omega)
  rw [ha] at r0 aL aH
  rw [hb] at r1 bL bH
  rw [hc] at r2 cL cH
  rw [hd] at r3 dL dH
  clear ha hb hc hd h0 h1 h2 h3
  obtain ⟨m, hm⟩ : ∃ m : Nat, 30 + c = (m : Int) := ⟨(30 + c).toNat, by omega⟩
  have m1 : 30 ≤ m := by omega
  have m2 : m ≤ 34 := by omega
  have R0 := Lib.hid r0
  have R1 := Lib.hid r1
  have R2 := Lib.hid r2
  have R3 := Lib.hid r3
  have HM := Lib.hid hm
  clear r0 r1 r2 r3 hm
  go_enter Try.func4, Try.ntmps4
  go_upto_region 2 with (go_at_call 9; (with_reducible refine (awake_any _).mono ?_); rintro e w1 ⟨rfl, h1⟩)
  obtain ⟨⟨k0, k1, k2, k3⟩, hB1, hlt1⟩ := arr4 h1
  clear h1
  go_wp2_with (first
    | (go_at_call 13; (with_reducible refine (R0.out _).mono ?_); rintro e w' ⟨rfl, rfl⟩)
    | (go_at_call 13; (with_reducible refine (R1.out _).mono ?_); rintro e w' ⟨rfl, rfl⟩))
  go_loopw [6] (fun s wr => ∃ k : Nat, k ≤ m ∧ s = .string (nm k) ∧ Lt w1 wr) (fun s _ => m - sizeS s)
  case atStart => exact ⟨0, Nat.zero_le _, rfl, Below.refl _ _⟩
  case round =>
    obtain ⟨k, hk, rfl, hL⟩ := hrel
    have hsz := nm_size k
    have e2 := (Below.cell hL (p := ⟨w.heap.size, 2, none⟩) hlt1).trans k2
    have e3 := (Below.cell hL (p := ⟨w.heap.size, 3, none⟩) hlt1).trans k3
    clear k0 k1 k2 k3
    have hltr : w.heap.size < wr.heap.size := Nat.lt_of_lt_of_le hlt1 (Below.size hL)
    have hs2 : (30 : Int) + c = (m : Int) := HM.out
    by_cases hlt : k < m
    · have t1 : decide ((k : Int) < (m : Int)) = true := decide_eq_true (by omega)
      have HSN := Lib.hid (nm_snoc k)
      go_wp2_with (go_at_call 13; (with_reducible refine (R2.out _).mono ?_); rintro e w' ⟨rfl, rfl⟩)
      go_roundw
      case rel => exact ⟨k + 1, by omega, by rw [HSN.out], hL⟩
      case measure => rw [HSN.out]; simp [sizeS, nm_size]; omega
    · obtain rfl : k = m := by omega
      have t1 : decide ((k : Int) < (k : Int)) = false := decide_eq_false (by omega)
      go_upto_region 13 with (first
        | (go_at_call 13; (with_reducible refine (R2.out _).mono ?_); rintro e w' ⟨rfl, rfl⟩)
        | (go_at_call 13; (with_reducible refine (R3.out _).mono ?_); rintro e w' ⟨rfl, rfl⟩))
      obtain ⟨W5, hW5, T1, T2, T3, T4, T5, B5⟩ := five_new wr ⟨{ data := #[97] }, 1, 2147483647 + a - 2, 1, 0, 1, 1⟩ ⟨{ data := #[97] }, 1, 1, 1, 0, 1, d⟩ ⟨{ data := #[97] }, 1, 1, 1, 0, 1, 1048575 + b⟩ ⟨nm k, 1, 1, 1, 0, 1, 1⟩ ⟨{ data := #[97] }, 3, 9, 9, 4 + a, 1 + b, 1⟩
      dsimp only [tsO] at hW5
      rw [hW5]
      have q3 := (Below.cell B5 (p := ⟨w.heap.size, 3, none⟩) hltr).trans e3
      have hltw : w.heap.size < W5.heap.size := Nat.lt_of_lt_of_le hltr (Below.size B5)
      have HB := Lib.hid (hB1.trans ((Below.trans hL (Below.mono B5 (Below.size hL))).mono hB1.size))
      clear hW5 B5 hL hB1 hlt1 hltr e2 e3 hs2 HM t1 hlt
      have f1 := ends_long a aL aH
      have f2 := ends_urgent d dL dH
      have f3 := ends_far b bL bH
      have f4 := ends_named k (by omega)
      have f5 := ends_late a b aL aH bL bH
      have K1 := Lib.hid (fun W => check_any ⟨{ data := #[97] }, 1, 2147483647 + a - 2, 1, 0, 1, 1⟩ W)
      have K2 := Lib.hid (fun W => check_any ⟨{ data := #[97] }, 1, 1, 1, 0, 1, d⟩ W)
      have K3 := Lib.hid (fun W => check_any ⟨{ data := #[97] }, 1, 1, 1, 0, 1, 1048575 + b⟩ W)
      have K4 := Lib.hid (fun W => check_any ⟨nm k, 1, 1, 1, 0, 1, 1⟩ W)
      have K5 := Lib.hid (fun W => check_any ⟨{ data := #[97] }, 3, 9, 9, 4 + a, 1 + b, 1⟩ W)
      generalize (⟨{ data := #[97] }, 1, 2147483647 + a - 2, 1, 0, 1, 1⟩ : Ts) = x1 at *
      generalize (⟨{ data := #[97] }, 1, 1, 1, 0, 1, d⟩ : Ts) = x2 at *
      generalize (⟨{ data := #[97] }, 1, 1, 1, 0, 1, 1048575 + b⟩ : Ts) = x3 at *
      generalize (⟨nm k, 1, 1, 1, 0, 1, 1⟩ : Ts) = x4 at *
      generalize (⟨{ data := #[97] }, 3, 9, 9, 4 + a, 1 + b, 1⟩ : Ts) = x5 at *
      generalize checkE x1 = c1 at *
      generalize checkE x2 = c2 at *
      generalize checkE x3 = c3 at *
      generalize checkE x4 = c4 at *
      generalize checkE x5 = c5 at *
      have R3 : Hid (∀ W, Calls Try.prog 13 #[.int .i64 a3, .int .i64 4] W fun e w' => e = .returned (.int .i64 d) ∧ Below W.heap.size W w') := Lib.hid (fun W => calls_same (R3.out W))
      generalize g1 : decide (a ≤ 2) = u1 at *
      generalize g2 : decide (d > 0) = u2 at *
      generalize g3 : decide (b ≤ 1) = u3 at *
      generalize g4 : decide ((k : Int) ≤ 32) = u4 at *
      generalize g5 : decide (b ≤ 2) = u5 at *
      have g2' : decide (0 < d) = u2 := g2
      have g4' : decide (k ≤ 32) = u4 := by rw [← g4, decide_eq_decide]; omega
      cases u1
      · simp only [Bool.false_and] at f5
        refine region_quiet_l (C := Lt W5) (by kernel_rfl) (by kernel_rfl) (lt_drew _) ?_
        repeat (first
          | (refine wq_skip (by rfl) ?_; (try simp only [Act.put, List.setIfInBounds_toArray, List.set_cons_zero, List.set_cons_succ]))
          | (refine wq_val _ (by rfl) (by intro v hC; have z3 := (Below.cell hC (p := ⟨w.heap.size, 3, none⟩) hltw).trans q3; clear hC; go_simp; (try rfl)) ?_; (try simp only [Act.put, List.setIfInBounds_toArray, List.set_cons_zero, List.set_cons_succ]))
          | (with_reducible fail))
        refine wq_loadT _ (fun w h => T1.later h) (by rfl) (by rfl) (by rfl) ?_
        (try simp only [Act.put, List.setIfInBounds_toArray, List.set_cons_zero, List.set_cons_succ])
        refine wq_call (fun W _ => K1.out W) lt_step (by rfl) (by intro w _; go_simp) ?_
        (try simp only [Act.put, List.setIfInBounds_toArray, List.set_cons_zero, List.set_cons_succ])
        repeat (first
          | (refine wq_skip (by rfl) ?_; (try simp only [Act.put, List.setIfInBounds_toArray, List.set_cons_zero, List.set_cons_succ]))
          | (refine wq_val _ (by rfl) (by intro v hC; have z3 := (Below.cell hC (p := ⟨w.heap.size, 3, none⟩) hltw).trans q3; clear hC; go_simp; (try rfl)) ?_; (try simp only [Act.put, List.setIfInBounds_toArray, List.set_cons_zero, List.set_cons_succ]))
          | (with_reducible fail))
        refine wq_loadT _ (fun w h => T2.later h) (by rfl) (by rfl) (by rfl) ?_
        (try simp only [Act.put, List.setIfInBounds_toArray, List.set_cons_zero, List.set_cons_succ])
        refine wq_call (fun W _ => K2.out W) lt_step (by rfl) (by intro w _; go_simp) ?_
        (try simp only [Act.put, List.setIfInBounds_toArray, List.set_cons_zero, List.set_cons_succ])
        repeat (first
          | (refine wq_skip (by rfl) ?_; (try simp only [Act.put, List.setIfInBounds_toArray, List.set_cons_zero, List.set_cons_succ]))
          | (refine wq_val _ (by rfl) (by intro v hC; have z3 := (Below.cell hC (p := ⟨w.heap.size, 3, none⟩) hltw).trans q3; clear hC; go_simp; (try rfl)) ?_; (try simp only [Act.put, List.setIfInBounds_toArray, List.set_cons_zero, List.set_cons_succ]))
          | (with_reducible fail))
        refine wq_call (fun W _ => R3.out W) lt_step (by rfl) (by intro w _; go_simp) ?_
        (try simp only [Act.put, List.setIfInBounds_toArray, List.set_cons_zero, List.set_cons_succ])
        repeat (first
          | (refine wq_skip (by rfl) ?_; (try simp only [Act.put, List.setIfInBounds_toArray, List.set_cons_zero, List.set_cons_succ]))
          | (refine wq_val _ (by rfl) (by intro v hC; have z3 := (Below.cell hC (p := ⟨w.heap.size, 3, none⟩) hltw).trans q3; clear hC; go_simp; (try rfl)) ?_; (try simp only [Act.put, List.setIfInBounds_toArray, List.set_cons_zero, List.set_cons_succ]))
          | (with_reducible fail))
        refine wq_loadT _ (fun w h => T3.later h) (by rfl) (by rfl) (by rfl) ?_
        (try simp only [Act.put, List.setIfInBounds_toArray, List.set_cons_zero, List.set_cons_succ])
        refine wq_call (fun W _ => K3.out W) lt_step (by rfl) (by intro w _; go_simp) ?_
        (try simp only [Act.put, List.setIfInBounds_toArray, List.set_cons_zero, List.set_cons_succ])
        repeat (first
          | (refine wq_skip (by rfl) ?_; (try simp only [Act.put, List.setIfInBounds_toArray, List.set_cons_zero, List.set_cons_succ]))
          | (refine wq_val _ (by rfl) (by intro v hC; have z3 := (Below.cell hC (p := ⟨w.heap.size, 3, none⟩) hltw).trans q3; clear hC; go_simp; (try rfl)) ?_; (try simp only [Act.put, List.setIfInBounds_toArray, List.set_cons_zero, List.set_cons_succ]))
          | (with_reducible fail))
        refine wq_loadT _ (fun w h => T4.later h) (by rfl) (by rfl) (by rfl) ?_
        (try simp only [Act.put, List.setIfInBounds_toArray, List.set_cons_zero, List.set_cons_succ])
        refine wq_call (fun W _ => K4.out W) lt_step (by rfl) (by intro w _; go_simp) ?_
        (try simp only [Act.put, List.setIfInBounds_toArray, List.set_cons_zero, List.set_cons_succ])
        repeat (first
          | (refine wq_skip (by rfl) ?_; (try simp only [Act.put, List.setIfInBounds_toArray, List.set_cons_zero, List.set_cons_succ]))
          | (refine wq_val _ (by rfl) (by intro v hC; have z3 := (Below.cell hC (p := ⟨w.heap.size, 3, none⟩) hltw).trans q3; clear hC; go_simp; (try rfl)) ?_; (try simp only [Act.put, List.setIfInBounds_toArray, List.set_cons_zero, List.set_cons_succ]))
          | (with_reducible fail))
        refine wq_loadT _ (fun w h => T5.later h) (by rfl) (by rfl) (by rfl) ?_
        (try simp only [Act.put, List.setIfInBounds_toArray, List.set_cons_zero, List.set_cons_succ])
        refine wq_call (fun W _ => K5.out W) lt_step (by rfl) (by intro w _; go_simp) ?_
        (try simp only [Act.put, List.setIfInBounds_toArray, List.set_cons_zero, List.set_cons_succ])
        repeat (first
          | (refine wq_skip (by rfl) ?_; (try simp only [Act.put, List.setIfInBounds_toArray, List.set_cons_zero, List.set_cons_succ]))
          | (refine wq_val _ (by rfl) (by intro v hC; have z3 := (Below.cell hC (p := ⟨w.heap.size, 3, none⟩) hltw).trans q3; clear hC; go_simp; (try rfl)) ?_; (try simp only [Act.put, List.setIfInBounds_toArray, List.set_cons_zero, List.set_cons_succ]))
          | (with_reducible fail))
        refine wpQuiet_nil ?_
        intro W6 hW6
        clear f1 f2 f3 f4 f5 g1 g2 g3 g4 g5 g2' g4'
        go_wp2
        go_ret
        exact ⟨rfl, Below.trans HB.out (Below.mono hW6 (Below.size HB.out))⟩
      · simp only [Bool.true_and] at f5
        refine region_quiet_l (C := Lt W5) (by kernel_rfl) (by kernel_rfl) (lt_drew _) ?_
        repeat (first
          | (refine wq_skip (by rfl) ?_; (try simp only [Act.put, List.setIfInBounds_toArray, List.set_cons_zero, List.set_cons_succ]))
          | (refine wq_val _ (by rfl) (by intro v hC; have z3 := (Below.cell hC (p := ⟨w.heap.size, 3, none⟩) hltw).trans q3; clear hC; go_simp; (try rfl)) ?_; (try simp only [Act.put, List.setIfInBounds_toArray, List.set_cons_zero, List.set_cons_succ]))
          | (with_reducible fail))
        refine wq_loadT _ (fun w h => T1.later h) (by rfl) (by rfl) (by rfl) ?_
        (try simp only [Act.put, List.setIfInBounds_toArray, List.set_cons_zero, List.set_cons_succ])
        refine wq_call (fun W _ => K1.out W) lt_step (by rfl) (by intro w _; go_simp) ?_
        (try simp only [Act.put, List.setIfInBounds_toArray, List.set_cons_zero, List.set_cons_succ])
        repeat (first
          | (refine wq_skip (by rfl) ?_; (try simp only [Act.put, List.setIfInBounds_toArray, List.set_cons_zero, List.set_cons_succ]))
          | (refine wq_val _ (by rfl) (by intro v hC; have z3 := (Below.cell hC (p := ⟨w.heap.size, 3, none⟩) hltw).trans q3; clear hC; go_simp; (try rfl)) ?_; (try simp only [Act.put, List.setIfInBounds_toArray, List.set_cons_zero, List.set_cons_succ]))
          | (with_reducible fail))
        refine wq_loadT _ (fun w h => T2.later h) (by rfl) (by rfl) (by rfl) ?_
        (try simp only [Act.put, List.setIfInBounds_toArray, List.set_cons_zero, List.set_cons_succ])
        refine wq_call (fun W _ => K2.out W) lt_step (by rfl) (by intro w _; go_simp) ?_
        (try simp only [Act.put, List.setIfInBounds_toArray, List.set_cons_zero, List.set_cons_succ])
        repeat (first
          | (refine wq_skip (by rfl) ?_; (try simp only [Act.put, List.setIfInBounds_toArray, List.set_cons_zero, List.set_cons_succ]))
          | (refine wq_val _ (by rfl) (by intro v hC; have z3 := (Below.cell hC (p := ⟨w.heap.size, 3, none⟩) hltw).trans q3; clear hC; go_simp; (try rfl)) ?_; (try simp only [Act.put, List.setIfInBounds_toArray, List.set_cons_zero, List.set_cons_succ]))
          | (with_reducible fail))
        refine wq_call (fun W _ => R3.out W) lt_step (by rfl) (by intro w _; go_simp) ?_
        (try simp only [Act.put, List.setIfInBounds_toArray, List.set_cons_zero, List.set_cons_succ])
        repeat (first
          | (refine wq_skip (by rfl) ?_; (try simp only [Act.put, List.setIfInBounds_toArray, List.set_cons_zero, List.set_cons_succ]))
          | (refine wq_val _ (by rfl) (by intro v hC; have z3 := (Below.cell hC (p := ⟨w.heap.size, 3, none⟩) hltw).trans q3; clear hC; go_simp; (try rfl)) ?_; (try simp only [Act.put, List.setIfInBounds_toArray, List.set_cons_zero, List.set_cons_succ]))
          | (with_reducible fail))
        refine wq_loadT _ (fun w h => T3.later h) (by rfl) (by rfl) (by rfl) ?_
        (try simp only [Act.put, List.setIfInBounds_toArray, List.set_cons_zero, List.set_cons_succ])
        refine wq_call (fun W _ => K3.out W) lt_step (by rfl) (by intro w _; go_simp) ?_
        (try simp only [Act.put, List.setIfInBounds_toArray, List.set_cons_zero, List.set_cons_succ])
        repeat (first
          | (refine wq_skip (by rfl) ?_; (try simp only [Act.put, List.setIfInBounds_toArray, List.set_cons_zero, List.set_cons_succ]))
          | (refine wq_val _ (by rfl) (by intro v hC; have z3 := (Below.cell hC (p := ⟨w.heap.size, 3, none⟩) hltw).trans q3; clear hC; go_simp; (try rfl)) ?_; (try simp only [Act.put, List.setIfInBounds_toArray, List.set_cons_zero, List.set_cons_succ]))
          | (with_reducible fail))
        refine wq_loadT _ (fun w h => T4.later h) (by rfl) (by rfl) (by rfl) ?_
        (try simp only [Act.put, List.setIfInBounds_toArray, List.set_cons_zero, List.set_cons_succ])
        refine wq_call (fun W _ => K4.out W) lt_step (by rfl) (by intro w _; go_simp) ?_
        (try simp only [Act.put, List.setIfInBounds_toArray, List.set_cons_zero, List.set_cons_succ])
        repeat (first
          | (refine wq_skip (by rfl) ?_; (try simp only [Act.put, List.setIfInBounds_toArray, List.set_cons_zero, List.set_cons_succ]))
          | (refine wq_val _ (by rfl) (by intro v hC; have z3 := (Below.cell hC (p := ⟨w.heap.size, 3, none⟩) hltw).trans q3; clear hC; go_simp; (try rfl)) ?_; (try simp only [Act.put, List.setIfInBounds_toArray, List.set_cons_zero, List.set_cons_succ]))
          | (with_reducible fail))
        refine wq_loadT _ (fun w h => T5.later h) (by rfl) (by rfl) (by rfl) ?_
        (try simp only [Act.put, List.setIfInBounds_toArray, List.set_cons_zero, List.set_cons_succ])
        refine wq_call (fun W _ => K5.out W) lt_step (by rfl) (by intro w _; go_simp) ?_
        (try simp only [Act.put, List.setIfInBounds_toArray, List.set_cons_zero, List.set_cons_succ])
        repeat (first
          | (refine wq_skip (by rfl) ?_; (try simp only [Act.put, List.setIfInBounds_toArray, List.set_cons_zero, List.set_cons_succ]))
          | (refine wq_val _ (by rfl) (by intro v hC; have z3 := (Below.cell hC (p := ⟨w.heap.size, 3, none⟩) hltw).trans q3; clear hC; go_simp; (try rfl)) ?_; (try simp only [Act.put, List.setIfInBounds_toArray, List.set_cons_zero, List.set_cons_succ]))
          | (with_reducible fail))
        refine wpQuiet_nil ?_
        intro W6 hW6
        clear f1 f2 f3 f4 f5 g1 g2 g3 g4 g5 g2' g4'
        go_wp2
        go_ret
        exact ⟨rfl, Below.trans HB.out (Below.mono hW6 (Below.size HB.out))⟩
end Go.Proofs.Ytapeklpnjckfkaa
