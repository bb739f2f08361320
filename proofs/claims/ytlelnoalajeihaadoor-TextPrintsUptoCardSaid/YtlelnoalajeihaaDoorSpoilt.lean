/- The law's spoilt. -/
import Derived.Test.YtlelnoalajeihaaDoorLaw1
namespace Go.Proofs.YtlelnoalajeihaaDoor
open Go.RowKit
set_option linter.unusedVariables false
set_option linter.unusedSimpArgs false

def SpPost (s : ByteArray) (w : World) (e : Ending) (w' : World) : Prop := ∃ t, e = .returned (.string t) ∧ t.size ≤ s.size + 1 ∧ Below w.heap.size w w'
theorem u8_bd (q : Int) : 0 ≤ IntKind.u8.wrap q ∧ IntKind.u8.wrap q < 256 := by
  rw [IntKind.wrap_u8]
  exact ⟨Int.emod_nonneg _ (by omega), Int.emod_lt_of_pos _ (by omega)⟩
theorem arr_new (w : World) (q0 q1 q2 : Int) : ∃ W, w.alloc (.cells #[.int .i64 q0, .int .i64 q1, .int .i64 q2] 32) = W ∧ W.cell? ⟨w.heap.size, 0, none⟩ = some (.int .i64 q0) ∧ W.cell? ⟨w.heap.size, 1, none⟩ = some (.int .i64 q1) ∧ W.cell? ⟨w.heap.size, 2, none⟩ = some (.int .i64 q2) ∧ Below w.heap.size w W ∧ w.heap.size < W.heap.size := by
  refine ⟨_, rfl, ?_, ?_, ?_, (Below.refl _ _).alloc (Nat.le_refl _) _, by simp⟩
  · rw [cell_of_row _ _ 0 _ _ _ (heap_alloc_new w _)]; rfl
  · rw [cell_of_row _ _ 1 _ _ _ (heap_alloc_new w _)]; rfl
  · rw [cell_of_row _ _ 2 _ _ _ (heap_alloc_new w _)]; rfl
set_option maxRecDepth 100000 in
set_option maxHeartbeats 4000000 in
theorem spoilt_any (s : ByteArray) (q0 q1 q2 : Int) (w : World) (h0 : in64 q0) (h1 : in64 q1) (h2 : in64 q2) (hs : s.size ≤ 99999) : Calls Tryd.prog 16 #[.string s, .agg #[.int .i64 q0, .int .i64 q1, .int .i64 q2]] w (SpPost s w) := by
  obtain ⟨z0, z1⟩ := u8_bd q2
  obtain ⟨z, hz⟩ : ∃ z, IntKind.u8.wrap q2 = z := ⟨_, rfl⟩
  rw [hz] at z0 z1
  have hcv := fun W => conv_n W z z0 z1
  have hch := chr_size z
  obtain ⟨cz, hcz⟩ : ∃ cz, chr z = cz := ⟨_, rfl⟩
  rw [hcz] at hcv hch
  clear hcz
  obtain ⟨W0, hW0, c0, c1, c2, B0, hlt⟩ := arr_new w q0 q1 q2
  have HW := Lib.hid hW0
  have HB := Lib.hid B0
  clear hW0 B0
  by_cases he : s.size = 0
  · obtain rfl : s = { data := #[] } := by
      apply ByteArray.ext
      exact Array.eq_empty_of_size_eq_zero he
    go_enter Tryd.func16, Tryd.ntmps16
    go_upto_region 1 with (fail)
    rw [HW.out]
    go_wp2
    go_ret
    exact ⟨cz, rfl, by rw [hch]; simp, HB.out.alloc HB.out.size _⟩
  · have R1 := fun W => rest_any q1 s.size W h1 (by omega) (by omega)
    obtain ⟨r0, r1⟩ := restI_bd q1 s.size (by omega) (by omega)
    obtain ⟨i, hi⟩ : ∃ i : Nat, restI q1 s.size = (i : Int) := ⟨(restI q1 s.size).toNat, by omega⟩
    rw [hi] at R1 r0 r1
    have R1 := Lib.hid R1
    have hil : i < s.size := by omega
    have R2 := fun W => rest_any q0 3 W h0 (by omega) (by omega)
    obtain ⟨k0, k1⟩ := restI_bd q0 3 (by omega) (by omega)
    have hne : (s.toList == []) = false := by
      rw [Lib.toList_data, beq_eq_false_iff_ne]
      intro e
      have h : s.data.toList.length = 0 := by rw [e]; rfl
      rw [← Lib.size_eq] at h
      omega
    clear hi
    generalize restI q0 3 = r at *
    have hr3 : r = 0 ∨ r = 1 ∨ r = 2 := by omega
    clear k0 k1
    have R2 := Lib.hid R2
    have e1 : ((i : Int) + 1).toNat = i + 1 := by omega
    have e2 : IntKind.i64.wrap ((i : Int) + 1) = (i : Int) + 1 := IntWalk.i64_in _ (by omega)
    rcases hr3 with rfl | rfl | rfl
    · go_enter Tryd.func16, Tryd.ntmps16
      go_upto_region 1 with (fail)
      rw [HW.out]
      go_wp2_with (first
        | (go_at_call 27; (with_reducible refine (R1.out _).mono ?_); rintro e w' ⟨rfl, rfl⟩)
        | (go_at_call 27; (with_reducible refine (R2.out _).mono ?_); rintro e w' ⟨rfl, rfl⟩))
      go_quiet (fail)
      go_wp2
      go_ret
      exact ⟨_, rfl, by simp only [ByteArray.size_append, ByteArray.size_extract]; omega, below_drewN (HB.out.alloc HB.out.size _) _⟩
    · go_enter Tryd.func16, Tryd.ntmps16
      go_upto_region 1 with (fail)
      rw [HW.out]
      go_wp2_with (first
        | (go_at_call 27; (with_reducible refine (R1.out _).mono ?_); rintro e w' ⟨rfl, rfl⟩)
        | (go_at_call 27; (with_reducible refine (R2.out _).mono ?_); rintro e w' ⟨rfl, rfl⟩))
      go_quiet (fail)
      go_wp2
      go_ret
      exact ⟨_, rfl, by simp only [ByteArray.size_append, ByteArray.size_extract]; omega, below_drewN (HB.out.alloc HB.out.size _) _⟩
    · go_enter Tryd.func16, Tryd.ntmps16
      go_upto_region 1 with (fail)
      rw [HW.out]
      go_wp2_with (first
        | (go_at_call 27; (with_reducible refine (R1.out _).mono ?_); rintro e w' ⟨rfl, rfl⟩)
        | (go_at_call 27; (with_reducible refine (R2.out _).mono ?_); rintro e w' ⟨rfl, rfl⟩))
      go_quiet (fail)
      go_wp2
      go_ret
      exact ⟨_, rfl, by simp only [ByteArray.size_append, ByteArray.size_extract]; omega, below_drewN (HB.out.alloc HB.out.size _) _⟩
end Go.Proofs.YtlelnoalajeihaaDoor
