/- An act that pushes. -/
import Derived.Test.YtebbpgokhelmdaaBz
namespace Go.Proofs.Ytebbpgokhelmdaa
open Go.RowKit Go.Shelf
set_option linter.unusedVariables false
set_option linter.unusedSimpArgs false
attribute [local go_sem] Oper.semAt_some
theorem does_boxes {w0 w : World} {B b bm c : Nat} {X Y : List Nat} {L : List It} {K : List (Nat × Obj)} (kind key : Int) (h : Bz w0 w B b bm X c L Y L K) :
    Bz w0 (((w.alloc (.cells #[.pointer (some ⟨bm, 0, none⟩)] 26)).alloc (.cells #[.int .i64 kind, .int .i64 key] 38)).alloc (.cells #[.bool false] 4)) B b bm X c L Y L
      ((w.heap.size + 1 + 1, .cells #[.bool false] 4 (0, 0)) :: (w.heap.size + 1, .cells #[.int .i64 kind, .int .i64 key] 38 (0, 0)) :: (w.heap.size, .cells #[.pointer (some ⟨bm, 0, none⟩)] 26 (0, 0)) :: K) := by
  have := ((h.add #[.pointer (some ⟨bm, 0, none⟩)] 26).add #[.int .i64 kind, .int .i64 key] 38).add #[.bool false] 4
  simpa only [World.size_alloc] using this
set_option maxRecDepth 100000 in
set_option maxHeartbeats 4000000 in
theorem does_push {w0 w : World} {B b bm c : Nat} {X Y : List Nat} {L : List It} (kind key which : Int) (h : Bz w0 w B b bm X c L Y L []) (hk : in64 kind) (hy : in64 key) (hw : in64 which) (hL : L.length ≤ 190) (hc : c ≤ 500) (hso : L.Pairwise (fun a b => a.k ≤ b.k))
    (hr : restI kind 5 ≤ 2) : Calls Try.prog 13 #[.pointer (some ⟨b, 0, none⟩), .pointer (some ⟨bm, 0, none⟩), .agg #[.int .i64 kind, .int .i64 key], .int .i64 which] w (Goes w0 B b bm c L.length) := by
  have R1 := Lib.hid (fun W => rest_any kind 5 W hk (by omega) (by omega))
  have R2 := Lib.hid (fun W => rest_any key 6 W hy (by omega) (by omega))
  obtain ⟨hr0, hr1⟩ := restI_bd kind 5 (by omega) (by omega)
  obtain ⟨hs0, hs1⟩ := restI_bd key 6 (by omega) (by omega)
  have HX := Lib.hid (show okM ⟨restI key 6, which⟩ from ⟨by unfold in64; simp; omega, hw⟩)
  have hz := does_boxes kind key h
  have hsz := h.h.b.size
  have hlt := h.h.m.lt
  have HSO := Lib.hid hso
  have HLE := Lib.hid hL
  clear h hso hL
  generalize restI kind 5 = r at *
  generalize restI key 6 = s at *
  refine (callsIn_wide (n := 9)).1 ?_
  refine callsIn_of_wp_marks Try.func13 rfl trivial ?_ rfl
  simp only [Try.ntmps13, List.size_toArray, List.length_cons, List.length_nil, Nat.reduceAdd, Nat.reduceSub, Array.replicate_succ, Array.replicate_zero, List.push_toArray, List.append_toArray, List.nil_append, List.cons_append]
  refine wpIn_wide.2 ?_
  go_upto_region 1 with (fail)
  generalize ((w.alloc (.cells #[.pointer (some ⟨bm, 0, none⟩)] 26)).alloc (.cells #[.int .i64 kind, .int .i64 key] 38)).alloc (.cells #[.bool false] 4) = W at *
  generalize hP : w.heap.size = P at hz hsz hlt ⊢
  have d5 := hz.at (k0 := P) (cs := #[.pointer (some ⟨bm, 0, none⟩)]) (t := 26) (by simp) 0
  have d60 := hz.at (k0 := P + 1) (cs := #[.int .i64 kind, .int .i64 key]) (t := 38) (by simp) 0
  have d61 := hz.at (k0 := P + 1) (cs := #[.int .i64 kind, .int .i64 key]) (t := 38) (by simp) 1
  obtain ⟨A, cap, c0', hcap, hmx, -, -⟩ := hz.h.m.ex
  have c0 := cell_of_row W bm 0 _ _ _ c0'
  simp at c0 d5 d60 d61
  have HZ := Lib.hid hz
  unfold maxLen at hmx
  clear hz c0' hP
  obtain rfl | rfl | rfl : r = 0 ∨ r = 1 ∨ r = 2 := by omega
  all_goals
    go_upto_region 7 with (first
      | (go_at_call 9; with_reducible refine (R1.out _).mono ?_; rintro e w1 ⟨rfl, rfl⟩)
      | (go_at_call 9; with_reducible refine (R2.out _).mono ?_; rintro e w1 ⟨rfl, rfl⟩))
    have hz1 := HZ.out.add #[.int .i64 s, .int .i64 which] 31
    have i0 := hz1.at (k0 := W.heap.size) (cs := #[.int .i64 s, .int .i64 which]) (t := 31) (by simp) 0
    have i1 := hz1.at (k0 := W.heap.size) (cs := #[.int .i64 s, .int .i64 which]) (t := 31) (by simp) 1
    generalize hQ : W.heap.size = Q at *
    generalize W.alloc (.cells #[.int .i64 s, .int .i64 which] 31) = W1 at *
    simp at i0 i1
    have PH := Lib.hid (hz1.pushH (x := ⟨s, which⟩) HX.out (by omega))
    clear HZ hQ hz1
    go_wp2_with (first
      | (go_at_call 29; refine PH.out.mono ?_; rintro e w2 ⟨rfl, X2, hz2⟩; have e5 := hz2.at (k0 := P) (cs := #[.pointer (some ⟨bm, 0, none⟩)]) (t := 26) (by simp) 0; have j0 := hz2.at (k0 := Q) (cs := #[.int .i64 s, .int .i64 which]) (t := 31) (by simp) 0; have j1 := hz2.at (k0 := Q) (cs := #[.int .i64 s, .int .i64 which]) (t := 31) (by simp) 1; simp at e5 j0 j1; have PR := Lib.hid (hz2.pushR (x := ⟨s, which⟩) HX.out (by have := HLE.out; omega) HSO.out); clear hz2)
      | (go_at_call 10; refine PR.out.mono ?_; rintro e w3 ⟨rfl, Y3, hz3⟩; have f8 := hz3.fz (k0 := P + 1 + 1) (cs := #[.bool false]) (t := 4) (by simp) 0; have g8 := hz3.at (k0 := P + 1 + 1) (cs := #[.bool false]) (t := 4) (by simp) 0; simp at g8; have HZ3 := Lib.hid hz3; clear hz3))
    have hz4 := (HZ3.out.sub (K' := [(P + 1 + 1, .cells #[.bool false] 4 (0, 0))]) (by simp)).set1 (by omega) (by simp) (.bool true)
    generalize w3.setCell ⟨P + 1 + 1, 0, none⟩ (.bool true) = w4 at *
    have hc4 := hz4.at (k0 := P + 1 + 1) (cs := #[.bool true]) (t := 4) (by simp) 0
    simp at hc4
    exact ⟨.bool true, by simp [results, Try.f13, go_sem, hc4], rfl, _, _, c + 1, _, by omega, by rw [ins_lengthM]; exact Nat.le_refl _, ins_sortedM _ _ HSO.out, hz4.h⟩
end Go.Proofs.Ytebbpgokhelmdaa
