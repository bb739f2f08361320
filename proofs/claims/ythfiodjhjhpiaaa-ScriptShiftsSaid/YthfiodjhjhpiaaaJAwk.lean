/- The chapter's example. -/
import Derived.Test.YthfiodjhjhpiaaaJLaw0
namespace Go.Proofs.Ythfiodjhjhpiaaa
open Go.RowKit
set_option linter.unusedVariables false
set_option linter.unusedSimpArgs false

theorem one_row (W : World) (x : Ts) (hw : TsW x) : Row (W.alloc (.cells #[.string x.n, .int .i64 x.c, .int .i64 x.t, .int .i64 x.d, .int .i64 x.j, .int .i64 x.q, .int .i64 x.p] 44)) (some ⟨W.heap.size, 0, none⟩) 1 [x] :=
  ⟨by simp, by omega, fun y hy => by rw [List.mem_singleton] at hy; exact hy ▸ hw, fun i y hy => by
    have hi := (List.getElem?_eq_some_iff.1 hy).1
    obtain rfl : i = 0 := by simpa using hi
    obtain rfl : x = y := by simpa using hy
    exact ⟨_, 0, rfl, TAt.new W x⟩⟩
theorem FRow.one {W : World} {b cap : Nat} {x : Fv} {C : Option Addr} (h : FAt W b 0 x C cap) : FRow W (some ⟨b, 0, none⟩) 1 [x] :=
  ⟨by simp, by omega, fun i y hy => by
    have hi := (List.getElem?_eq_some_iff.1 hy).1
    obtain rfl : i = 0 := by simpa using hi
    obtain rfl : x = y := by simpa using hy
    exact ⟨b, 0, C, cap, rfl, h⟩⟩
set_option maxRecDepth 100000 in
set_option maxHeartbeats 4000000 in
theorem awake_any (w : World) : Calls Try.prog 10 #[] w fun e w' => e = .returned (.bool true) ∧ Below w.heap.size w w' := by
  obtain ⟨N, hN⟩ : ∃ N, w.heap.size = N := ⟨_, rfl⟩
  obtain ⟨W1, hW1⟩ : ∃ W1, w.alloc (.cells #[.string { data := #[97] }, .int .i64 3, .int .i64 9, .int .i64 9, .int .i64 2, .int .i64 2, .int .i64 1] 44) = W1 := ⟨_, rfl⟩
  have R1 : Row W1 (some ⟨N, 0, none⟩) 1 [exT] := by
    rw [← hW1, ← hN]
    exact one_row w exT ⟨by decide, by unfold in64; decide, by unfold in64; decide, by unfold in64; decide, by unfold in64; decide, by unfold in64; decide, by unfold in64; decide⟩
  have s1 : W1.heap.size = N + 1 := by rw [← hW1, ← hN]; simp
  have B1 : Below N w W1 := by rw [← hW1, ← hN]; exact (Below.refl _ _).alloc (Nat.le_refl _) _
  obtain ⟨W2, hW2⟩ : ∃ W2, W1.alloc (.cells #[.int .i64 1, .int .i64 7] 3) = W2 := ⟨_, rfl⟩
  have B2 : Below W1.heap.size W1 W2 := by rw [← hW2]; exact (Below.refl _ _).alloc (Nat.le_refl _) _
  have s2 : W2.heap.size = N + 1 + 1 := by rw [← hW2]; simp [s1]
  have C2 : CRow W2 (some ⟨N + 1, 0, none⟩) 2 exR.c := by
    refine ⟨by decide, by omega, fun x hx => by simp [exR] at hx; rcases hx with rfl | rfl <;> (unfold in64; omega), fun i x hx => ⟨_, 0, rfl, ?_⟩⟩
    have hc := cell_of_row W2 (N + 1) (0 + i) _ _ _ (by have := heap_alloc_new W1 (.cells #[.int .i64 1, .int .i64 7] 3); rw [hW2, s1] at this; exact this)
    rw [hc]
    have hi := (List.getElem?_eq_some_iff.1 hx).1
    have hi : i < 2 := hi
    rcases (by omega : i = 0 ∨ i = 1) with rfl | rfl
    · obtain rfl : (1 : Int) = x := by simpa [exR] using hx
      rfl
    · obtain rfl : (7 : Int) = x := by simpa [exR] using hx
      rfl
  obtain ⟨W3, hW3⟩ : ∃ W3, W2.alloc (.cells #[.int .i64 0, .int .i64 4, .int .i64 5, .int .i64 8, .slice (some ⟨N + 1, 0, none⟩) 2 2] 49) = W3 := ⟨_, rfl⟩
  have B3 : Below W2.heap.size W2 W3 := by rw [← hW3]; exact (Below.refl _ _).alloc (Nat.le_refl _) _
  have R3 : FRow W3 (some ⟨N + 1 + 1, 0, none⟩) 1 [exR] := by
    have := FAt.new W2 exR (some ⟨N + 1, 0, none⟩) 2 49 ⟨by unfold in64; decide, by unfold in64; decide, by unfold in64; decide, by unfold in64; decide⟩ C2
    rw [s2] at this
    rw [← hW3]
    exact FRow.one this
  have B13 : Below W1.heap.size W1 W3 := B2.trans (B3.mono B2.size)
  have KD : Calls Try.prog 14 #[.slice (some ⟨N, 0, none⟩) 1 1, .slice (some ⟨N + 1 + 1, 0, none⟩) 1 1] W3 (DecodePost [exJ] W3) := by
    have := decode_any _ _ 1 1 [exT] [exR] W3 (R1.later B13) R3
    rw [ex_dec] at this
    exact this
  have KD := Lib.hid KD
  have HW1 := Lib.hid hW1
  have HW2 := Lib.hid hW2
  have HW3 := Lib.hid hW3
  have HB := Lib.hid (B1.trans (B13.mono (by omega)))
  have HS1 := Lib.hid s1
  have HS2 := Lib.hid s2
  clear hW1 hW2 hW3 R1 B1 B2 C2 B3 R3 B13 s1 s2
  go_enter Try.func10, Try.ntmps10
  go_upto_region 2 with (fail)
  rw [HW1.out]
  have s1 := HS1.out
  go_upto_region 3 with (go_at_call 14; rw [HW2.out, HW3.out]; (with_reducible refine KD.out.mono ?_); rintro e w4 ⟨v, gs, rfl, hG, hgs, h4⟩)
  have hgl : gs.length = 1 := by have := congrArg List.length hgs; simpa using this
  obtain ⟨g, rfl⟩ : ∃ g, gs = [g] := by
    match gs, hgl with
    | [g], _ => exact ⟨g, rfl⟩
  have hgx : g.x = exJ := by simpa using hgs
  obtain ⟨gb, gcap, rfl, hge, hgb, hgc, -, -⟩ := own_form hG.row (by simp)
  obtain ⟨gx, gA, gC⟩ := g
  simp only at hgx
  subst hgx
  have hcs := fun i u hu => own_cell (i := i) (u := u) hG.row (g := gb) rfl hu
  have c0 := hcs 0 _ rfl
  have c1 := hcs 1 _ rfl
  have c2 := hcs 2 _ rfl
  have c3 := hcs 3 _ rfl
  have c4 := hcs 4 _ rfl
  have hC := (hG.each ⟨exJ, gA, gC⟩ (by simp)).s
  obtain ⟨ib, io, n, hA, hn, _, hib, hc⟩ := hC.get (k := 0) (by show 0 < exJ.c.length; decide)
  obtain ⟨ib', io', n', hA', hn', _, hib', hc'⟩ := hC.get (k := 1) (by show 1 < exJ.c.length; decide)
  simp only at hA hA' hn hn'
  subst hA
  obtain ⟨rfl, rfl⟩ : ib = ib' ∧ io = io' := by simpa using hA'
  obtain rfl : (2 : Int) = n := by simpa [exJ] using hn
  obtain rfl : (1 : Int) = n' := by simpa [exJ] using hn'
  simp only [exJ, List.length_cons, List.length_nil, Nat.zero_add, Nat.reduceAdd, Nat.add_zero] at c0 c1 c2 c3 c4 hc hc'
  have HB4 := Lib.hid (HB.out.trans (h4.mono (by have := HB.out.size; omega)))
  clear hcs hC hgs hG hA' hn hn' h4 hge hgc hgl
  go_wp2
  go_ret
  exact ⟨rfl, by rw [hN]; exact HB4.out⟩
end Go.Proofs.Ythfiodjhjhpiaaa
