/- At; Pop. -/
import Derived.Test.YtgcchmenadgboaaFEI
namespace Go.Proofs.Ytgcchmenadgboaa
open Go.RowKit
set_option linter.unusedVariables false
set_option linter.unusedSimpArgs false
attribute [local go_sem ↓] Go.wp_at_zero Go.wp_at_succ

set_option maxRecDepth 100000 in
set_option maxHeartbeats 4000000 in
theorem at_inI {B b N f : Nat} {v : Value} {l : List Int} {i : Nat} {x : Int} (w : World) (h : FQI B w b v N f l) (hx : l[i]? = some x) : Calls Try.prog 23 #[.pointer (some ⟨b, 0, none⟩), .int .i64 (i : Int)] w (Quiet (.tuple #[.int .i64 x, .bool true]) w) := by
  have hil := (List.getElem?_eq_some_iff.1 hx).1
  have hle := h.len_le
  obtain ⟨g, cur, rfl, h1, h2, h3, h4, h5, h6⟩ := h.open (by omega)
  have hlim := h.lim
  have LN := Lib.hid (len_anyI w h)
  have PL := Lib.hid (fun W (hB : Below w.heap.size w W) => place_anyI W (h.later hB) i (by omega) (by omega))
  have c0 := h.c0
  have hm : (f + i) % N < N := Nat.mod_lt _ (by omega)
  have hu : w.cell? ⟨g, (f + i) % N, none⟩ = some (.int .i64 x) := by rw [cell_of_row w g _ _ _ _ h2]; exact h5 i x hx
  generalize (f + i) % N = r at *
  have hr1 : (r : Int) < (N : Int) := by omega
  have hi0 : ¬ (i : Int) < 0 := by omega
  have hi1 : ¬ ((l.length : Int) ≤ (i : Int)) := by omega
  generalize l.length = n at *
  clear h h2 h5
  go_enter Try.func23, Try.ntmps23
  go_upto_region 4 with (go_at_call 20; (with_reducible refine LN.out.mono ?_); rintro e w1 ⟨rfl, rfl⟩)
  go_quiet ((go_at_call 26; refine Calls.quiet_of (PL.out _ (below_drewN2 w _))))
  go_wp2
  go_ret2
  exact ⟨rfl, _, rfl⟩
set_option maxRecDepth 100000 in
set_option maxHeartbeats 4000000 in
theorem at_outI {B b N f : Nat} {v : Value} {l : List Int} {i : Int} (w : World) (h : FQI B w b v N f l) (hi : i < 0 ∨ (l.length : Int) ≤ i) : Calls Try.prog 23 #[.pointer (some ⟨b, 0, none⟩), .int .i64 i] w (Quiet (.tuple #[.int .i64 0, .bool false]) w) := by
  have LN := Lib.hid (len_anyI w h)
  generalize l.length = n at *
  clear h
  by_cases h0 : i < 0
  · clear hi
    go_enter Try.func23, Try.ntmps23
    go_wp2
    go_ret2
    exact ⟨rfl, 0, rfl⟩
  · have h1 : (n : Int) ≤ i := by omega
    have h2 : 0 ≤ i := by omega
    clear hi
    go_enter Try.func23, Try.ntmps23
    go_wp2_with (go_at_call 20; (with_reducible refine LN.out.mono ?_); rintro e w1 ⟨rfl, rfl⟩)
    go_ret2
    exact ⟨rfl, 0, rfl⟩
/-- clear of one place. -/
theorem run_clear1I {w : World} {g m k : Nat} {u : Value} (ty : TypeId) (hu : w.cell? ⟨g, m, none⟩ = some u) (hf : w.frozen? ⟨g, m, none⟩ = false) : (Builtin.clear_ #[22] ty #[.slice (some ⟨g, m, none⟩) 1 k]).run Try.prog w = .ok (.tuple #[]) (w.setCell ⟨g, m, none⟩ (.int .i64 0)) := by
  obtain ⟨i0, hi, hz0, hz1, hz2⟩ := info_parts infoTI
  have hu' := run_underlying (P := Try.prog) Try.underlying22
  have a0 : (⟨g, m, none⟩ : Addr).add 0 = ⟨g, m, none⟩ := by rw [add_none]; rfl
  simp [Builtin.clear_, hu', zeroValue, typeInfo, hi, hz0, Builtin.zeroCells, storeCells, a0, hu, hf, go_sem]
theorem mod_skipI {f i N : Nat} (hf : f < N) (hi : i + 1 < N + 1) : ((f + 1) % N + i) % N = (f + (i + 1)) % N := by
  rw [Nat.mod_add_mod]; congr 1; omega
/-- What is left. -/
theorem FQI.pop {B b N f : Nat} {v : Value} {l : List Int} {x : Int} {w : World} (h : FQI B w b v N f (x :: l)) {g : Nat} (hv : v.ownBlock = some g) :
    FQI B (((w.setCell ⟨g, f, none⟩ (.int .i64 0)).setCell ⟨b, 1, none⟩ (.int .i64 (((f + 1) % N : Nat) : Int))).setCell ⟨b, 2, none⟩ (.int .i64 (l.length : Int))) b v N ((f + 1) % N) l := by
  have hle := h.len_le
  simp at hle
  obtain ⟨g', cur, rfl, h1, h2, h3, h4, h5, h6⟩ := h.open (by omega)
  simp [Value.ownBlock] at hv
  subst hv
  refine ⟨h.hB, ?_, ?_, h.lim⟩
  · refine heap_setCell_same _ b 2 _ _ _ (heap_setCell_same _ b 1 _ _ _ (?_ : _ = some (Obj.cells #[.slice (some ⟨g', 0, none⟩) N N, .int .i64 (f : Int), .int .i64 ((x :: l).length : Int)] _ _)))
    rw [Below.heap_setCell _ _ _ _ (by simpa using h6)]
    exact h.is
  · refine .inr ⟨g', cur.setIfInBounds f (.int .i64 0), rfl, h1, ?_, by simpa using h3, Nat.mod_lt _ (by omega), by omega, ?_⟩
    · rw [Below.heap_setCell _ _ _ _ (by simpa using Ne.symm h6), Below.heap_setCell _ _ _ _ (by simpa using Ne.symm h6)]
      exact heap_setCell_same _ g' _ _ _ _ h2
    · intro i y hy
      have hil := (List.getElem?_eq_some_iff.1 hy).1
      have := h5 (i + 1) y (by simpa using hy)
      rw [mod_skipI h4 (by omega)]
      have hne : f ≠ (f + (i + 1)) % N := by
        intro e
        rcases Nat.lt_or_ge (f + (i + 1)) N with ha | ha
        · rw [Nat.mod_eq_of_lt ha] at e; omega
        · rw [Nat.mod_eq_sub_mod ha, Nat.mod_eq_of_lt (by omega)] at e; omega
      rw [Array.getElem?_setIfInBounds_ne hne]
      exact this
theorem run_cut1I {g f N : Nat} (h : f < N) (w : World) : (Instr.slice 22 (.slice (some ⟨g, 0, none⟩) N N) (some (.int .i64 (f : Int))) (some (.int .i64 ((f : Int) + 1))) none).run Try.prog w = .ok (.slice (some ⟨g, f, none⟩) 1 (N - f)) w := by
  have h1 : (f : Int) ≤ (f : Int) + 1 := by omega
  have h2 : (f : Int) + 1 ≤ (N : Int) := by omega
  have h3 : (0 : Int) ≤ (f : Int) + 1 := by omega
  have h4 : ¬ N = f := by omega
  have h5 : ((f : Int) + 1).toNat = f + 1 := by omega
  have h6 : f + 1 - f = 1 := by omega
  have h7 : (f : Int) ≤ (N : Int) := by omega
  go_simp
def PopPI (B b N : Nat) (v : Value) (x : Int) (l : List Int) (w : World) (e : Ending) (w' : World) : Prop := e = .returned (.tuple #[.int .i64 x, .bool true]) ∧ ∃ f', FQI B w' b v N f' l ∧ Kept (blk b v) w w'
set_option maxRecDepth 100000 in
set_option maxHeartbeats 8000000 in
theorem pop_someI {B b N f : Nat} {v : Value} {l : List Int} {x : Int} (w : World) (h : FQI B w b v N f (x :: l)) : Calls Try.prog 13 #[.pointer (some ⟨b, 0, none⟩)] w (PopPI B b N v x l w) := by
  have hle := h.len_le
  simp at hle
  obtain ⟨g, cur, rfl, h1, h2, h3, h4, h5, h6⟩ := h.open (by omega)
  have hlim := h.lim
  have AT := Lib.hid (show Calls Try.prog 23 #[.pointer (some ⟨b, 0, none⟩), .int .i64 0] w (Quiet (.tuple #[.int .i64 x, .bool true]) w) from at_inI w h (i := 0) (x := x) rfl)
  have c0 := h.c0
  have c1 := h.c1
  have c2 := h.c2
  have fb1 := h.fz 1
  have fb2 := h.fz 2
  have hu : w.cell? ⟨g, f, none⟩ = some (.int .i64 x) := by
    have := h5 0 x rfl
    rw [Nat.add_zero, Nat.mod_eq_of_lt h4] at this
    rw [cell_of_row w g _ _ _ _ h2]; exact this
  have fg : w.frozen? ⟨g, f, none⟩ = false := by simp [World.frozen?, h2]
  have hP := fun k => (h.later (below_drewN2 w k)).pop (g := g) rfl
  have hll : ((x :: l).length : Int) = (l.length : Int) + 1 := by simp
  rw [hll] at c2
  have HP := Lib.hid hP
  have PL := Lib.hid (fun W (h0 : W.cell? ⟨b, 0, none⟩ = some (.slice (some ⟨g, 0, none⟩) N N)) (h1 : W.cell? ⟨b, 1, none⟩ = some (.int .i64 (f : Int))) => show Calls Try.prog 26 #[.pointer (some ⟨b, 0, none⟩), .int .i64 1] W (Quiet (.int .i64 (((f + 1) % N : Nat) : Int)) W) from place_cI W h0 h1 h4 hlim 1 (by omega))
  have CL := Lib.hid (fun k ty => run_clear1I (w := w.drewN k) (g := g) (m := f) (k := N - f) ty hu fg)
  have hm1 : f + 1 - f = 1 := by omega
  have hfN : (f : Int) < (N : Int) := by omega
  have hNf : ¬ N = f := by omega
  have hbg : g ≠ b := Ne.symm h6
  have hrl : (f + 1) % N < N := Nat.mod_lt _ (by omega)
  generalize (f + 1) % N = r at *
  generalize l.length = n at *
  clear hP h5 h2 h
  go_enter Try.func13, Try.ntmps13
  go_upto_region 4 with (go_at_call 23; (with_reducible refine AT.out.mono ?_); rintro e w1 ⟨rfl, m0, rfl⟩)
  have hw : IntKind.i64.wrap ((f : Int) + 1) = (f : Int) + 1 := by rw [IntKind.wrap_i64]; omega
  have hsl := fun w => run_cut1I (g := g) h4 w
  have d0 : (w.drewN m0).cell? ⟨b, 0, none⟩ = _ := c0
  have d1 : (w.drewN m0).cell? ⟨b, 1, none⟩ = _ := c1
  have d2 : (w.drewN m0).cell? ⟨b, 2, none⟩ = _ := c2
  have e1 : (w.drewN m0).frozen? ⟨b, 1, none⟩ = false := fb1
  have e2 : (w.drewN m0).frozen? ⟨b, 2, none⟩ = false := fb2
  have BW : Below w.heap.size w (w.drewN m0).drew := ⟨rfl, rfl, rfl, Nat.le_refl _, fun _ _ => rfl⟩
  have CL' := CL.out (m0 + 1)
  have HP' := HP.out (m0 + 1)
  have eqW : w.drewN (m0 + 1) = (w.drewN m0).drew := rfl
  rw [eqW] at CL' HP'
  have HP2 := Lib.hid HP'
  have BW2 := Lib.hid BW
  clear HP HP' CL eqW BW c0 c1 c2 fb1 fb2 AT
  generalize w.drewN m0 = W at *
  go_still_tail 14, (by kernel_rfl)
  change wpList _ _ _ _ _ W.drew
  have e0 : W.drew.cell? ⟨b, 0, none⟩ = _ := d0
  have e1' : W.drew.cell? ⟨b, 1, none⟩ = _ := d1
  have e2' : W.drew.cell? ⟨b, 2, none⟩ = _ := d2
  have f1' : W.drew.frozen? ⟨b, 1, none⟩ = false := e1
  have f2' : W.drew.frozen? ⟨b, 2, none⟩ = false := e2
  have hcl := CL' 0
  clear d0 d1 d2 e1 e2 CL' hsl hu fg
  generalize W.drew = V at *
  have PL2 := Lib.hid (PL.out (V.setCell ⟨g, f, none⟩ (.int .i64 0)) ((World.cell?_of_block (a := ⟨b, 0, none⟩) (Below.heap_setCell V ⟨g, f, none⟩ _ b (by simpa using h6))).trans e0) ((World.cell?_of_block (a := ⟨b, 1, none⟩) (Below.heap_setCell V ⟨g, f, none⟩ _ b (by simpa using h6))).trans e1'))
  clear PL
  go_wp2_with (go_at_call 26; (with_reducible refine PL2.out.mono ?_); rintro e w' ⟨rfl, mm, rfl⟩)
  go_ret2
  exact ⟨rfl, r, HP2.out.later (below_drewN2 _ mm), ((((Kept.of _ BW2.out).set g _ _ (by simp [blk, Value.ownBlock])).set b _ _ (by simp [blk])).set b _ _ (by simp [blk])).later (below_drewN2 _ mm)⟩
theorem pop_noneI {B b N f : Nat} {v : Value} (w : World) (h : FQI B w b v N f []) : Calls Try.prog 13 #[.pointer (some ⟨b, 0, none⟩)] w (Quiet (.tuple #[.int .i64 0, .bool false]) w) := by
  have AT := Lib.hid (at_outI w h (i := 0) (by simp))
  go_enter Try.func13, Try.ntmps13
  go_wp2_with (go_at_call 23; (with_reducible refine AT.out.mono ?_); rintro e w1 ⟨rfl, m0, rfl⟩)
  go_ret2
  exact ⟨rfl, m0, rfl⟩
end Go.Proofs.Ytgcchmenadgboaa
