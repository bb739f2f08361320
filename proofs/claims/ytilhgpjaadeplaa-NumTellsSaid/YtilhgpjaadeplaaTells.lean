/- The law's own 'tells' returns true at any two numbers. -/
import Derived.Test.YtilhgpjaadeplaaAwake
namespace Go.Proofs.Ytilhgpjaadeplaa
open Go.RowKit
set_option linter.unusedVariables false

theorem sum_single (a b : Int) (B : Nat) (W : World) (ha : 0 ≤ a) (ha1 : a ≤ 18446744073709551615) (hb : 0 ≤ b) (hb1 : b ≤ 18446744073709551615) (hc : W.cell? ⟨B, 0, none⟩ = some (.int .u64 b)) :
    Calls Try.prog 18 #[.int .u64 a, .slice (some ⟨B, 0, none⟩) 1 1] W fun e w' => e = .returned (.int .u64 (endN (addB a b) (addN a b))) ∧ W = w' := by
  have h0 : ∀ i, i < 1 → W.cell? ((⟨B, 0, none⟩ : Addr).add i) = some (.int .u64 ([b].getD i 0)) := by
    intro i hi
    obtain rfl : i = 0 := by omega
    simpa [Addr.add] using hc
  have h := sum_any a ⟨B, 0, none⟩ 1 1 [b] ha ha1 rfl (by omega) (by unfold maxLen; omega) W h0 (by simp; omega)
  have e : satSum a [b] = endN (addB a b) (addN a b) := by
    simp only [satSum, List.foldl, satAdd, endN, addB, addN]
    by_cases hle : a + b ≤ 18446744073709551615 <;> simp [hle]
  rwa [e] at h

/-- What stays: below the call's first block all is as it was. -/
def Kept (w w' : World) : Prop := Below w.heap.size w w'
theorem Kept.drew {w w' : World} (h : Kept w w') : Kept w w'.drew := Below.drew h

theorem tell_later {w W w1 : World} {x1 x2 x3 : Addr} {y1 y2 y3 : Addr} {u1 u2 u3 v1 v2 v3 : Value}
    (h : W.cell? x1 = some u1 ∧ W.cell? y1 = some v1 ∧ W.cell? x2 = some u2 ∧ W.cell? y2 = some v2 ∧ W.cell? x3 = some u3 ∧ W.cell? y3 = some v3 ∧ Kept w W) (hb : Below W.heap.size W w1) :
    w1.cell? x1 = some u1 ∧ w1.cell? y1 = some v1 ∧ w1.cell? x2 = some u2 ∧ w1.cell? y2 = some v2 ∧ w1.cell? x3 = some u3 ∧ w1.cell? y3 = some v3 ∧ Kept w w1 := by
  obtain ⟨h1, h2, h3, h4, h5, h6, hk⟩ := h
  have k : ∀ {a : Addr} {u : Value}, W.cell? a = some u → w1.cell? a = some u := fun {a u} hu => by
    rw [hb.cell (World.block_lt_of_cell? W a hu)]; exact hu
  exact ⟨k h1, k h2, k h3, k h4, k h5, k h6, Below.trans hk (hb.mono hk.size)⟩
theorem tell_alloc {w W : World} {x1 x2 x3 : Addr} {y1 y2 y3 : Addr} {u1 u2 u3 v1 v2 v3 : Value} (o : Obj)
    (h : W.cell? x1 = some u1 ∧ W.cell? y1 = some v1 ∧ W.cell? x2 = some u2 ∧ W.cell? y2 = some v2 ∧ W.cell? x3 = some u3 ∧ W.cell? y3 = some v3 ∧ Kept w W) :
    (W.alloc o).cell? x1 = some u1 ∧ (W.alloc o).cell? y1 = some v1 ∧ (W.alloc o).cell? x2 = some u2 ∧ (W.alloc o).cell? y2 = some v2 ∧ (W.alloc o).cell? x3 = some u3 ∧ (W.alloc o).cell? y3 = some v3 ∧ Kept w (W.alloc o) :=
  tell_later h ((Below.refl _ _).alloc (Nat.le_refl _) o)
theorem tell_drew {w W : World} {x1 x2 x3 : Addr} {y1 y2 y3 : Addr} {u1 u2 u3 v1 v2 v3 : Value}
    (h : W.cell? x1 = some u1 ∧ W.cell? y1 = some v1 ∧ W.cell? x2 = some u2 ∧ W.cell? y2 = some v2 ∧ W.cell? x3 = some u3 ∧ W.cell? y3 = some v3 ∧ Kept w W) :
    W.drew.cell? x1 = some u1 ∧ W.drew.cell? y1 = some v1 ∧ W.drew.cell? x2 = some u2 ∧ W.drew.cell? y2 = some v2 ∧ W.drew.cell? x3 = some u3 ∧ W.drew.cell? y3 = some v3 ∧ Kept w W.drew :=
  tell_later h ((Below.refl _ _).drew)

theorem cell_keep {W w1 : World} {a : Addr} {u : Value} (hb : Below W.heap.size W w1) (hu : W.cell? a = some u) : w1.cell? a = some u := by
  rw [hb.cell (World.block_lt_of_cell? W a hu)]; exact hu
theorem cell_more {W : World} {a : Addr} {u : Value} (o : Obj) (hu : W.cell? a = some u) : (W.alloc o).cell? a = some u := cell_keep ((Below.refl _ _).alloc (Nat.le_refl _) o) hu
theorem two_new (w : World) (n : Int) (k : Bool) : (w.alloc (.cells #[.int .u64 n, .bool k] 30)).cell? ⟨w.heap.size, 0, none⟩ = some (.int .u64 n) ∧ (w.alloc (.cells #[.int .u64 n, .bool k] 30)).cell? ⟨w.heap.size, 1, none⟩ = some (.bool k) := by simp

set_option maxHeartbeats 4000000 in
set_option maxRecDepth 100000 in
theorem tells_any (a b : Int) (ha : 0 ≤ a) (ha1 : a ≤ 18446744073709551615) (hb : 0 ≤ b) (hb1 : b ≤ 18446744073709551615) (w : World) :
    Calls Try.prog 12 #[.int .u64 a, .int .u64 b] w fun e w' => e = .returned (.bool true) ∧ Below w.heap.size w w' := by
  have A1 := Lib.hid (add_any a b ha ha1 hb hb1)
  have A2 := Lib.hid (mul_any a b ha ha1 hb hb1)
  have A3 := Lib.hid (ceil_any a b ha ha1 hb hb1)
  have A4 := Lib.hid (refAdd_any a b ha ha1 hb hb1)
  have A5 := Lib.hid (refMul_any a b ha ha1 hb hb1)
  have A6 := Lib.hid (refCeil_any a b ha ha1 hb hb1)
  have A7 := Lib.hid (times_any a b ha ha1 hb hb1)
  have A8 := Lib.hid (fun B W => sum_single a b B W ha ha1 hb hb1)
  generalize addN a b = n1 at *
  generalize addB a b = k1 at *
  generalize mulN a b = n2 at *
  generalize mulB a b = k2 at *
  generalize ceilN a b = n3 at *
  generalize ceilB b = k3 at *
  go_enter Try.func12, Try.ntmps12
  go_wp2_with (first
    | (go_at_call 22; refine (A1.out _).mono ?_; rintro e w' ⟨rfl, rfl⟩)
    | (go_at_call 23; refine (A2.out _).mono ?_; rintro e w' ⟨rfl, rfl⟩)
    | (go_at_call 20; refine (A3.out _).mono ?_; rintro e w' ⟨rfl, rfl⟩)
    | (go_at_call 26; refine (A4.out _).mono ?_; rintro e w1 ⟨rfl, h1⟩)
    | (go_at_call 27; refine (A5.out _).mono ?_; rintro e w2 ⟨rfl, h2⟩)
    | (go_at_call 28; refine (A6.out _).mono ?_; rintro e w3 ⟨rfl, h3⟩))
  have z1 := h1.size
  have z2 := h2.size
  have z3 := h3.size
  simp only [World.size_alloc] at z2 z3
  have kk : Kept w (w3.alloc (.cells #[.int .u64 n3, .bool k3] 30)) :=
    ((((h1.alloc z1 _).trans (h2.mono (by simp; omega))).alloc (by omega) _).trans (h3.mono (by simp; omega))).alloc (by omega) _
  obtain ⟨p1, p2⟩ := two_new w1 n1 k1
  obtain ⟨p3, p4⟩ := two_new w2 n2 k2
  obtain ⟨p5, p6⟩ := two_new w3 n3 k3
  have c1 := cell_more (.cells #[.int .u64 n3, .bool k3] 30) (cell_keep h3 (cell_more (.cells #[.int .u64 n2, .bool k2] 30) (cell_keep h2 p1)))
  have c2 := cell_more (.cells #[.int .u64 n3, .bool k3] 30) (cell_keep h3 (cell_more (.cells #[.int .u64 n2, .bool k2] 30) (cell_keep h2 p2)))
  have c3 := cell_more (.cells #[.int .u64 n3, .bool k3] 30) (cell_keep h3 p3)
  have c4 := cell_more (.cells #[.int .u64 n3, .bool k3] 30) (cell_keep h3 p4)
  clear h1 h2 h3 z1 z2 z3 p1 p2 p3 p4
  generalize w3.alloc (.cells #[.int .u64 n3, .bool k3] 30) = W at *
  generalize w3.heap.size = b3 at *
  generalize w2.heap.size = b2 at *
  generalize w1.heap.size = b1 at *
  have S0 := And.intro c1 (And.intro c2 (And.intro c3 (And.intro c4 (And.intro p5 (And.intro p6 kk)))))
  clear c1 c2 c3 c4 p5 p6 kk
  go_region_held3 (fun w' => w'.cell? ⟨b1, 0, none⟩ = some (.int .u64 n1) ∧ w'.cell? ⟨b1, 1, none⟩ = some (.bool k1) ∧ w'.cell? ⟨b2, 0, none⟩ = some (.int .u64 n2) ∧ w'.cell? ⟨b2, 1, none⟩ = some (.bool k2) ∧ w'.cell? ⟨b3, 0, none⟩ = some (.int .u64 n3) ∧ w'.cell? ⟨b3, 1, none⟩ = some (.bool k3) ∧ Kept w w')
    (first | (exact tell_drew S0) | assumption | (refine tell_alloc _ ?_; assumption) | (refine tell_later ?_ (by assumption); assumption))
    (first
    | (go_at_call 24; refine (A7.out _).mono ?_; rintro e w' ⟨rfl, rfl⟩)
    | (go_at_call 29; refine (end_any _ _ _).mono ?_; rintro e wz ⟨rfl, hbz⟩)
    | (go_at_call 18; refine (A8.out _ _ (by simp)).mono ?_; rintro e w' ⟨rfl, rfl⟩))
  go_wp2
  go_ret
  refine ⟨rfl, ?_⟩
  show Kept w _
  exact (show _ ∧ _ ∧ _ ∧ _ ∧ _ ∧ _ ∧ Kept w _ from by assumption).2.2.2.2.2.2
end Go.Proofs.Ytilhgpjaadeplaa
