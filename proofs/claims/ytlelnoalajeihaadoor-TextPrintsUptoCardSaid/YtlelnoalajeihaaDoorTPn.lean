/- TextPrints: the walk. -/
import Derived.Test.YtlelnoalajeihaaDoorSho
import Derived.Deep.RegionHeldLaw
import Derived.Deep.DrawnRows
namespace Go.Proofs.YtlelnoalajeihaaDoor
open Go.RowKit
set_option linter.unusedVariables false
set_option linter.unusedSimpArgs false
attribute [local go_sem ↓] Go.wp_at_zero Go.wp_at_succ

/-- The cells that are read, and what is new. -/
def T7 (w : World) (b o : Nat) (n : ByteArray) (c t d j q p : Int) (W : World) : Prop :=
  W.cell? ⟨b, o, none⟩ = some (.string n) ∧ W.cell? ⟨b, o + 1, none⟩ = some (.int .i64 c) ∧ W.cell? ⟨b, o + 2, none⟩ = some (.int .i64 t) ∧ W.cell? ⟨b, o + 3, none⟩ = some (.int .i64 d) ∧ W.cell? ⟨b, o + 4, none⟩ = some (.int .i64 j) ∧ W.cell? ⟨b, o + 5, none⟩ = some (.int .i64 q) ∧ W.cell? ⟨b, o + 6, none⟩ = some (.int .i64 p) ∧ Below w.heap.size w W ∧ b < W.heap.size
theorem T7.step {w W W' : World} {b o : Nat} {n : ByteArray} {c t d j q p : Int} (hB : Below W.heap.size W W') (h : T7 w b o n c t d j q p W) : T7 w b o n c t d j q p W' := by
  obtain ⟨h0, h1, h2, h3, h4, h5, h6, h7, h8⟩ := h
  have k := fun i => hB.cell (p := ⟨b, i, none⟩) h8
  exact ⟨(k _).trans h0, (k _).trans h1, (k _).trans h2, (k _).trans h3, (k _).trans h4, (k _).trans h5, (k _).trans h6, h7.trans (hB.mono h7.size), Nat.lt_of_lt_of_le h8 hB.size⟩
theorem T7.below {w W : World} {b o : Nat} {n : ByteArray} {c t d j q p : Int} (h : T7 w b o n c t d j q p W) : Below w.heap.size w W := h.2.2.2.2.2.2.2.1
theorem print_n (A : Option Addr) (cap : Nat) (l : List Ts) (n : Nat) (hn : l.length = n) (w : World) (hR : Row w A cap l) (hS : Longs l) (hl : (printS l).size ≤ 140737488355328) (htab : TI w) :
    Calls Tryd.prog 9 #[.slice A n cap] w fun e w' => e = .returned (.string (printS l)) ∧ Below w.heap.size w w' := by
  subst hn
  exact print_any A cap l w hR hS hl htab
theorem rprint_n (A : Option Addr) (cap : Nat) (l : List Ts) (n : Nat) (hn : l.length = n) (w : World) (hR : Row w A cap l) (hS : Longs l) (hl : n ≤ 6) :
    Calls Tryd.prog 10 #[.slice A n cap] w fun e w' => e = .returned (.string (printS l)) ∧ Below w.heap.size w w' := by
  subst hn
  exact rprint_long A cap l w hR hS (by omega)
theorem six_long {l : List Ts} (hS : Longs l) (h6 : l.length ≤ 6) : (printS l).size ≤ 140737488355328 := by
  have := printS_size2 hS l.length (Nat.le_refl _)
  rw [List.take_length] at this
  omega

set_option maxRecDepth 100000 in
set_option maxHeartbeats 4000000 in
theorem tprints_walk (A : Option Addr) (cap : Nat) (raw : List Ts) (A2 : Option Addr) (cap2 : Nat) (specs : List Sp) (turn : Int) (w : World) (hR : Row w A cap raw) (hS : SRow w A2 cap2 specs) (ht : in64 turn) (hT : TI w) (hL : Longs raw) :
    Calls Tryd.prog 3 #[.slice A raw.length cap, .slice A2 specs.length cap2, .int .i64 turn] w fun e w' => e = .returned (.bool true) ∧ Below w.heap.size w w' := by
  have hmx := hR.mx
  have hle := hR.le
  have SR := Lib.hid hS
  have HT := Lib.hid hT
  have HU := Lib.hid ht
  have AW : Hid (∀ (W : World), Calls Tryd.prog 7 #[] W (fun e w' => e = .returned (.bool true) ∧ Below W.heap.size W w')) := Lib.hid (fun W => awake5_any W)
  clear hS hT ht
  by_cases h6 : raw.length ≤ 6
  · have g6 : decide ((raw.length : Int) > 6) = false := decide_eq_false (by omega)
    obtain ⟨r0, hr0⟩ : ∃ r0, r0 = raw := ⟨_, rfl⟩
    have LR : Hid (Longs r0) := Lib.hid (by rw [hr0]; exact hL)
    have R0 : Hid (Row w A cap r0) := Lib.hid (by rw [hr0]; exact hR)
    have Z0 : Hid ((printS r0).size ≤ 140737488355328) := Lib.hid (six_long LR.out (by rw [hr0]; exact h6))
    obtain ⟨n, hn⟩ : ∃ n, raw.length = n := ⟨_, rfl⟩
    rw [hn] at h6 g6 hle ⊢
    have h6n : n ≤ 6 := h6
    rw [← hr0] at hn
    have hn := Lib.hid hn
    clear hr0 hR hL
    go_enter Tryd.func3, Tryd.ntmps3
    go_upto_region 5 with (first
      | (go_at_call 7; (with_reducible refine (AW.out _).mono ?_); rintro e w1 ⟨rfl, h1⟩; have B1 := Lib.hid h1; clear h1)
      | (go_at_call 8; (with_reducible refine (set_any 6 (by omega) (by omega) A2 cap2 specs _ _ (SR.out.later B1.out) HU.out).mono ?_); rintro e w3 ⟨A3, cap3, ts, rfl, hRt, hn1, hn6, -, hsf, -, h3⟩; have B3 := Lib.hid (B1.out.trans (h3.mono B1.out.size)); have R3 := Lib.hid hRt; have F3 := Lib.hid hsf; clear h3 hRt hsf))
    obtain ⟨b, o, x, rfl, hx, hxw, hbl, hT0⟩ := R3.out.get (k := 0) (by omega)
    rw [Nat.zero_mul, Nat.add_zero] at hT0
    have hlx := lon_of R3.out F3.out x (List.mem_of_getElem? hx)
    have zs : (printS ts).size ≤ 1800 := six_of (sho_of R3.out F3.out) (by omega)
    obtain ⟨xn, xc, xt, xd, xj, xq, xp⟩ := x
    have HC := Lib.hid (show T7 w3 b o xn xc xt xd xj xq xp w3.drew from ⟨hT0.c0, hT0.c1, hT0.c2, hT0.c3, hT0.c4, hT0.c5, hT0.c6, below_drew _, hT0.lt⟩)
    have P1 := Lib.hid (fun (W : World) (hS : (W.cell? ⟨b, o, none⟩ = some (.string xn) ∧ W.cell? ⟨b, o + 1, none⟩ = some (.int .i64 xc) ∧ W.cell? ⟨b, o + 2, none⟩ = some (.int .i64 xt) ∧ W.cell? ⟨b, o + 3, none⟩ = some (.int .i64 xd) ∧ W.cell? ⟨b, o + 4, none⟩ = some (.int .i64 xj) ∧ W.cell? ⟨b, o + 5, none⟩ = some (.int .i64 xq) ∧ W.cell? ⟨b, o + 6, none⟩ = some (.int .i64 xp) ∧ Below w3.heap.size w3 W ∧ b < W.heap.size)) => have hB := B3.out.trans ((T7.below (show T7 w3 b o xn xc xt xd xj xq xp W from hS)).mono B3.out.size); And.intro (print_n A cap r0 n hn.out W (R0.out.later hB) LR.out Z0.out (ti_later HT.out hB)) (rprint_n A cap r0 n hn.out W (R0.out.later hB) LR.out h6n))
    have P2 := Lib.hid (fun (W : World) (hS : (W.cell? ⟨b, o, none⟩ = some (.string xn) ∧ W.cell? ⟨b, o + 1, none⟩ = some (.int .i64 xc) ∧ W.cell? ⟨b, o + 2, none⟩ = some (.int .i64 xt) ∧ W.cell? ⟨b, o + 3, none⟩ = some (.int .i64 xd) ∧ W.cell? ⟨b, o + 4, none⟩ = some (.int .i64 xj) ∧ W.cell? ⟨b, o + 5, none⟩ = some (.int .i64 xq) ∧ W.cell? ⟨b, o + 6, none⟩ = some (.int .i64 xp) ∧ Below w3.heap.size w3 W ∧ b < W.heap.size)) => have hB := T7.below (show T7 w3 b o xn xc xt xd xj xq xp W from hS); And.intro (print_any _ cap3 ts W (R3.out.later hB) (lon_of R3.out F3.out) (by omega) (ti_later HT.out (B3.out.trans (hB.mono B3.out.size)))) (rprint_long _ cap3 ts W (R3.out.later hB) (lon_of R3.out F3.out) (by omega)))
    have P3 := fun (W : World) (hS : (W.cell? ⟨b, o, none⟩ = some (.string xn) ∧ W.cell? ⟨b, o + 1, none⟩ = some (.int .i64 xc) ∧ W.cell? ⟨b, o + 2, none⟩ = some (.int .i64 xt) ∧ W.cell? ⟨b, o + 3, none⟩ = some (.int .i64 xd) ∧ W.cell? ⟨b, o + 4, none⟩ = some (.int .i64 xj) ∧ W.cell? ⟨b, o + 5, none⟩ = some (.int .i64 xq) ∧ W.cell? ⟨b, o + 6, none⟩ = some (.int .i64 xp) ∧ Below w3.heap.size w3 W ∧ b < W.heap.size)) => have hB := B3.out.trans ((T7.below (show T7 w3 b o xn xc xt xd xj xq xp W from hS)).mono B3.out.size); And.intro (line_any ⟨xn, xc, xt, xd, xj, xq, xp⟩ W hlx.1 hlx.2 (Lib.tabBelow_of_tabIs (ti_later HT.out hB))) (rline_any ⟨xn, xc, xt, xd, xj, xq, xp⟩ W hlx.1 hlx.2)
    unfold tsV at P3
    generalize printS ts = s1 at *
    generalize printS r0 = s0 at *
    generalize lineS ⟨xn, xc, xt, xd, xj, xq, xp⟩ = s2 at *
    have P3 := Lib.hid P3
    have hn1' : (0 : Int) < (ts.length : Int) := by omega
    generalize ts.length = tn at *
    clear hT0 hlx zs hx hxw hbl
    go_region_held_law (fun W => W.cell? ⟨b, o, none⟩ = some (.string xn) ∧ W.cell? ⟨b, o + 1, none⟩ = some (.int .i64 xc) ∧ W.cell? ⟨b, o + 2, none⟩ = some (.int .i64 xt) ∧ W.cell? ⟨b, o + 3, none⟩ = some (.int .i64 xd) ∧ W.cell? ⟨b, o + 4, none⟩ = some (.int .i64 xj) ∧ W.cell? ⟨b, o + 5, none⟩ = some (.int .i64 xq) ∧ W.cell? ⟨b, o + 6, none⟩ = some (.int .i64 xp) ∧ Below w3.heap.size w3 W ∧ b < W.heap.size)
      (first | assumption | (exact HC.out) | (exact (T7.step (w := w3) (b := b) (o := o) (n := xn) (c := xc) (t := xt) (d := xd) (j := xj) (q := xq) (p := xp) hB (by assumption) : T7 w3 b o xn xc xt xd xj xq xp _)))
      (first
      | (go_at_call 9; (with_reducible refine (P1.out _ (by assumption)).1.mono ?_); rintro e W4 ⟨rfl, hB⟩)
      | (go_at_call 10; (with_reducible refine (P1.out _ (by assumption)).2.mono ?_); rintro e W4 ⟨rfl, hB⟩)
      | (go_at_call 9; (with_reducible refine (P2.out _ (by assumption)).1.mono ?_); rintro e W4 ⟨rfl, hB⟩)
      | (go_at_call 10; (with_reducible refine (P2.out _ (by assumption)).2.mono ?_); rintro e W4 ⟨rfl, hB⟩)
      | (go_at_call 11; (with_reducible refine (P3.out _ (by assumption)).1.mono ?_); rintro e W4 ⟨rfl, hB⟩)
      | (go_at_call 12; (with_reducible refine (P3.out _ (by assumption)).2.mono ?_); rintro e W4 ⟨rfl, hB⟩))
    all_goals (go_wp2; go_ret; exact ⟨rfl, B3.out.trans ((T7.below (show T7 w3 b o xn xc xt xd xj xq xp _ from by assumption)).mono B3.out.size)⟩)
  · have g6 : decide ((raw.length : Int) > 6) = true := decide_eq_true (by omega)
    obtain ⟨r0, hr0⟩ : ∃ r0, r0 = raw.take 6 := ⟨_, rfl⟩
    have LR : Hid (Longs r0) := Lib.hid (by rw [hr0]; exact fun x hx => hL x (List.mem_of_mem_take hx))
    have R0 : Hid (Row w A cap r0) := Lib.hid (by rw [hr0]; exact hR.take 6)
    have hn0 : r0.length = 6 := by rw [hr0, List.length_take]; omega
    have Z0 : Hid ((printS r0).size ≤ 140737488355328) := Lib.hid (six_long LR.out (by omega))
    obtain ⟨n, hn6⟩ : ∃ n : Nat, n = 6 := ⟨_, rfl⟩
    have h6n : n ≤ 6 := by omega
    have hn : Hid (r0.length = 6) := Lib.hid hn0
    obtain ⟨m, hm⟩ : ∃ m, raw.length = m := ⟨_, rfl⟩
    rw [hm] at h6 g6 hle ⊢
    have hc6 : (6 : Int) ≤ (cap : Int) := by omega
    have hm6 : (6 : Int) ≤ (m : Int) := by omega
    have hcz : cap ≠ 0 := by omega
    clear hm hR hr0 hL hn0
    go_enter Tryd.func3, Tryd.ntmps3
    go_upto_region 5 with (first
      | (go_at_call 7; (with_reducible refine (AW.out _).mono ?_); rintro e w1 ⟨rfl, h1⟩; have B1 := Lib.hid h1; clear h1)
      | (go_at_call 8; (with_reducible refine (set_any 6 (by omega) (by omega) A2 cap2 specs _ _ (SR.out.later B1.out) HU.out).mono ?_); rintro e w3 ⟨A3, cap3, ts, rfl, hRt, hn1, hn6, -, hsf, -, h3⟩; have B3 := Lib.hid (B1.out.trans (h3.mono B1.out.size)); have R3 := Lib.hid hRt; have F3 := Lib.hid hsf; clear h3 hRt hsf))
    obtain ⟨b, o, x, rfl, hx, hxw, hbl, hT0⟩ := R3.out.get (k := 0) (by omega)
    rw [Nat.zero_mul, Nat.add_zero] at hT0
    have hlx := lon_of R3.out F3.out x (List.mem_of_getElem? hx)
    have zs : (printS ts).size ≤ 1800 := six_of (sho_of R3.out F3.out) (by omega)
    obtain ⟨xn, xc, xt, xd, xj, xq, xp⟩ := x
    have HC := Lib.hid (show T7 w3 b o xn xc xt xd xj xq xp w3.drew from ⟨hT0.c0, hT0.c1, hT0.c2, hT0.c3, hT0.c4, hT0.c5, hT0.c6, below_drew _, hT0.lt⟩)
    have P1 := Lib.hid (fun (W : World) (hS : (W.cell? ⟨b, o, none⟩ = some (.string xn) ∧ W.cell? ⟨b, o + 1, none⟩ = some (.int .i64 xc) ∧ W.cell? ⟨b, o + 2, none⟩ = some (.int .i64 xt) ∧ W.cell? ⟨b, o + 3, none⟩ = some (.int .i64 xd) ∧ W.cell? ⟨b, o + 4, none⟩ = some (.int .i64 xj) ∧ W.cell? ⟨b, o + 5, none⟩ = some (.int .i64 xq) ∧ W.cell? ⟨b, o + 6, none⟩ = some (.int .i64 xp) ∧ Below w3.heap.size w3 W ∧ b < W.heap.size)) => have hB := B3.out.trans ((T7.below (show T7 w3 b o xn xc xt xd xj xq xp W from hS)).mono B3.out.size); And.intro (print_n A cap r0 6 hn.out W (R0.out.later hB) LR.out Z0.out (ti_later HT.out hB)) (rprint_n A cap r0 6 hn.out W (R0.out.later hB) LR.out (by omega)))
    have P2 := Lib.hid (fun (W : World) (hS : (W.cell? ⟨b, o, none⟩ = some (.string xn) ∧ W.cell? ⟨b, o + 1, none⟩ = some (.int .i64 xc) ∧ W.cell? ⟨b, o + 2, none⟩ = some (.int .i64 xt) ∧ W.cell? ⟨b, o + 3, none⟩ = some (.int .i64 xd) ∧ W.cell? ⟨b, o + 4, none⟩ = some (.int .i64 xj) ∧ W.cell? ⟨b, o + 5, none⟩ = some (.int .i64 xq) ∧ W.cell? ⟨b, o + 6, none⟩ = some (.int .i64 xp) ∧ Below w3.heap.size w3 W ∧ b < W.heap.size)) => have hB := T7.below (show T7 w3 b o xn xc xt xd xj xq xp W from hS); And.intro (print_any _ cap3 ts W (R3.out.later hB) (lon_of R3.out F3.out) (by omega) (ti_later HT.out (B3.out.trans (hB.mono B3.out.size)))) (rprint_long _ cap3 ts W (R3.out.later hB) (lon_of R3.out F3.out) (by omega)))
    have P3 := fun (W : World) (hS : (W.cell? ⟨b, o, none⟩ = some (.string xn) ∧ W.cell? ⟨b, o + 1, none⟩ = some (.int .i64 xc) ∧ W.cell? ⟨b, o + 2, none⟩ = some (.int .i64 xt) ∧ W.cell? ⟨b, o + 3, none⟩ = some (.int .i64 xd) ∧ W.cell? ⟨b, o + 4, none⟩ = some (.int .i64 xj) ∧ W.cell? ⟨b, o + 5, none⟩ = some (.int .i64 xq) ∧ W.cell? ⟨b, o + 6, none⟩ = some (.int .i64 xp) ∧ Below w3.heap.size w3 W ∧ b < W.heap.size)) => have hB := B3.out.trans ((T7.below (show T7 w3 b o xn xc xt xd xj xq xp W from hS)).mono B3.out.size); And.intro (line_any ⟨xn, xc, xt, xd, xj, xq, xp⟩ W hlx.1 hlx.2 (Lib.tabBelow_of_tabIs (ti_later HT.out hB))) (rline_any ⟨xn, xc, xt, xd, xj, xq, xp⟩ W hlx.1 hlx.2)
    unfold tsV at P3
    generalize printS ts = s1 at *
    generalize printS r0 = s0 at *
    generalize lineS ⟨xn, xc, xt, xd, xj, xq, xp⟩ = s2 at *
    have P3 := Lib.hid P3
    have hn1' : (0 : Int) < (ts.length : Int) := by omega
    generalize ts.length = tn at *
    clear hT0 hlx zs hx hxw hbl
    go_region_held_law (fun W => W.cell? ⟨b, o, none⟩ = some (.string xn) ∧ W.cell? ⟨b, o + 1, none⟩ = some (.int .i64 xc) ∧ W.cell? ⟨b, o + 2, none⟩ = some (.int .i64 xt) ∧ W.cell? ⟨b, o + 3, none⟩ = some (.int .i64 xd) ∧ W.cell? ⟨b, o + 4, none⟩ = some (.int .i64 xj) ∧ W.cell? ⟨b, o + 5, none⟩ = some (.int .i64 xq) ∧ W.cell? ⟨b, o + 6, none⟩ = some (.int .i64 xp) ∧ Below w3.heap.size w3 W ∧ b < W.heap.size)
      (first | assumption | (exact HC.out) | (exact (T7.step (w := w3) (b := b) (o := o) (n := xn) (c := xc) (t := xt) (d := xd) (j := xj) (q := xq) (p := xp) hB (by assumption) : T7 w3 b o xn xc xt xd xj xq xp _)))
      (first
      | (go_at_call 9; (with_reducible refine (P1.out _ (by assumption)).1.mono ?_); rintro e W4 ⟨rfl, hB⟩)
      | (go_at_call 10; (with_reducible refine (P1.out _ (by assumption)).2.mono ?_); rintro e W4 ⟨rfl, hB⟩)
      | (go_at_call 9; (with_reducible refine (P2.out _ (by assumption)).1.mono ?_); rintro e W4 ⟨rfl, hB⟩)
      | (go_at_call 10; (with_reducible refine (P2.out _ (by assumption)).2.mono ?_); rintro e W4 ⟨rfl, hB⟩)
      | (go_at_call 11; (with_reducible refine (P3.out _ (by assumption)).1.mono ?_); rintro e W4 ⟨rfl, hB⟩)
      | (go_at_call 12; (with_reducible refine (P3.out _ (by assumption)).2.mono ?_); rintro e W4 ⟨rfl, hB⟩))
    all_goals (go_wp2; go_ret; exact ⟨rfl, B3.out.trans ((T7.below (show T7 w3 b o xn xc xt xd xj xq xp _ from by assumption)).mono B3.out.size)⟩)
end Go.Proofs.YtlelnoalajeihaaDoor
