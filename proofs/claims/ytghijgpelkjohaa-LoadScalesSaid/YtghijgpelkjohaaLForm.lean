/- Fractions: what makes them, by the program and by the document. -/
import Derived.Test.YtghijgpelkjohaaLPure
namespace Go.Proofs.Ytghijgpelkjohaa
open Go.RowKit
set_option linter.unusedVariables false
set_option linter.unusedSimpArgs false

/-- A block that holds a fraction. -/
structure FB (w : World) (b : Nat) (x : Fr) : Prop where
  is : w.heap[b]? = some (.cells #[.int .u64 x.n, .int .u64 x.d] 32 (0, 0))
theorem FB.lt {W : World} {b : Nat} {x : Fr} (h : FB W b x) : b < W.heap.size := (Array.getElem?_eq_some_iff.1 h.is).1
theorem FB.c0 {W : World} {b : Nat} {x : Fr} (h : FB W b x) : W.cell? ⟨b, 0, none⟩ = some (.int .u64 x.n) := by rw [cell_of_row W b 0 _ _ _ h.is]; rfl
theorem FB.c1 {W : World} {b : Nat} {x : Fr} (h : FB W b x) : W.cell? ⟨b, 1, none⟩ = some (.int .u64 x.d) := by rw [cell_of_row W b 1 _ _ _ h.is]; rfl
theorem FB.frozen {W : World} {b : Nat} {x : Fr} (h : FB W b x) (i : Nat) : W.frozen? ⟨b, i, none⟩ = false := frozen_of_row W b i _ _ h.is
theorem FB.later {W W' : World} {b : Nat} {x : Fr} (h : FB W b x) (hb : Below W.heap.size W W') : FB W' b x := ⟨(hb.block b h.lt).trans h.is⟩
theorem FB.new (w : World) (x : Fr) : FB (w.alloc (.cells #[.int .u64 x.n, .int .u64 x.d] 32)) w.heap.size x := ⟨heap_alloc_new w _⟩
theorem FB.new2 (w : World) (o : Obj) (x : Fr) : FB ((w.alloc o).alloc (.cells #[.int .u64 x.n, .int .u64 x.d] 32)) (w.heap.size + 1) x := by
  have := FB.new (w.alloc o) x
  rwa [World.size_alloc] at this
theorem FB.set2 {W : World} {b : Nat} {x : Fr} (h : FB W b x) (y : Fr) : FB ((W.setCell ⟨b, 0, none⟩ (.int .u64 y.n)).setCell ⟨b, 1, none⟩ (.int .u64 y.d)) b y :=
  ⟨heap_setCell_same _ b 1 _ _ (.int .u64 y.d) (heap_setCell_same _ b 0 _ _ (.int .u64 y.n) h.is)⟩
theorem below_set2 {B b : Nat} {W W' : World} (h : Below B W W') (hb : B ≤ b) (u v : Value) : Below B W ((W'.setCell ⟨b, 0, none⟩ u).setCell ⟨b, 1, none⟩ v) :=
  (h.setCell (p := ⟨b, 0, none⟩) hb u).setCell (p := ⟨b, 1, none⟩) hb v
theorem infoFr : (Try.prog.info? 32).map (·.size) = some 2 := by kernel_rfl
theorem results_fr {fn : Func} {p : Tmp} (h : fn.results = #[.cell p 32]) (tmps : Array Value) (w : World) (b : Nat) (x : Fr) (hp : tmps.getD p undef = .pointer (some ⟨b, 0, none⟩)) (hb : FB w b x) :
    (results fn tmps).run Try.prog w = .ok (frV x) w :=
  results_cell_row h tmps w b _ _ _ _ hp hb.is Try.underlying32 rfl infoFr

set_option maxRecDepth 100000 in
set_option maxHeartbeats 2000000 in
theorem form_any (a b : Int) (ha : U a) (hb : U b) (hp : 0 < b) (w : World) :
    Calls Try.prog 39 #[.int .u64 a, .int .u64 b] w fun e w' => e = .returned (frV (formF a b)) ∧ Below w.heap.size w w' := by
  obtain ⟨a0, a1⟩ := ha
  obtain ⟨b0, b1⟩ := hb
  have HG := Lib.hid (fun W => gcd_any a b a0 a1 b0 b1 W)
  have hg := gcdI_le a b a0 b0 (by omega)
  unfold formF
  generalize gcdI a b = g at *
  have hgp : 0 < g := by omega
  have hgz : (g == 0) = false := by simp; omega
  have hgn : g ≠ 0 := by omega
  clear hg
  go_enter Try.func39, Try.ntmps39
  go_wp2_with (go_at_call 45; refine (HG.out _).mono ?_; rintro e w' ⟨rfl, rfl⟩)
  go_region
  go_wp2_with (fail)
  exact bodyPost_ret (results_fr rfl _ _ w.heap.size ⟨a / g, b / g⟩ rfl ((FB.new w _).later (below_drew _))) rfl ⟨rfl, ((Below.refl _ _).alloc (Nat.le_refl _) _).trans ((below_drew _).mono (by simp))⟩
set_option maxRecDepth 100000 in
set_option maxHeartbeats 2000000 in
theorem rform_any (a b : Int) (ha : U a) (hb : U b) (hp : 0 < b) (w : World) :
    Calls Try.prog 42 #[.int .u64 a, .int .u64 b] w fun e w' => e = .returned (frV (formF a b)) ∧ Below w.heap.size w w' := by
  obtain ⟨a0, a1⟩ := ha
  obtain ⟨b0, b1⟩ := hb
  have HG := Lib.hid (fun W => refGcd_any a b a0 a1 b0 b1 W)
  have hg := gcdI_le a b a0 b0 (by omega)
  unfold formF
  generalize gcdI a b = g at *
  have hgp : 0 < g := by omega
  have hgz : (g == 0) = false := by simp; omega
  have hgn : g ≠ 0 := by omega
  clear hg
  go_enter Try.func42, Try.ntmps42
  go_wp2_with (go_at_call 49; refine (HG.out _).mono ?_; rintro e w' ⟨rfl, rfl⟩)
  go_region
  go_wp2_with (fail)
  exact bodyPost_ret (results_fr rfl _ _ w.heap.size ⟨a / g, b / g⟩ rfl ((FB.new w _).later (below_drew _))) rfl ⟨rfl, ((Below.refl _ _).alloc (Nat.le_refl _) _).trans ((below_drew _).mono (by simp))⟩

theorem boxT (w : World) (x : Ts) : Below w.heap.size w (w.alloc (.cells #[.string x.n, .int .i64 x.c, .int .i64 x.t, .int .i64 x.d, .int .i64 x.j, .int .i64 x.q, .int .i64 x.p] 40)) := (Below.refl _ _).alloc (Nat.le_refl _) _
set_option maxRecDepth 100000 in
set_option maxHeartbeats 4000000 in
theorem of_any (x : Ts) (hx : TsW x) (w : World) :
    Calls Try.prog 18 #[tsV x] w fun e w' => e = .returned (frV (ofF x.c x.t)) ∧ Below w.heap.size w w' := by
  obtain ⟨c0, c1⟩ := hx.c
  obtain ⟨t0, t1⟩ := hx.t
  have b0 := boxT w x
  have KF := Lib.hid (fun (h1 : 0 ≤ x.c) (h2 : 1 ≤ x.t) W => form_any x.c x.t ⟨h1, by omega⟩ ⟨by omega, by omega⟩ (by omega) W)
  have hno : x.c < 0 ∨ x.t < 1 → ofF x.c x.t = ⟨0, 0⟩ := fun h => by unfold ofF; rw [if_pos h]
  have hyes : ¬ (x.c < 0 ∨ x.t < 1) → ofF x.c x.t = formF x.c x.t := fun h => by unfold ofF; rw [if_neg h]
  obtain ⟨n, c, t, d, j, q, p⟩ := x
  simp only at *
  by_cases h1 : c < 0
  · rw [hno (.inl h1)]
    have t1' : decide (c < 0) = true := decide_eq_true h1
    clear hno hyes KF
    go_enter Try.func18, Try.ntmps18
    go_wp2
    exact bodyPost_ret (results_fr rfl _ _ (w.heap.size + 1) ⟨0, 0⟩ rfl (FB.new2 _ _ ⟨0, 0⟩)) rfl ⟨rfl, by go_grown⟩
  · by_cases h2 : t < 1
    · rw [hno (.inr h2)]
      have t1' : decide (c < 0) = false := decide_eq_false h1
      have t2' : decide (t < 1) = true := decide_eq_true h2
      clear hno hyes KF
      go_enter Try.func18, Try.ntmps18
      go_wp2
      exact bodyPost_ret (results_fr rfl _ _ (w.heap.size + 1) ⟨0, 0⟩ rfl (FB.new2 _ _ ⟨0, 0⟩)) rfl ⟨rfl, by go_grown⟩
    · rw [hyes (by omega)]
      have t1' : decide (c < 0) = false := decide_eq_false h1
      have t2' : decide (t < 1) = false := decide_eq_false h2
      have K := Lib.hid (KF.out (by omega) (by omega))
      have h1' : 0 ≤ c := by omega
      have h2' : 0 ≤ t := by omega
      clear hno hyes KF
      generalize formF c t = f at *
      go_enter Try.func18, Try.ntmps18
      go_wp2_with (go_at_call 39; refine (K.out _).mono ?_; rintro e w' ⟨rfl, hbel⟩; have HF := Lib.hid ((FB.new2 w _ ⟨0, 0⟩).later hbel); have c0 := HF.out.c0; have c1 := HF.out.c1; have fz := HF.out.frozen)
      exact bodyPost_ret (results_fr rfl _ _ (w.heap.size + 1) f rfl (HF.out.set2 f)) rfl ⟨rfl, below_set2 ((b0.alloc (by simp) _).trans (hbel.mono (by simp; omega))) (by omega) _ _⟩
set_option maxRecDepth 100000 in
set_option maxHeartbeats 4000000 in
theorem rof_any (x : Ts) (hx : TsW x) (w : World) :
    Calls Try.prog 23 #[tsV x] w fun e w' => e = .returned (frV (ofF x.c x.t)) ∧ Below w.heap.size w w' := by
  obtain ⟨c0, c1⟩ := hx.c
  obtain ⟨t0, t1⟩ := hx.t
  have b0 := boxT w x
  have KF := Lib.hid (fun (h1 : 0 ≤ x.c) (h2 : 1 ≤ x.t) W => rform_any x.c x.t ⟨h1, by omega⟩ ⟨by omega, by omega⟩ (by omega) W)
  have hno : x.c < 0 ∨ x.t < 1 → ofF x.c x.t = ⟨0, 0⟩ := fun h => by unfold ofF; rw [if_pos h]
  have hyes : ¬ (x.c < 0 ∨ x.t < 1) → ofF x.c x.t = formF x.c x.t := fun h => by unfold ofF; rw [if_neg h]
  obtain ⟨n, c, t, d, j, q, p⟩ := x
  simp only at *
  by_cases h1 : c < 0
  · rw [hno (.inl h1)]
    have t1' : decide (c < 0) = true := decide_eq_true h1
    clear hno hyes KF
    go_enter Try.func23, Try.ntmps23
    go_wp2
    exact bodyPost_ret (results_fr rfl _ _ (w.heap.size + 1) ⟨0, 0⟩ rfl (FB.new2 _ _ ⟨0, 0⟩)) rfl ⟨rfl, by go_grown⟩
  · by_cases h2 : t < 1
    · rw [hno (.inr h2)]
      have t1' : decide (c < 0) = false := decide_eq_false h1
      have t2' : decide (t < 1) = true := decide_eq_true h2
      clear hno hyes KF
      go_enter Try.func23, Try.ntmps23
      go_wp2
      exact bodyPost_ret (results_fr rfl _ _ (w.heap.size + 1) ⟨0, 0⟩ rfl (FB.new2 _ _ ⟨0, 0⟩)) rfl ⟨rfl, by go_grown⟩
    · rw [hyes (by omega)]
      have t1' : decide (c < 0) = false := decide_eq_false h1
      have t2' : decide (t < 1) = false := decide_eq_false h2
      have K := Lib.hid (KF.out (by omega) (by omega))
      have h1' : 0 ≤ c := by omega
      have h2' : 0 ≤ t := by omega
      clear hno hyes KF
      generalize formF c t = f at *
      go_enter Try.func23, Try.ntmps23
      go_wp2_with (go_at_call 42; refine (K.out _).mono ?_; rintro e w' ⟨rfl, hbel⟩; have HF := Lib.hid ((FB.new2 w _ ⟨0, 0⟩).later hbel); have c0 := HF.out.c0; have c1 := HF.out.c1; have fz := HF.out.frozen)
      exact bodyPost_ret (results_fr rfl _ _ (w.heap.size + 1) f rfl (HF.out.set2 f)) rfl ⟨rfl, below_set2 ((b0.alloc (by simp) _).trans (hbel.mono (by simp; omega))) (by omega) _ _⟩
end Go.Proofs.Ytghijgpelkjohaa
