/- LoadCompares: the walk. -/
import Derived.Test.YtghijgpelkjohaaLCps
import Derived.Test.YtghijgpelkjohaaLAwk
namespace Go.Proofs.Ytghijgpelkjohaa
open Go.RowKit
set_option linter.unusedVariables false
set_option linter.unusedSimpArgs false
theorem FB.alloc {W : World} {b : Nat} {x : Fr} (h : FB W b x) (o : Obj) : FB (W.alloc o) b x := h.later ((Below.refl _ _).alloc (Nat.le_refl _) _)
structure FB3 (N bc : Nat) (x y z : Fr) (w0 W : World) : Prop where
  x : FB W N x
  y : FB W (N + 1) y
  z : FB W bc z
  b : Below N w0 W
theorem FB3.later {N bc : Nat} {x y z : Fr} {w0 W W' : World} (h : FB3 N bc x y z w0 W) (hb : Below W.heap.size W W') : FB3 N bc x y z w0 W' :=
  ⟨h.x.later hb, h.y.later hb, h.z.later hb, h.b.trans (hb.mono (by have := h.x.lt; omega))⟩
theorem FB3.cells {N bc : Nat} {x y z : Fr} {w0 W : World} (h : FB3 N bc x y z w0 W) : W.cell? ⟨N, 0, none⟩ = some (.int .u64 x.n) ∧ W.cell? ⟨N, 1, none⟩ = some (.int .u64 x.d) ∧ W.cell? ⟨N + 1, 0, none⟩ = some (.int .u64 y.n) ∧ W.cell? ⟨N + 1, 1, none⟩ = some (.int .u64 y.d) ∧ W.cell? ⟨bc, 0, none⟩ = some (.int .u64 z.n) ∧ W.cell? ⟨bc, 1, none⟩ = some (.int .u64 z.d) :=
  ⟨h.x.c0, h.x.c1, h.y.c0, h.y.c1, h.z.c0, h.z.c1⟩
theorem pow_pos3 (m : Nat) : (1 : Int) ≤ 2 ^ m := by
  have h : (0 : Int) < 2 ^ m := Int.pow_pos (by decide)
  omega
theorem shr_u {a : Int} (m : Nat) (h : U a) : U (a / 2 ^ m) := quo_u h (by have := pow_pos3 m; omega)
set_option maxRecDepth 100000 in
set_option maxHeartbeats 8000000 in
theorem lco_walk (an ad bn bd bt : Int) (w : World) (h0 : U an) (h1 : U ad) (h2 : U bn) (h3 : U bd) (i4 : in64 bt) :
    Calls Try.prog 4 #[frV ⟨an, ad⟩, frV ⟨bn, bd⟩, .int .i64 bt] w fun e w' => e = .returned (.bool true) ∧ Below w.heap.size w w' := by
  have KA := Lib.hid awake_any
  have hr := restI_bd bt 200 (by omega) (by omega)
  have KR := Lib.hid (fun W => rest_any bt 200 W i4 (by omega) (by omega))
  obtain ⟨r, hr0⟩ : ∃ r, restI bt 200 = r := ⟨_, rfl⟩
  rw [hr0] at KR hr
  clear hr0
  have F0 := Lib.hid ((FB.new w ⟨an, ad⟩).later ((Below.refl _ _).alloc (Nat.le_refl _) (.cells #[.int .u64 bn, .int .u64 bd] 32)))
  have F1 := Lib.hid (FB.new2 w (.cells #[.int .u64 an, .int .u64 ad] 32) ⟨bn, bd⟩)
  have B1 : Below w.heap.size w ((w.alloc (.cells #[.int .u64 an, .int .u64 ad] 32)).alloc (.cells #[.int .u64 bn, .int .u64 bd] 32)) := ((Below.refl _ _).alloc (Nat.le_refl _) _).alloc (by simp) _
  have B1 := Lib.hid B1
  go_enter Try.func4, Try.ntmps4
  go_upto_region 2 with (go_at_call 9; (with_reducible refine (KA.out _).mono ?_); rintro e w1 ⟨rfl, g1⟩; have G0 := Lib.hid (F0.out.later g1); have G1 := Lib.hid (F1.out.later g1); have HB := Lib.hid (B1.out.trans (g1.mono (by simp; omega))); have a0 := G0.out.c0; have a1 := G0.out.c1; have b0 := G1.out.c0; have b1 := G1.out.c1; clear g1)
  go_upto_region 4 with (fail)
  have hcn := shr_u (min (IntKind.u64.wrap (bits BinOp.and IntKind.i64 bt 63)).toNat 64) h0
  have hcd := shr_u (min (IntKind.u64.wrap (bits BinOp.and IntKind.i64 bt 63)).toNat 64) h1
  generalize an / 2 ^ min (IntKind.u64.wrap (bits BinOp.and IntKind.i64 bt 63)).toNat 64 = cn at *
  generalize ad / 2 ^ min (IntKind.u64.wrap (bits BinOp.and IntKind.i64 bt 63)).toNat 64 = cd at *
  obtain ⟨V, hV, P0, P1, P2, PB⟩ : ∃ V, w1.alloc (.cells #[.int .u64 cn, .int .u64 cd] 32) = V ∧ Hid (FB V w.heap.size ⟨an, ad⟩) ∧ Hid (FB V (w.heap.size + 1) ⟨bn, bd⟩) ∧ Hid (FB V w1.heap.size ⟨cn, cd⟩) ∧ Hid (Below w.heap.size w V) :=
    ⟨_, rfl, Lib.hid (G0.out.alloc _), Lib.hid (G1.out.alloc _), Lib.hid (FB.new _ ⟨cn, cd⟩), Lib.hid (HB.out.alloc HB.out.size _)⟩
  rw [hV]
  clear hV G0 G1 HB a0 a1 b0 b1 F0 F1 B1
  generalize w1.heap.size = bc at *
  generalize hN : w.heap.size = N at *
  have a0 := P0.out.c0
  have a1 := P0.out.c1
  have b0 := P1.out.c0
  have b1 := P1.out.c1
  go_upto_region 5 with (fail)
  go_upto_region 6 with (fail)
  go_upto_region 7 with (go_at_call 13; (with_reducible refine (KR.out _).mono ?_); rintro e w2 ⟨rfl, rfl⟩)
  have hnn := quo_u h0 (b := 256) (by omega)
  have hdd := quo_u h1 (b := 256) (by omega)
  have hn256 : an / 256 ≤ 72057594037927935 := by have := h0.2; omega
  have hd256 : ad / 256 ≤ 72057594037927935 := by have := h1.2; omega
  have hm1 : 1 ≤ 1 + r := by omega
  have hm2 : 1 + r ≤ 200 := by omega
  generalize an / 256 = nn at *
  generalize ad / 256 = dd at *
  generalize 1 + r = m at *
  obtain ⟨nn0, nn1⟩ := hnn
  obtain ⟨dd0, dd1⟩ := hdd
  have e1 : 0 ≤ nn * m := Int.mul_nonneg nn0 (by omega)
  have e2 : nn * m ≤ 18446744073709551615 := by
    have := Int.mul_le_mul hn256 hm2 (by omega) (by omega)
    omega
  have e3 : 0 ≤ dd * m := Int.mul_nonneg dd0 (by omega)
  have e4 : dd * m ≤ 18446744073709551615 := by
    have := Int.mul_le_mul hd256 hm2 (by omega) (by omega)
    omega
  have KC := fun W => compare_any ⟨nn, dd⟩ ⟨nn * m, dd * m⟩ ⟨⟨nn0, nn1⟩, ⟨dd0, dd1⟩⟩ ⟨⟨e1, e2⟩, ⟨e3, e4⟩⟩ W
  rw [cmpF_times nn dd m (by omega) dd0] at KC
  have KC := Lib.hid KC
  have K0 := Lib.hid (fun W => compares_any ⟨an, ad⟩ ⟨bn, bd⟩ ⟨h0, h1⟩ ⟨h2, h3⟩ W)
  have K1 := Lib.hid (fun W => compares_any ⟨cn, cd⟩ ⟨bn, bd⟩ ⟨hcn, hcd⟩ ⟨h2, h3⟩ W)
  have K2 := Lib.hid (fun W => compares_any ⟨an, ad⟩ ⟨cn, cd⟩ ⟨h0, h1⟩ ⟨hcn, hcd⟩ W)
  have K3 := Lib.hid (fun W => compares_any ⟨bn, bd⟩ ⟨bn, bd⟩ ⟨h2, h3⟩ ⟨h2, h3⟩ W)
  have HP : Hid (FB3 N bc ⟨an, ad⟩ ⟨bn, bd⟩ ⟨cn, cd⟩ w V) := Lib.hid ⟨P0.out, P1.out, P2.out, PB.out⟩
  clear h0 h1 h2 h3 hcn hcd hn256 hd256 hm1 hm2 i4 hr KR P0 P1 P2 PB a0 a1 b0 b1
  go_upto_region 8 with (go_at_call 14; (with_reducible refine (KC.out _).mono ?_); rintro e v ⟨rfl, h⟩; have HP := Lib.hid (HP.out.later h); obtain ⟨a0, a1, b0, b1, c0, c1⟩ := HP.out.cells; clear h)
  go_wp2_with (first
    | (go_at_call 15; (with_reducible refine (K0.out _).mono ?_); rintro e v ⟨rfl, h⟩; have HP := Lib.hid (HP.out.later h); obtain ⟨a0, a1, b0, b1, c0, c1⟩ := HP.out.cells; clear h)
    | (go_at_call 15; (with_reducible refine (K1.out _).mono ?_); rintro e v ⟨rfl, h⟩; have HP := Lib.hid (HP.out.later h); obtain ⟨a0, a1, b0, b1, c0, c1⟩ := HP.out.cells; clear h)
    | (go_at_call 15; (with_reducible refine (K2.out _).mono ?_); rintro e v ⟨rfl, h⟩; have HP := Lib.hid (HP.out.later h); obtain ⟨a0, a1, b0, b1, c0, c1⟩ := HP.out.cells; clear h)
    | (go_at_call 15; (with_reducible refine (K3.out _).mono ?_); rintro e v ⟨rfl, h⟩; have HP := Lib.hid (HP.out.later h); obtain ⟨a0, a1, b0, b1, c0, c1⟩ := HP.out.cells; clear h)
    | fail)
  go_ret
  exact ⟨rfl, by first | exact HP.out.b | (rw [hN]; exact HP.out.b)⟩
end Go.Proofs.Ytghijgpelkjohaa
