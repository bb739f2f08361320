/- MarksTells: the walk. -/
import Derived.Test.YthmngibmpkgjkaaDoorLooks
namespace Go.Proofs.YthmngibmpkgjkaaDoor
open Go.RowKit
set_option linter.unusedVariables false
set_option linter.unusedSimpArgs false

set_option maxRecDepth 100000 in
set_option maxHeartbeats 4000000 in
theorem tells_walk (v : Value) (zs : List Int) (m : Int) (w : World) (hT : Tab w) (n0 : Nums w v zs) (i0 : InI zs) (hm : -9223372036854775808 ≤ m ∧ m ≤ 9223372036854775807) :
    Calls Tryd.prog 3 #[v, .int .i64 m] w fun e w' => e = .returned (.bool true) ∧ Below w.heap.size w w' := by
  have K0 : KeptT w w := KeptT.refl hT
  have N0 := Lib.hid n0
  have O0 := Lib.hid (fun v w hv => of_nums v (someL zs) w hv (someL_in zs i0))
  have P0 := Lib.hid (fun v w hv => rOf_any v (someL zs) w hv)
  generalize insL noneF (someL zs) = f at *
  have a1 := and1023 m
  have LK := Lib.hid (fun r w hT hr => looks_any f r w hT hr)
  have A1 := Lib.hid (fun r w hT hr => asked_any f r m w hT hr hm.1 hm.2)
  have A2 := Lib.hid (fun r w hT hr => asked_any f r (m % 1024) w hT hr (by omega) (by omega))
  clear n0 i0 hm hT
  go_enter Tryd.func3, Tryd.ntmps3
  go_upto_region 4 with (first
    | (go_at_call 9; refine (awake_any _ K0.2).mono ?_; rintro e w1 ⟨rfl, h1⟩; have K1 := K0.step h1; have N1 := Lib.hid (N0.out.later h1); clear h1)
    | (go_at_call 11; (with_reducible refine (some_nums v _ _ N1.out).mono ?_); rintro e w2 ⟨x2, rfl, m2, h2⟩; have M2 := Lib.hid m2; have K2 := K1.step h2; have N2 := Lib.hid (N1.out.later h2); clear h2 m2)
    | (go_at_call 10; (with_reducible refine (O0.out _ _ M2.out).mono ?_); rintro e w3 ⟨rfl, h3⟩; have K3 := K2.step h3; have N3 := Lib.hid (N2.out.later h3); clear h3)
    | ((with_reducible show wpList _ _ _ (⟨none, Op.store 26 (.tmp 6) _, _, _, _, _⟩ :: _) _ _); refine wpList_store_mid rfl 26 _ _ rfl _ _ (cellsL f).toArray rfl rfl ((zero_box _).there _) (info26' _) (cellsL_all _) ?_; rw [alloc_stored]; have N3a := Lib.hid (N3.out.later ((Below.refl _ _).alloc (Nat.le_refl _) (.cells (cellsL f).toArray 26))); obtain ⟨W4, hW4, B4, K4⟩ := held_new K3 f; rw [hW4] at N3a ⊢; clear hW4)
    | (go_at_call 11; (with_reducible refine (some_nums v _ _ N3a.out).mono ?_); rintro e w5 ⟨x5, rfl, m5, h5⟩; have M5 := Lib.hid m5; have K5 := K4.step h5; have B5 := B4.later h5; clear h5 m5)
    | (go_at_call 12; (with_reducible refine (P0.out _ _ M5.out).mono ?_); rintro e w6 ⟨r, rfl, hr6, R6, h6⟩; have K6 := K5.step h6; have B6 := B5.later h6; clear h6))
  (try simp only [Act.put, List.setIfInBounds_toArray, List.set_cons_zero, List.set_cons_succ])
  clear K0 N0 O0 P0 K1 N1 M2 K2 N2 K3 N3 N3a B4 K4 M5 K5 B5 hr6
  generalize w3.heap.size = b6 at *
  go_wp2_with (first
    | ((with_reducible show wpList _ _ _ (⟨some 17, _, _, _, _, _⟩ :: _) _ _); refine wpList_load_g rfl _ rfl _ _ rfl B6 ?_)
    | (go_at_call 13; refine (LK.out _ _ K6.2 R6).mono ?_; rintro e w7 ⟨rfl, h7⟩; have K7 := K6.step h7; have T7 : Tab w7 := K7.2; have B7 := B6.later h7; have R7 := R6.later h7; clear h7)
    | ((with_reducible show wpList _ _ _ (⟨some 22, _, _, _, _, _⟩ :: _) _ _); refine wpList_load_g rfl _ rfl _ _ rfl B7 ?_)
    | (go_at_call 14; (with_reducible refine (A1.out _ _ T7 R7).mono ?_); rintro e w8 ⟨rfl, h8⟩; have K8 := K7.step h8; have T8 : Tab w8 := K8.2; have B8 := B7.later h8; have R8 := R7.later h8; clear h8)
    | ((with_reducible show wpList _ _ _ (⟨some 28, _, _, _, _, _⟩ :: _) _ _); refine wpList_load_g rfl _ rfl _ _ rfl B8 ?_)
    | (go_at_call 14; (with_reducible refine (A2.out _ _ T8 R8).mono ?_); rintro e w9 ⟨rfl, h9⟩; have K9 := K8.step h9; clear h9))
  go_ret
  exact ⟨rfl, K9.1⟩
end Go.Proofs.YthmngibmpkgjkaaDoor
