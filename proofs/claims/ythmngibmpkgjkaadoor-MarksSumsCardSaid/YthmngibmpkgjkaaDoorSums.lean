/- MarksSums: plain facts, and the walk. -/
import Derived.Test.YthmngibmpkgjkaaDoorSome
import Derived.Test.YthmngibmpkgjkaaDoorLawBelow
import Derived.Deep.CutBlock
import Derived.Test.YthmngibmpkgjkaaDoorEq
namespace Go.Proofs.YthmngibmpkgjkaaDoor
open Go.RowKit
set_option linter.unusedVariables false
set_option linter.unusedSimpArgs false

theorem or_minus (S T : Nat → Bool) : orF (minusF S T) T = orF S T := by funext k; simp only [orF, minusF]; cases S k <;> cases T k <;> rfl
theorem or_comm (S T : Nat → Bool) : orF T S = orF S T := by funext k; simp only [orF]; cases S k <;> cases T k <;> rfl
theorem minus_self (S : Nat → Bool) : minusF S S = noneF := by funext k; simp only [minusF, noneF]; cases S k <;> rfl
theorem both_comm (S T : Nat → Bool) : minusF T (minusF T S) = minusF S (minusF S T) := by funext k; simp only [minusF]; cases S k <;> cases T k <;> rfl
theorem len_sum (S T : Nat → Bool) : cnt (orF S T) 16 + cnt (minusF S (minusF S T)) 16 = cnt S 16 + cnt T 16 := by
  simp only [cnt_all, nums, numsIn]
  generalize List.range' 0 1024 = l
  induction l with
  | nil => rfl
  | cons a l ih =>
    simp only [List.filter_cons, orF, minusF] at *
    by_cases hs : S a = true <;> by_cases ht : T a = true <;> simp [hs, ht] <;> omega

/-- What Set's Or and Minus and Len answer at two sets. -/
structure Ans (S T U D D' B : Nat → Bool) (nu nb ns nt : Nat) : Prop where
  c1 : ∀ w, Calls Tryd.prog 18 #[setV S, setV T] w fun e w' => e = .returned (setV U) ∧ Below w.heap.size w w'
  c2 : ∀ w, Calls Tryd.prog 21 #[setV U] w fun e w' => e = .returned (.int .i64 (nu : Int)) ∧ Below w.heap.size w w'
  c3 : ∀ w, Calls Tryd.prog 21 #[setV B] w fun e w' => e = .returned (.int .i64 (nb : Int)) ∧ Below w.heap.size w w'
  c4 : ∀ w, Calls Tryd.prog 21 #[setV S] w fun e w' => e = .returned (.int .i64 (ns : Int)) ∧ Below w.heap.size w w'
  c5 : ∀ w, Calls Tryd.prog 21 #[setV T] w fun e w' => e = .returned (.int .i64 (nt : Int)) ∧ Below w.heap.size w w'
  c6 : ∀ w, Calls Tryd.prog 19 #[setV S, setV T] w fun e w' => e = .returned (setV D) ∧ Below w.heap.size w w'
  c7 : ∀ w, Calls Tryd.prog 18 #[setV D, setV T] w fun e w' => e = .returned (setV U) ∧ Below w.heap.size w w'
  c8 : ∀ w, Calls Tryd.prog 18 #[setV T, setV S] w fun e w' => e = .returned (setV U) ∧ Below w.heap.size w w'
  c9 : ∀ w, Calls Tryd.prog 19 #[setV S, setV S] w fun e w' => e = .returned (setV noneF) ∧ Below w.heap.size w w'
  c10 : ∀ w, Calls Tryd.prog 19 #[setV T, setV S] w fun e w' => e = .returned (setV D') ∧ Below w.heap.size w w'
  c11 : ∀ w, Calls Tryd.prog 19 #[setV T, setV D'] w fun e w' => e = .returned (setV B) ∧ Below w.heap.size w w'
  c12 : ∀ w, Calls Tryd.prog 19 #[setV S, setV D] w fun e w' => e = .returned (setV B) ∧ Below w.heap.size w w'
  sum : nu + nb = ns + nt
  b1 : nu ≤ 1024
  b2 : nb ≤ 1024
  b3 : ns ≤ 1024
  b4 : nt ≤ 1024
theorem ans (S T : Nat → Bool) : Ans S T (orF S T) (minusF S T) (minusF T S) (minusF S (minusF S T)) (cnt (orF S T) 16) (cnt (minusF S (minusF S T)) 16) (cnt S 16) (cnt T 16) where
  c1 := or_any S T
  c2 := len_any _
  c3 := len_any _
  c4 := len_any _
  c5 := len_any _
  c6 := minus_any S T
  c7 := by have := or_any (minusF S T) T; rwa [or_minus] at this
  c8 := by have := or_any T S; rwa [or_comm] at this
  c9 := by have := minus_any S S; rwa [minus_self] at this
  c10 := minus_any T S
  c11 := by have := minus_any T (minusF T S); rwa [both_comm] at this
  c12 := minus_any S (minusF S T)
  sum := len_sum S T
  b1 := cnt_le _ 16
  b2 := cnt_le _ 16
  b3 := cnt_le _ 16
  b4 := cnt_le _ 16

theorem two_keep {w W w1 : World} {b6 b7 : Nat} {s t : List Value} (h : W.rangeAt b6 0 s ∧ W.rangeAt b7 0 t ∧ KeptT w W) (hb : Below W.heap.size W w1) : w1.rangeAt b6 0 s ∧ w1.rangeAt b7 0 t ∧ KeptT w w1 :=
  ⟨range_step h.1 hb, range_step h.2.1 hb, h.2.2.step hb⟩

theorem two_drew {w W : World} {b6 b7 : Nat} {s t : List Value} (h : W.rangeAt b6 0 s ∧ W.rangeAt b7 0 t ∧ KeptT w W) : W.drew.rangeAt b6 0 s ∧ W.drew.rangeAt b7 0 t ∧ KeptT w W.drew := two_keep h (below_drew W)
theorem two_alloc {w W : World} {b6 b7 : Nat} {s t : List Value} (o : Obj) (h : W.rangeAt b6 0 s ∧ W.rangeAt b7 0 t ∧ KeptT w W) : (W.alloc o).rangeAt b6 0 s ∧ (W.alloc o).rangeAt b7 0 t ∧ KeptT w (W.alloc o) := two_keep h ((Below.refl _ _).alloc (Nat.le_refl _) o)
theorem two_store {w W : World} {b6 b7 b : Nat} {s t : List Value} (h : W.rangeAt b6 0 s ∧ W.rangeAt b7 0 t ∧ KeptT w W) (zb : Box W b noneF) (g : Nat → Bool) (h6 : b6 < b) (h7 : b7 < b) (hw : w.heap.size ≤ b) :
    (W.setCells b 0 (cellsL g)).rangeAt b6 0 s ∧ (W.setCells b 0 (cellsL g)).rangeAt b7 0 t ∧ KeptT w (W.setCells b 0 (cellsL g)) := by
  refine ⟨World.rangeAt_setCells_apart h.1 _ _ _ (.inl (by omega)), World.rangeAt_setCells_apart h.2.1 _ _ _ (.inl (by omega)), below_setCells h.2.2.1 zb g hw, ?_⟩
  intro i v hv
  have hp := h.2.2.1.size
  by_cases h0 : 0 < b
  · have hb : Below b W (W.setCells b 0 (cellsL g)) := below_setCells (Below.refl _ _) zb g (Nat.le_refl _)
    rw [hb.cell (p := ⟨0, i, none⟩) h0]; exact h.2.2.2 i v hv
  · omega
theorem new_there (w : World) (g : Nat → Bool) : (w.alloc (.cells #[.int .u64 0, .int .u64 0, .int .u64 0, .int .u64 0, .int .u64 0, .int .u64 0, .int .u64 0, .int .u64 0, .int .u64 0, .int .u64 0, .int .u64 0, .int .u64 0, .int .u64 0, .int .u64 0, .int .u64 0, .int .u64 0] 26)).there w.heap.size 0 (cellsL g).toArray.size := (zero_box w).there g

theorem zero_agg : Value.agg #[.int .u64 0, .int .u64 0, .int .u64 0, .int .u64 0, .int .u64 0, .int .u64 0, .int .u64 0, .int .u64 0, .int .u64 0, .int .u64 0, .int .u64 0, .int .u64 0, .int .u64 0, .int .u64 0, .int .u64 0, .int .u64 0] = setV noneF := by rw [setV, cellsL_none]

/-- The worlds of the law's last test. -/
def ThreeC (w : World) (b6 b7 b8 : Nat) (S T B : Nat → Bool) (W : World) : Prop := W.rangeAt b6 0 (cellsL S) ∧ W.rangeAt b7 0 (cellsL T) ∧ W.rangeAt b8 0 (cellsL B) ∧ KeptT w W
theorem cl_step {w0 : World} {b6 b7 b8 : Nat} {S T B : Nat → Bool} (w w' : World) (h : ThreeC w0 b6 b7 b8 S T B w) (hb : Below w.heap.size w w') : ThreeC w0 b6 b7 b8 S T B w' :=
  ⟨range_step h.1 hb, range_step h.2.1 hb, range_step h.2.2.1 hb, h.2.2.2.step hb⟩

/-- The set that the law makes of a row. -/
def setOf (zs : List Int) : Nat → Bool := insL noneF (someL zs)
theorem of_some (v : Value) (zs : List Int) (w : World) (hv : Nums w v (someL zs)) (hz : InI zs) : Calls Tryd.prog 10 #[v] w fun e w' => e = .returned (setV (setOf zs)) ∧ Below w.heap.size w w' :=
  of_nums v (someL zs) w hv (someL_in zs hz)

set_option maxRecDepth 100000 in
set_option maxHeartbeats 4000000 in
theorem sums_walk (v0 v1 : Value) (z0 z1 : List Int) (w : World) (hT : Tab w) (n0 : Nums w v0 z0) (n1 : Nums w v1 z1) (i0 : InI z0) (i1 : InI z1) :
    Calls Tryd.prog 6 #[v0, v1] w fun e w' => e = .returned (.bool true) ∧ Below w.heap.size w w' := by
  have O0 := Lib.hid (fun v w hv => of_some v z0 w hv i0)
  have O1 := Lib.hid (fun v w hv => of_some v z1 w hv i1)
  have A := Lib.hid (ans (setOf z0) (setOf z1))
  have hu : Tryd.prog.underlying 26 = some _ := Tryd.underlying26
  have hi0 := info26 (setOf z0)
  have hi1 := info26 (setOf z1)
  generalize setOf z0 = S at *
  generalize setOf z1 = T at *
  generalize orF S T = U at *
  generalize minusF S (minusF S T) = B at *
  generalize minusF S T = D at *
  generalize minusF T S = D' at *
  generalize cnt U 16 = nu at *
  generalize cnt B 16 = nb at *
  generalize cnt S 16 = ns at *
  generalize cnt T 16 = nt at *
  have hib := info26 B
  have K0 : KeptT w w := KeptT.refl hT
  have N0 := Lib.hid n0
  have N1 := Lib.hid n1
  clear n0 n1 i0 i1
  go_enter Tryd.func6, Tryd.ntmps6
  go_upto_region 4 with (first
    | (go_at_call 9; refine (awake_any _ hT).mono ?_; rintro e w1 ⟨rfl, h1⟩; have K1 := K0.step h1; have N0' := Lib.hid (N0.out.later h1); have N1' := Lib.hid (N1.out.later h1); clear h1)
    | (go_at_call 11; (with_reducible refine (some_nums v0 _ _ N0'.out).mono ?_); rintro e w2 ⟨x2, rfl, m2, h2⟩; have M2 := Lib.hid m2; have K2 := K1.step h2; have N1'' := Lib.hid (N1'.out.later h2); clear h2 m2)
    | (go_at_call 10; (with_reducible refine (O0.out _ _ M2.out).mono ?_); rintro e w3 ⟨rfl, h3⟩; have K3 := K2.step h3; have N1x := Lib.hid (N1''.out.later h3); clear h3)
    | ((with_reducible show wpList _ _ _ (⟨none, Op.store 26 (.tmp 6) _, _, _, _, _⟩ :: _) _ _); refine wpList_store_mid rfl 26 _ _ rfl _ _ (cellsL S).toArray rfl rfl ((zero_box _).there _) (info26' _) (cellsL_all _) ?_; rw [alloc_stored]; have N1y := Lib.hid (N1x.out.later ((Below.refl _ _).alloc (Nat.le_refl _) (.cells (cellsL S).toArray 26))); obtain ⟨W4, hW4, B4, K4⟩ := held_new K3 S; rw [hW4] at N1y ⊢; clear hW4)
    | (go_at_call 11; (with_reducible refine (some_nums v1 _ _ N1y.out).mono ?_); rintro e w5 ⟨x5, rfl, m5, h5⟩; have M5 := Lib.hid m5; have K5 := K4.step h5; have B5 := B4.later h5; clear h5 m5)
    | (go_at_call 10; (with_reducible refine (O1.out _ _ M5.out).mono ?_); rintro e w6 ⟨rfl, h6⟩; have K6 := K5.step h6; have B6 := B5.later h6; clear h6)
    | ((with_reducible show wpList _ _ _ (⟨none, Op.store 26 (.tmp 7) _, _, _, _, _⟩ :: _) _ _); refine wpList_store_mid rfl 26 _ _ rfl _ _ (cellsL T).toArray rfl rfl ((zero_box _).there _) (info26' _) (cellsL_all _) ?_; rw [alloc_stored]; have B7 := B6.alloc (.cells (cellsL T).toArray 26); obtain ⟨W7, hW7, C7, K7⟩ := held_new K6 T; rw [hW7] at B7 ⊢; clear hW7))
  (try simp only [Act.put, List.setIfInBounds_toArray, List.set_cons_zero, List.set_cons_succ])
  have l6 : w3.heap.size < W7.heap.size := B7.lt
  have l7 : w6.heap.size < W7.heap.size := C7.lt
  have lw : w.heap.size ≤ W7.heap.size := K7.1.size
  have S0 := And.intro B7.range (And.intro C7.range K7)
  have hnew := new_there (g := B)
  clear hT K0 N0 N1 K1 N0' N1' M2 K2 N1'' K3 N1x N1y B4 K4 M5 K5 B5 K6 B6 B7 C7 K7 O0 O1
  generalize w3.heap.size = b6 at *
  generalize w6.heap.size = b7 at *
  have hlB := cellsL_length B
  have hoB := cellsL_one B
  go_cut [8] from 16 (fun s8 wr => ∃ b8, s8 = .pointer (some ⟨b8, 0, none⟩) ∧ Box wr b8 B ∧ wr.rangeAt b6 0 (cellsL S) ∧ wr.rangeAt b7 0 (cellsL T) ∧ KeptT w wr)
  case first =>
    refine wp_region_noPanic ?_
    refine wp_region_held_drew (S := fun W => W.rangeAt b6 0 (cellsL S) ∧ W.rangeAt b7 0 (cellsL T) ∧ KeptT w W) (by kernel_rfl) (two_drew S0) (fun hHeld => ?_)
    refine wpAnyH_take (i := 0) (v := setV S) rfl (by kernel_rfl) (by kernel_rfl) (by kernel_rfl) (fun _ _ _ h => h) (yieldsIf_load_mid (by rfl) _ _ rfl _ _ rfl _ _ (fun w h => h.1) hu rfl hi0) (by assumption) ?_
    (try simp only [Act.put, List.setIfInBounds_toArray, List.set_cons_zero, List.set_cons_succ])
    refine wpAnyH_take (i := 1) (v := setV S) rfl (by kernel_rfl) (by kernel_rfl) (by kernel_rfl) (fun _ _ _ h => h) (yieldsIf_load_mid (by rfl) _ _ rfl _ _ rfl _ _ (fun w h => h.1) hu rfl hi0) (by assumption) ?_
    (try simp only [Act.put, List.setIfInBounds_toArray, List.set_cons_zero, List.set_cons_succ])
    refine wpAnyH_take (i := 2) (v := setV T) rfl (by kernel_rfl) (by kernel_rfl) (by kernel_rfl) (fun _ _ _ h => h) (yieldsIf_load_mid (by rfl) _ _ rfl _ _ rfl _ _ (fun w h => h.2.1) hu rfl hi1) (by assumption) ?_
    (try simp only [Act.put, List.setIfInBounds_toArray, List.set_cons_zero, List.set_cons_succ])
    refine wpAnyH_ready (rs := [3, 5]) (by kernel_rfl) (by simp) ?_
    refine AllReadyH.cons rfl (fun K hK => ?_) ?_
    · go_simp
      refine (A.out.c6 _).mono ?_
      rintro e wm1 ⟨rfl, hbm1⟩
      have sz_wm1 := hbm1.size
      (try simp only [World.size_alloc, World.size_drew] at sz_wm1)
      refine hK.out _ _ ?_ (fun hHeld => ?_)
      · exact two_keep (by assumption) hbm1
      clear hK K
      (try simp only [Act.put, List.setIfInBounds_toArray, List.set_cons_zero, List.set_cons_succ])
      refine wpAnyH_ready (rs := [4, 5]) (by kernel_rfl) (by simp) ?_
      refine AllReadyH.cons rfl (fun K hK => ?_) ?_
      · go_simp
        refine (A.out.c12 _).mono ?_
        rintro e wm2 ⟨rfl, hbm2⟩
        have sz_wm2 := hbm2.size
        (try simp only [World.size_alloc, World.size_drew] at sz_wm2)
        refine hK.out _ _ ?_ (fun hHeld => ?_)
        · exact two_keep (by assumption) hbm2
        clear hK K
        (try simp only [Act.put, List.setIfInBounds_toArray, List.set_cons_zero, List.set_cons_succ])
        refine wpAnyH_ready (rs := [5]) (by kernel_rfl) (by simp) ?_
        refine AllReadyH.cons rfl (fun K hK => ?_) ?_
        · go_simp
          refine hK.out _ _ ?_ (fun hHeld => ?_)
          · exact two_alloc _ (by assumption)
          clear hK K
          (try simp only [Act.put, List.setIfInBounds_toArray, List.set_cons_zero, List.set_cons_succ])
          refine wpAnyH_ready (rs := [6]) (by kernel_rfl) (by simp) ?_
          refine AllReadyH.cons rfl (fun K hK => ?_) AllReadyH.nil
          rw [if_pos (by rfl)]
          have zb := zero_box wm2
          have hfin := zb.setCells B
          refine wp_store_mid 26 _ _ rfl _ 0 (cellsL B).toArray rfl rfl (zb.there B) (info26' B) (cellsL_all B) ?_
          simp only [List.toList_toArray]
          have hS2 := two_store (by assumption) zb B (by omega) (by omega) (by omega)
          refine hK.out _ _ hS2 (fun hHeld => ?_)
          clear hK K
          (try simp only [Act.put, List.setIfInBounds_toArray, List.set_cons_zero, List.set_cons_succ])
          refine wpAnyH_done (by kernel_rfl) ?_ _
          refine NoPanic.normal ?_
          go_wp2_with fail
          go_meet
          exact ⟨_, rfl, hfin, hS2⟩
        · exact AllReadyH.nil
      refine AllReadyH.cons rfl (fun K hK => ?_) AllReadyH.nil
      go_simp
      refine hK.out _ _ ?_ (fun hHeld => ?_)
      · exact two_alloc _ (by assumption)
      clear hK K
      (try simp only [Act.put, List.setIfInBounds_toArray, List.set_cons_zero, List.set_cons_succ])
      refine wpAnyH_ready (rs := [4]) (by kernel_rfl) (by simp) ?_
      refine AllReadyH.cons rfl (fun K hK => ?_) ?_
      · go_simp
        refine (A.out.c12 _).mono ?_
        rintro e wm2 ⟨rfl, hbm2⟩
        have sz_wm2 := hbm2.size
        (try simp only [World.size_alloc, World.size_drew] at sz_wm2)
        refine hK.out _ _ ?_ (fun hHeld => ?_)
        · exact two_keep (by assumption) hbm2
        clear hK K
        (try simp only [Act.put, List.setIfInBounds_toArray, List.set_cons_zero, List.set_cons_succ])
        refine wpAnyH_ready (rs := [6]) (by kernel_rfl) (by simp) ?_
        refine AllReadyH.cons rfl (fun K hK => ?_) AllReadyH.nil
        rw [if_pos (by rfl)]
        have zb := (zero_box wm1).later hbm2
        have hfin := zb.setCells B
        refine wp_store_mid 26 _ _ rfl _ 0 (cellsL B).toArray rfl rfl (zb.there B) (info26' B) (cellsL_all B) ?_
        simp only [List.toList_toArray]
        have hS2 := two_store (by assumption) zb B (by omega) (by omega) (by omega)
        refine hK.out _ _ hS2 (fun hHeld => ?_)
        clear hK K
        (try simp only [Act.put, List.setIfInBounds_toArray, List.set_cons_zero, List.set_cons_succ])
        refine wpAnyH_done (by kernel_rfl) ?_ _
        refine NoPanic.normal ?_
        go_wp2_with fail
        go_meet
        exact ⟨_, rfl, hfin, hS2⟩
      · exact AllReadyH.nil
    refine AllReadyH.cons rfl (fun K hK => ?_) AllReadyH.nil
    go_simp
    refine hK.out _ _ ?_ (fun hHeld => ?_)
    · exact two_drew (two_alloc _ S0)
    clear hK K
    (try simp only [Act.put, List.setIfInBounds_toArray, List.set_cons_zero, List.set_cons_succ])
    refine wpAnyH_ready (rs := [3]) (by kernel_rfl) (by simp) ?_
    refine AllReadyH.cons rfl (fun K hK => ?_) ?_
    · go_simp
      refine (A.out.c6 _).mono ?_
      rintro e wm1 ⟨rfl, hbm1⟩
      have sz_wm1 := hbm1.size
      (try simp only [World.size_alloc, World.size_drew] at sz_wm1)
      refine hK.out _ _ ?_ (fun hHeld => ?_)
      · exact two_keep (by assumption) hbm1
      clear hK K
      (try simp only [Act.put, List.setIfInBounds_toArray, List.set_cons_zero, List.set_cons_succ])
      refine wpAnyH_ready (rs := [4]) (by kernel_rfl) (by simp) ?_
      refine AllReadyH.cons rfl (fun K hK => ?_) ?_
      · go_simp
        refine (A.out.c12 _).mono ?_
        rintro e wm2 ⟨rfl, hbm2⟩
        have sz_wm2 := hbm2.size
        (try simp only [World.size_alloc, World.size_drew] at sz_wm2)
        refine hK.out _ _ ?_ (fun hHeld => ?_)
        · exact two_keep (by assumption) hbm2
        clear hK K
        (try simp only [Act.put, List.setIfInBounds_toArray, List.set_cons_zero, List.set_cons_succ])
        refine wpAnyH_ready (rs := [6]) (by kernel_rfl) (by simp) ?_
        refine AllReadyH.cons rfl (fun K hK => ?_) AllReadyH.nil
        rw [if_pos (by rfl)]
        have zb := ((zero_box W7).drew.later hbm1).later hbm2
        have hfin := zb.setCells B
        refine wp_store_mid 26 _ _ rfl _ 0 (cellsL B).toArray rfl rfl (zb.there B) (info26' B) (cellsL_all B) ?_
        simp only [List.toList_toArray]
        have hS2 := two_store (by assumption) zb B (by omega) (by omega) (by omega)
        refine hK.out _ _ hS2 (fun hHeld => ?_)
        clear hK K
        (try simp only [Act.put, List.setIfInBounds_toArray, List.set_cons_zero, List.set_cons_succ])
        refine wpAnyH_done (by kernel_rfl) ?_ _
        refine NoPanic.normal ?_
        go_wp2_with fail
        go_meet
        exact ⟨_, rfl, hfin, hS2⟩
      · exact AllReadyH.nil
    · exact AllReadyH.nil
  case rest =>
    obtain ⟨b8, rfl, c8, r6, r7, kk⟩ := hcut
    have hs := A.out.sum
    have hb1 := A.out.b1
    have hb2 := A.out.b2
    have hb3 := A.out.b3
    have hb4 := A.out.b4
    have e1 : IntKind.i64.wrap ((nu : Int) + (nb : Int)) = ((ns + nt : Nat) : Int) := by rw [IntWalk.i64_in _ (by omega)]; omega
    have e2 : IntKind.i64.wrap ((ns : Int) + (nt : Int)) = ((ns + nt : Nat) : Int) := by rw [IntWalk.i64_in _ (by omega)]; omega
    generalize ns + nt = tot at *
    clear hs hb1 hb2 hb3 hb4
    go_upto_region 5 with fail
    refine wp_region_quiet (C := ThreeC w b6 b7 b8 S T B) (by kernel_rfl) (by kernel_rfl) ⟨range_step r6 (below_drew _), range_step r7 (below_drew _), range_step c8.range (below_drew _), kk.step (below_drew _)⟩ ?_
    repeat (first
      | ((with_reducible show wpQuiet _ _ _ _ (⟨some 23, _, _, _, _, _⟩ :: _) _); refine wq_load _ b6 S (fun w h => h.1) (by rfl) rfl rfl ?_; (try simp only [Act.put, List.setIfInBounds_toArray, List.set_cons_zero, List.set_cons_succ]))
      | ((with_reducible show wpQuiet _ _ _ _ (⟨some 30, _, _, _, _, _⟩ :: _) _); refine wq_load _ b6 S (fun w h => h.1) (by rfl) rfl rfl ?_; (try simp only [Act.put, List.setIfInBounds_toArray, List.set_cons_zero, List.set_cons_succ]))
      | ((with_reducible show wpQuiet _ _ _ _ (⟨some 38, _, _, _, _, _⟩ :: _) _); refine wq_load _ b6 S (fun w h => h.1) (by rfl) rfl rfl ?_; (try simp only [Act.put, List.setIfInBounds_toArray, List.set_cons_zero, List.set_cons_succ]))
      | ((with_reducible show wpQuiet _ _ _ _ (⟨some 43, _, _, _, _, _⟩ :: _) _); refine wq_load _ b6 S (fun w h => h.1) (by rfl) rfl rfl ?_; (try simp only [Act.put, List.setIfInBounds_toArray, List.set_cons_zero, List.set_cons_succ]))
      | ((with_reducible show wpQuiet _ _ _ _ (⟨some 49, _, _, _, _, _⟩ :: _) _); refine wq_load _ b6 S (fun w h => h.1) (by rfl) rfl rfl ?_; (try simp only [Act.put, List.setIfInBounds_toArray, List.set_cons_zero, List.set_cons_succ]))
      | ((with_reducible show wpQuiet _ _ _ _ (⟨some 53, _, _, _, _, _⟩ :: _) _); refine wq_load _ b6 S (fun w h => h.1) (by rfl) rfl rfl ?_; (try simp only [Act.put, List.setIfInBounds_toArray, List.set_cons_zero, List.set_cons_succ]))
      | ((with_reducible show wpQuiet _ _ _ _ (⟨some 58, _, _, _, _, _⟩ :: _) _); refine wq_load _ b6 S (fun w h => h.1) (by rfl) rfl rfl ?_; (try simp only [Act.put, List.setIfInBounds_toArray, List.set_cons_zero, List.set_cons_succ]))
      | ((with_reducible show wpQuiet _ _ _ _ (⟨some 59, _, _, _, _, _⟩ :: _) _); refine wq_load _ b6 S (fun w h => h.1) (by rfl) rfl rfl ?_; (try simp only [Act.put, List.setIfInBounds_toArray, List.set_cons_zero, List.set_cons_succ]))
      | ((with_reducible show wpQuiet _ _ _ _ (⟨some 68, _, _, _, _, _⟩ :: _) _); refine wq_load _ b6 S (fun w h => h.1) (by rfl) rfl rfl ?_; (try simp only [Act.put, List.setIfInBounds_toArray, List.set_cons_zero, List.set_cons_succ]))
      | ((with_reducible show wpQuiet _ _ _ _ (⟨some 24, _, _, _, _, _⟩ :: _) _); refine wq_load _ b7 T (fun w h => h.2.1) (by rfl) rfl rfl ?_; (try simp only [Act.put, List.setIfInBounds_toArray, List.set_cons_zero, List.set_cons_succ]))
      | ((with_reducible show wpQuiet _ _ _ _ (⟨some 32, _, _, _, _, _⟩ :: _) _); refine wq_load _ b7 T (fun w h => h.2.1) (by rfl) rfl rfl ?_; (try simp only [Act.put, List.setIfInBounds_toArray, List.set_cons_zero, List.set_cons_succ]))
      | ((with_reducible show wpQuiet _ _ _ _ (⟨some 39, _, _, _, _, _⟩ :: _) _); refine wq_load _ b7 T (fun w h => h.2.1) (by rfl) rfl rfl ?_; (try simp only [Act.put, List.setIfInBounds_toArray, List.set_cons_zero, List.set_cons_succ]))
      | ((with_reducible show wpQuiet _ _ _ _ (⟨some 41, _, _, _, _, _⟩ :: _) _); refine wq_load _ b7 T (fun w h => h.2.1) (by rfl) rfl rfl ?_; (try simp only [Act.put, List.setIfInBounds_toArray, List.set_cons_zero, List.set_cons_succ]))
      | ((with_reducible show wpQuiet _ _ _ _ (⟨some 44, _, _, _, _, _⟩ :: _) _); refine wq_load _ b7 T (fun w h => h.2.1) (by rfl) rfl rfl ?_; (try simp only [Act.put, List.setIfInBounds_toArray, List.set_cons_zero, List.set_cons_succ]))
      | ((with_reducible show wpQuiet _ _ _ _ (⟨some 50, _, _, _, _, _⟩ :: _) _); refine wq_load _ b7 T (fun w h => h.2.1) (by rfl) rfl rfl ?_; (try simp only [Act.put, List.setIfInBounds_toArray, List.set_cons_zero, List.set_cons_succ]))
      | ((with_reducible show wpQuiet _ _ _ _ (⟨some 52, _, _, _, _, _⟩ :: _) _); refine wq_load _ b7 T (fun w h => h.2.1) (by rfl) rfl rfl ?_; (try simp only [Act.put, List.setIfInBounds_toArray, List.set_cons_zero, List.set_cons_succ]))
      | ((with_reducible show wpQuiet _ _ _ _ (⟨some 66, _, _, _, _, _⟩ :: _) _); refine wq_load _ b7 T (fun w h => h.2.1) (by rfl) rfl rfl ?_; (try simp only [Act.put, List.setIfInBounds_toArray, List.set_cons_zero, List.set_cons_succ]))
      | ((with_reducible show wpQuiet _ _ _ _ (⟨some 67, _, _, _, _, _⟩ :: _) _); refine wq_load _ b7 T (fun w h => h.2.1) (by rfl) rfl rfl ?_; (try simp only [Act.put, List.setIfInBounds_toArray, List.set_cons_zero, List.set_cons_succ]))
      | ((with_reducible show wpQuiet _ _ _ _ (⟨some 27, _, _, _, _, _⟩ :: _) _); refine wq_load _ b8 B (fun w h => h.2.2.1) (by rfl) rfl rfl ?_; (try simp only [Act.put, List.setIfInBounds_toArray, List.set_cons_zero, List.set_cons_succ]))
      | ((with_reducible show wpQuiet _ _ _ _ (⟨some 65, _, _, _, _, _⟩ :: _) _); refine wq_load _ b8 B (fun w h => h.2.2.1) (by rfl) rfl rfl ?_; (try simp only [Act.put, List.setIfInBounds_toArray, List.set_cons_zero, List.set_cons_succ]))
      | ((with_reducible show wpQuiet _ _ _ _ (⟨some 25, _, _, _, _, _⟩ :: _) _); refine wq_call (fun w _ => A.out.c1 w) cl_step (by rfl) (by intro w _; go_simp) ?_; (try simp only [Act.put, List.setIfInBounds_toArray, List.set_cons_zero, List.set_cons_succ]))
      | ((with_reducible show wpQuiet _ _ _ _ (⟨some 26, _, _, _, _, _⟩ :: _) _); refine wq_call (fun w _ => A.out.c2 w) cl_step (by rfl) (by intro w _; go_simp) ?_; (try simp only [Act.put, List.setIfInBounds_toArray, List.set_cons_zero, List.set_cons_succ]))
      | ((with_reducible show wpQuiet _ _ _ _ (⟨some 28, _, _, _, _, _⟩ :: _) _); refine wq_call (fun w _ => A.out.c3 w) cl_step (by rfl) (by intro w _; go_simp) ?_; (try simp only [Act.put, List.setIfInBounds_toArray, List.set_cons_zero, List.set_cons_succ]))
      | ((with_reducible show wpQuiet _ _ _ _ (⟨some 31, _, _, _, _, _⟩ :: _) _); refine wq_call (fun w _ => A.out.c4 w) cl_step (by rfl) (by intro w _; go_simp) ?_; (try simp only [Act.put, List.setIfInBounds_toArray, List.set_cons_zero, List.set_cons_succ]))
      | ((with_reducible show wpQuiet _ _ _ _ (⟨some 33, _, _, _, _, _⟩ :: _) _); refine wq_call (fun w _ => A.out.c5 w) cl_step (by rfl) (by intro w _; go_simp) ?_; (try simp only [Act.put, List.setIfInBounds_toArray, List.set_cons_zero, List.set_cons_succ]))
      | ((with_reducible show wpQuiet _ _ _ _ (⟨some 40, _, _, _, _, _⟩ :: _) _); refine wq_call (fun w _ => A.out.c6 w) cl_step (by rfl) (by intro w _; go_simp) ?_; (try simp only [Act.put, List.setIfInBounds_toArray, List.set_cons_zero, List.set_cons_succ]))
      | ((with_reducible show wpQuiet _ _ _ _ (⟨some 42, _, _, _, _, _⟩ :: _) _); refine wq_call (fun w _ => A.out.c7 w) cl_step (by rfl) (by intro w _; go_simp) ?_; (try simp only [Act.put, List.setIfInBounds_toArray, List.set_cons_zero, List.set_cons_succ]))
      | ((with_reducible show wpQuiet _ _ _ _ (⟨some 45, _, _, _, _, _⟩ :: _) _); refine wq_call (fun w _ => A.out.c1 w) cl_step (by rfl) (by intro w _; go_simp) ?_; (try simp only [Act.put, List.setIfInBounds_toArray, List.set_cons_zero, List.set_cons_succ]))
      | ((with_reducible show wpQuiet _ _ _ _ (⟨some 51, _, _, _, _, _⟩ :: _) _); refine wq_call (fun w _ => A.out.c1 w) cl_step (by rfl) (by intro w _; go_simp) ?_; (try simp only [Act.put, List.setIfInBounds_toArray, List.set_cons_zero, List.set_cons_succ]))
      | ((with_reducible show wpQuiet _ _ _ _ (⟨some 54, _, _, _, _, _⟩ :: _) _); refine wq_call (fun w _ => A.out.c8 w) cl_step (by rfl) (by intro w _; go_simp) ?_; (try simp only [Act.put, List.setIfInBounds_toArray, List.set_cons_zero, List.set_cons_succ]))
      | ((with_reducible show wpQuiet _ _ _ _ (⟨some 60, _, _, _, _, _⟩ :: _) _); refine wq_call (fun w _ => A.out.c9 w) cl_step (by rfl) (by intro w _; go_simp) ?_; (try simp only [Act.put, List.setIfInBounds_toArray, List.set_cons_zero, List.set_cons_succ]))
      | ((with_reducible show wpQuiet _ _ _ _ (⟨some 69, _, _, _, _, _⟩ :: _) _); refine wq_call (fun w _ => A.out.c10 w) cl_step (by rfl) (by intro w _; go_simp) ?_; (try simp only [Act.put, List.setIfInBounds_toArray, List.set_cons_zero, List.set_cons_succ]))
      | ((with_reducible show wpQuiet _ _ _ _ (⟨some 70, _, _, _, _, _⟩ :: _) _); refine wq_call (fun w _ => A.out.c11 w) cl_step (by rfl) (by intro w _; go_simp) ?_; (try simp only [Act.put, List.setIfInBounds_toArray, List.set_cons_zero, List.set_cons_succ]))
      | ((with_reducible show wpQuiet _ _ _ _ (⟨some 46, _, _, _, _, _⟩ :: _) _); refine wq_eql _ _ U (by rfl) rfl rfl rfl ?_; (try simp only [Act.put, List.setIfInBounds_toArray, List.set_cons_zero, List.set_cons_succ]))
      | ((with_reducible show wpQuiet _ _ _ _ (⟨some 55, _, _, _, _, _⟩ :: _) _); refine wq_eql _ _ U (by rfl) rfl rfl rfl ?_; (try simp only [Act.put, List.setIfInBounds_toArray, List.set_cons_zero, List.set_cons_succ]))
      | ((with_reducible show wpQuiet _ _ _ _ (⟨some 71, _, _, _, _, _⟩ :: _) _); refine wq_eql _ _ B (by rfl) rfl rfl rfl ?_; (try simp only [Act.put, List.setIfInBounds_toArray, List.set_cons_zero, List.set_cons_succ]))
      | ((with_reducible show wpQuiet _ _ _ _ (⟨some 62, _, _, _, _, _⟩ :: _) _); refine wq_eql _ _ noneF (by rfl) rfl rfl zero_agg ?_; (try simp only [Act.put, List.setIfInBounds_toArray, List.set_cons_zero, List.set_cons_succ]))
      | (refine wq_val _ (by rfl) (by intro w _; go_simp; (try rfl)) ?_; (try simp only [Act.put, List.setIfInBounds_toArray, List.set_cons_zero, List.set_cons_succ])))
    refine wpQuiet_nil ?_
    intro w' hw'
    have hfin := hw'.2.2.2.1
    clear hw' r6 r7 c8 kk
    go_wp2_with fail
    go_ret
    exact ⟨rfl, hfin⟩
end Go.Proofs.YthmngibmpkgjkaaDoor
