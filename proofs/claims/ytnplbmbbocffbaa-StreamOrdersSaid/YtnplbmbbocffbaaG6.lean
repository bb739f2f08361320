/- Texts about the program, one after the other: FstM, ClMM, Laid, ClII, DelI, DelM, OwnM, Rg, MgM. -/
import Derived.Test.YtnplbmbbocffbaaG5
import Derived.Shelf.SlSortCmp.Whole1
import Derived.Shelf.SlicesE.Delete
import Derived.Ground.SlsfProg
import Derived.Ground.SlgnProg
import Derived.Test.YtnplbmbbocffbaaProg
import Derived.Sort.CutIn
/- Of rows of M, the first one whose first is least. -/
namespace Go.Proofs.Ytnplbmbbocffbaa
open Go.RowKit Go.Shelf
set_option linter.unusedVariables false
set_option linter.unusedSimpArgs false
attribute [local go_sem ↓] Go.wp_at_zero Go.wp_at_succ
/-- None of those ahead of place i is so small. -/
def AllGtM (rs : List (List (Int × Int))) (i low : Nat) : Prop := ∀ j y ys x xs, j < i → rs[j]? = some (y :: ys) → rs[low]? = some (x :: xs) → keyM x < keyM y
/-- None of the first k is less than place i. -/
def NonLtM (rs : List (List (Int × Int))) (k i : Nat) : Prop := ∀ j y ys x xs, j < k → rs[j]? = some (y :: ys) → rs[i]? = some (x :: xs) → keyM x ≤ keyM y
set_option maxRecDepth 100000 in
set_option maxHeartbeats 4000000 in
theorem firstM {N b o n cap : Nat} {rs : List (List (Int × Int))} (w : World) (hR : RwsM N w b o rs) (hn : rs.length = n) (h1 : 1 ≤ n) (hne : ∀ l ∈ rs, l ≠ []) (hlim : n ≤ 100000) :
    Calls Try.prog 45 #[.func (.func 21) #[] #[], .slice (some ⟨b, o, none⟩) n cap] w fun e w' => ∃ (i : Nat) (x : (Int × Int)) (xs : List (Int × Int)), e = .returned (.int .i64 (i : Int)) ∧ Fst keyM rs i x xs ∧ Below w.heap.size w w' := by
  have LW := lowM (cap := cap) w hR hn h1 hne hlim
  have HR := Lib.hid hR
  have HN := Lib.hid hn
  have HE := Lib.hid hne
  have HLW := Lib.hid LW
  clear hR hn hne LW
  go_enter Try.func45, Try.ntmps45
  go_wp2
  go_step3
  go_wp2_with (go_at_call 61; refine HLW.out.mono ?_; rintro e w1 ⟨low, rfl, hL, hB1⟩; have HL := Lib.hid hL; have HB1 := Lib.hid hB1; clear hL hB1)
  go_step3
  go_wp2
  go_loopw [15] (fun a wr => ∃ k : Nat, k ≤ n ∧ a = .int .i64 (k : Int) ∧ Hid (AllGtM rs k low) ∧ Hid (Below w.heap.size w wr)) (fun a _ => n - (intOf a).toNat)
  case atStart => exact ⟨0, by omega, rfl, Lib.hid (fun j y ys x xs hj => by omega), HB1⟩
  case round =>
    generalize wr = W1 at *
    obtain ⟨k, hk, rfl, hA, hB⟩ := hrel
    clear HB1
    have hlow := HL.out.1
    rw [HN.out] at hlow
    by_cases hkn : k < n
    · have RR := HR.out.later hB.out
      obtain ⟨x, xs, g1, q1, c1, hx, e1, _, _, _, l1, x0⟩ := rw_getM RR HE.out (i := low) (by rw [HN.out]; omega)
      obtain ⟨y, ys, g2, q2, c2, hy, e2, _, _, _, l2, y0⟩ := rw_getM RR HE.out (i := k) (by rw [HN.out]; omega)
      have hbl := World.block_lt_of_cell? W1 _ e1
      have HX := Lib.hid hx
      have HY := Lib.hid hy
      have HBL := Lib.hid hbl
      have HK2 := Lib.hid (show b < W1.heap.size ∧ g2 < W1.heap.size from ⟨hbl, l2⟩)
      have HY0 := Lib.hid y0
      have T0 : Hid (TwoRM W1 b (o + low) (o + k) (.slice (some ⟨g1, q1, none⟩) (xs.length + 1) c1) (.slice (some ⟨g2, q2, none⟩) (ys.length + 1) c2) g1 q1 g2 q2 x y W1.drew) := Lib.hid ⟨e1, e2, ⟨(x0 0 _ rfl), (x0 1 _ rfl)⟩, ⟨(y0 0 _ rfl), (y0 1 _ rfl)⟩, below_drew W1, hbl, l1, l2⟩
      have F0 := lessM x y W1.drew
      obtain ⟨t, ht⟩ : ∃ t, decide (keyM x < keyM y) = t := ⟨_, rfl⟩
      rw [ht] at F0
      have HT := Lib.hid ht
      have F0 := Lib.hid F0
      have im0 : (0 : Int) ≤ (k : Int) := by omega
      have im1 : (k : Int) < (n : Int) := by omega
      have il0 : (0 : Int) ≤ (low : Int) := by omega
      have il1 : (low : Int) < (n : Int) := by omega
      have hz1 : (0 : Int) < ((xs.length + 1 : Nat) : Int) := by omega
      have hz2 : (0 : Int) < ((ys.length + 1 : Nat) : Int) := by omega
      clear hx hy e1 x0 y0 ht RR
      generalize xs.length + 1 = n1 at *
      generalize ys.length + 1 = n2 at *
      go_upto_region 5 with (fail)
      go_cut [35] from 20 to 35 (fun s wx => ∃ c : Bool, s = .bool c ∧ Hid (c = true → keyM x < keyM y) ∧ Hid (Below W1.heap.size W1 wx))
      case first =>
        by_cases hkl : k = low
        · have tk : ((k : Int) != (low : Int)) = false := by rw [hkl]; simp
          clear hkl
          go_quiet (fail)
          go_wp2
          go_meet
          exact ⟨_, rfl, Lib.hid (by simp), Lib.hid (by first | exact below_drewN (Below.refl _ _) _ | exact below_drew _ | exact Below.refl _ _)⟩
        · have tk : ((k : Int) != (low : Int)) = true := by rw [bne_iff_ne]; omega
          go_region_held_law (fun W => TwoRM W1 b (o + low) (o + k) (.slice (some ⟨g1, q1, none⟩) n1 c1) (.slice (some ⟨g2, q2, none⟩) n2 c2) g1 q1 g2 q2 x y W)
            (first | (with_reducible assumption) | (with_reducible exact T0.out) | (with_reducible exact T1.out) | fail)
            (first | (go_at_call 21; (with_reducible refine F0.out.mono ?_); rintro e w1 ⟨rfl, hb1⟩; have T1 := Lib.hid (TwoRM.step T0.out hb1)) | fail)
          all_goals (
            go_wp2
            go_meet
            exact ⟨_, rfl, Lib.hid (fun h => of_decide_eq_true (HT.out.trans h)), Lib.hid T1.out.2.2.2.2.1⟩)
      case rest =>
        obtain ⟨c, rfl, hc, hBx⟩ := hcut
        apply_assumption
        rcases (Bool.eq_false_or_eq_true c).symm with rfl | rfl
        · go_wp2
          clear T0 F0 HT
          go_loopw [38] (fun a wr => ∃ j : Nat, j ≤ n ∧ a = .int .i64 (j : Int) ∧ Hid (NonLtM rs j k) ∧ Hid (Below W1.heap.size W1 wr)) (fun a _ => n - (intOf a).toNat)
          case atStart => exact ⟨0, by omega, rfl, Lib.hid (fun j y ys x xs hj => by omega), hBx⟩
          case round =>
            obtain ⟨j, hj, rfl, hN, hBy⟩ := hrel
            clear hBx
            have B2 := Lib.hid (hB.out.trans (hBy.out.mono hB.out.size))
            by_cases hjn : j < n
            · have RR2 := HR.out.later B2.out
              obtain ⟨z, zs, g3, q3, c3, hz, e3, _, _, _, l3, x0⟩ := rw_getM RR2 HE.out (i := j) (by rw [HN.out]; omega)
              have y0 : ∀ (i : Nat) (u : Value), (cEM y)[i]? = some u → wr.cell? ⟨g2, q2 + i, none⟩ = some u := fun i u hu => (hBy.out.cell (p := ⟨g2, q2 + i, none⟩) HK2.out.2).trans (HY0.out i u hu)
              have e4 := (hBy.out.cell (p := ⟨b, o + k, none⟩) HK2.out.1).trans e2
              have T0 : Hid (TwoRM wr b (o + j) (o + k) (.slice (some ⟨g3, q3, none⟩) (zs.length + 1) c3) (.slice (some ⟨g2, q2, none⟩) n2 c2) g3 q3 g2 q2 z y wr.drew) := Lib.hid ⟨e3, e4, ⟨(x0 0 _ rfl), (x0 1 _ rfl)⟩, ⟨(y0 0 _ rfl), (y0 1 _ rfl)⟩, below_drew wr, Nat.lt_of_lt_of_le HK2.out.1 hBy.out.size, l3, Nat.lt_of_lt_of_le HK2.out.2 hBy.out.size⟩
              have HZ := Lib.hid hz
              have F0 := lessM z y wr.drew
              obtain ⟨t, ht⟩ : ∃ t, decide (keyM z < keyM y) = t := ⟨_, rfl⟩
              rw [ht] at F0
              have HT := Lib.hid ht
              have F0 := Lib.hid F0
              have ij0 : (0 : Int) ≤ (j : Int) := by omega
              have ij1 : (j : Int) < (n : Int) := by omega
              have hz3 : (0 : Int) < ((zs.length + 1 : Nat) : Int) := by omega
              clear hz x0 y0 ht RR2
              generalize zs.length + 1 = n3 at *
              go_upto_region 9 with (fail)
              by_cases hjk : j = k
              · have tk : ((j : Int) != (k : Int)) = false := by rw [hjk]; simp
                have HJK := Lib.hid hjk
                clear hjk
                go_quiet (fail)
                go_wp2
                refine ⟨⟨j + 1, by omega, by go_num, Lib.hid (fun i v vs u us hi hv hu => ?_), Lib.hid (hBy.out.trans ((show Below wr.heap.size wr _ by first | exact below_drewN (Below.refl _ _) _ | exact below_drew _ | exact Below.refl _ _).mono hBy.out.size))⟩, by first | (simp [intOf]; done) | (simp [intOf]; omega)⟩
                rcases Nat.lt_or_ge i j with h | h
                · exact hN.out i v vs u us h hv hu
                · obtain rfl : i = k := by have := HJK.out; omega
                  rw [hu] at hv
                  simp only [Option.some.injEq, List.cons.injEq] at hv
                  rw [hv.1]; exact Int.le_refl _
              · have tk : ((j : Int) != (k : Int)) = true := by rw [bne_iff_ne]; omega
                go_region_held_law (fun W => TwoRM wr b (o + j) (o + k) (.slice (some ⟨g3, q3, none⟩) n3 c3) (.slice (some ⟨g2, q2, none⟩) n2 c2) g3 q3 g2 q2 z y W)
                  (first | (with_reducible assumption) | (with_reducible exact T0.out) | (with_reducible exact T1.out) | fail)
                  (first | (go_at_call 21; (with_reducible refine F0.out.mono ?_); rintro e w1 ⟨rfl, hb1⟩; have T1 := Lib.hid (TwoRM.step T0.out hb1)) | fail)
                all_goals (
                  have B3 := Lib.hid (T1.out.2.2.2.2.1)
                  rcases (Bool.eq_false_or_eq_true t).symm with rfl | rfl
                  · go_wp2
                    refine ⟨⟨j + 1, by omega, by go_num, Lib.hid (fun i v vs u us hi hv hu => ?_), Lib.hid (hBy.out.trans (B3.out.mono hBy.out.size))⟩, by first | (simp [intOf]; done) | (simp [intOf]; omega)⟩
                    rcases Nat.lt_or_ge i j with h | h
                    · exact hN.out i v vs u us h hv hu
                    · obtain rfl : i = j := by omega
                      rw [HZ.out] at hv
                      rw [HY.out] at hu
                      simp only [Option.some.injEq, List.cons.injEq] at hu hv
                      obtain ⟨rfl, rfl⟩ := hu
                      obtain ⟨rfl, rfl⟩ := hv
                      have := of_decide_eq_false HT.out
                      omega
                  · go_wp2
                    refine ⟨⟨k + 1, by omega, by go_num, Lib.hid (fun i v vs u us hi hv hu => ?_), Lib.hid (B2.out.trans (B3.out.mono B2.out.size))⟩, by first | (simp [intOf]; done) | (simp [intOf]; omega)⟩
                    rcases Nat.lt_or_ge i k with h | h
                    · exact hA.out i v vs u us h hv hu
                    · obtain rfl : i = k := by omega
                      have h1 := HL.out.2 j z zs u us (Nat.zero_le _) HZ.out hu
                      rw [HY.out] at hv
                      simp only [Option.some.injEq, List.cons.injEq] at hv
                      obtain ⟨rfl, rfl⟩ := hv
                      have := of_decide_eq_true HT.out
                      omega)
            · obtain rfl : j = n := by omega
              go_wp2
              first | rw [Exit.noGoto_ret] | simp only [Exit.noGoto] | skip
              go_ret
              refine ⟨k, y, ys, rfl, ⟨HY.out, fun i v vs hv => hN.out i v vs y ys (by have := (List.getElem?_eq_some_iff.1 hv).1; rw [HN.out] at this; exact this) hv HY.out, fun i v vs hi hv => ?_⟩, B2.out⟩
              have h1 := hA.out i v vs x xs hi hv HX.out
              have h2 := hN.out low x xs y ys hlow HX.out HY.out
              omega
        · go_wp2
          refine ⟨⟨k + 1, by omega, by go_num, Lib.hid (fun j z zs u us hj hz hu => ?_), Lib.hid (hB.out.trans (hBx.out.mono hB.out.size))⟩, by first | (simp [intOf]; done) | (simp [intOf]; omega)⟩
          rcases Nat.lt_or_ge j k with h | h
          · exact hA.out j z zs u us h hz hu
          · obtain rfl : j = k := by omega
            rw [HX.out] at hu
            rw [HY.out] at hz
            simp only [Option.some.injEq, List.cons.injEq] at hu hz
            obtain ⟨rfl, rfl⟩ := hu
            obtain ⟨rfl, rfl⟩ := hz
            exact hc.out rfl
    · obtain rfl : k = n := by omega
      obtain ⟨x, xs, _, _, _, hx, _⟩ := rw_getM HR.out HE.out (i := low) (by rw [HN.out]; exact hlow)
      exact absurd (hA.out low x xs x xs hlow hx hx) (by omega)
end Go.Proofs.Ytnplbmbbocffbaa
/- slices.Clone of a row of MM. -/



namespace Go.Proofs.Ytnplbmbbocffbaa
open Go.RowKit Go.Shelf
set_option linter.unusedVariables false
set_option linter.unusedSimpArgs false
attribute [local go_sem ↓] Go.wp_at_zero Go.wp_at_succ
theorem infoEMM : (Try.prog.info? 56).map (fun i => (i.zero, i.size, i.bytes)) = some (some (.slice none 0 0), 1, 24) := by kernel_rfl
def ClonePMM (n : Nat) (cs : List Value) (w : World) (e : Ending) (w' : World) : Prop := ∃ v', e = .returned v' ∧ w'.ownsRow w.heap.size 56 1 v' n cs ∧ Below w.heap.size w w'
theorem own_emptyMM {w : World} {base : Nat} (hb : base ≤ w.heap.size) : (w.alloc (.cells #[] 56)).ownsRow base 56 1 (.slice (some ⟨w.heap.size, 0, none⟩) 0 0) 0 [] := World.ownsRow_lit w #[] 0 hb (by unfold maxLen; omega) rfl
set_option maxRecDepth 100000 in
set_option maxHeartbeats 4000000 in
theorem cloneMM (g o n cap : Nat) (cs : List Value) (w : World) (hc : ∀ j u, cs[j]? = some u → w.cell? ⟨g, o + j, none⟩ = some u) (hl : cs.length = n * 1) (h1 : ∀ u ∈ cs, u.oneCell' = true) (hn : n ≤ 100000) (hgl : g < w.heap.size) :
    Calls Try.prog 44 #[.slice (some ⟨g, o, none⟩) n cap] w (ClonePMM n cs w) := by
  obtain ⟨i0, hi, hz0, hz1, hz2⟩ := info_parts infoEMM
  have HC := Lib.hid (show ∀ (j : Nat) (u : Value), cs[j]? = some u → (w.alloc (.cells #[] 56)).cell? ((⟨g, o, none⟩ : Addr).add j) = some u from fun j u hj => by
    have := hc j u hj
    rw [add_none, World.cell?_alloc_lt _ _ _ (by simpa using hgl)]
    exact this)
  have HL := Lib.hid hl
  have HO := Lib.hid (own_emptyMM (w := w) (Nat.le_refl _))
  have HA := Lib.hid (show Below w.heap.size w (w.alloc (.cells #[] 56)) from (Below.refl _ _).alloc (Nat.le_refl _) _)
  have H1 := Lib.hid h1
  have hne := fun w => Lib.run_eql_slice_nil (P := Try.prog) w 47 _ (some ⟨g, o, none⟩) n cap 0 0 Try.underlying47
  clear hc hl h1 hgl
  go_enter Try.func44, Try.ntmps44
  go_wp2_with (at_builtin; go_loud (refine wpList_append_own _ rfl _ _ 47 rfl w.heap.size 56 i0 _ 1 24 Try.underlying47 hi hz0 hz1 hz2 rfl (by decide) (.slice (some ⟨w.heap.size, 0, none⟩) 0 0) 0 [] rfl HO.out ⟨g, o, none⟩ n cap cs rfl HL.out HC.out H1.out (by unfold maxLen; omega) (by omega) (by simp) ?_; intro v' w1 hown hgrow hnil; have hB1 : Below w.heap.size w w1 := HA.out.grown hgrow (by simp) (fun k e => by simp [Value.ownBlock] at e; omega)))
  go_ret
  exact ⟨v', rfl, by simpa using hown, hB1⟩
set_option maxHeartbeats 1000000 in
theorem cloneNilMM (w : World) : Calls Try.prog 44 #[.slice none 0 0] w (ClonePMM 0 [] w) := by
  have hne := fun w => Lib.run_eql_slice_nil (P := Try.prog) w 47 _ none 0 0 0 0 Try.underlying47
  go_enter Try.func44, Try.ntmps44
  go_wp2
  go_ret
  exact ⟨_, rfl, World.ownsRow_nil _ _ _ _, Below.refl _ _⟩
end Go.Proofs.Ytnplbmbbocffbaa
/- The library's contracts of slices.SortFunc and slices.Delete, laid at this seat's translation. -/
namespace Go.Proofs
open Go.Shelf
def Try.sortL_ren : Go.Shelf.Ren := ⟨fun | 6 => 52 | 15 => 64 | 14 => 63 | 28 => 77 | 29 => 78 | 20 => 69 | 21 => 70 | 22 => 71 | 23 => 72 | 24 => 73 | 25 => 74 | 26 => 75 | 27 => 76 | 46 => 80 | 47 => 81 | 48 => 82 | 49 => 83 | 50 => 84 | 57 => 87 | n => n, fun | 22 => 34 | 24 => 3 | 25 => 57 | 3 => 3 | 39 => 104 | 0 => 0 | 53 => 117 | 55 => 119 | 4 => 4 | 46 => 110 | 45 => 109 | 50 => 114 | 5 => 5 | 9 => 9 | 66 => 123 | 70 => 127 | 76 => 130 | 77 => 131 | n => n, fun | n => n⟩
theorem Try.sortL : Go.Proofs.SlLaysF.n6 Try.prog Try.sortL_ren := {
  mixed := by kernel_rfl
  f6 := ⟨Try.f52.name, by decide, Try.func52.trans (congrArg some (by kernel_rfl))⟩
  f14 := ⟨Try.f63.name, by decide, Try.func63.trans (congrArg some (by kernel_rfl))⟩
  f15 := Try.func64.trans (congrArg some (by kernel_rfl))
  f20 := ⟨Try.f69.name, by decide, Try.func69.trans (congrArg some (by kernel_rfl))⟩
  f21 := ⟨Try.f70.name, by decide, Try.func70.trans (congrArg some (by kernel_rfl))⟩
  f22 := ⟨Try.f71.name, by decide, Try.func71.trans (congrArg some (by kernel_rfl))⟩
  f23 := ⟨Try.f72.name, by decide, Try.func72.trans (congrArg some (by kernel_rfl))⟩
  f24 := ⟨Try.f73.name, by decide, Try.func73.trans (congrArg some (by kernel_rfl))⟩
  f25 := ⟨Try.f74.name, by decide, Try.func74.trans (congrArg some (by kernel_rfl))⟩
  f26 := ⟨Try.f75.name, by decide, Try.func75.trans (congrArg some (by kernel_rfl))⟩
  f27 := ⟨Try.f76.name, by decide, Try.func76.trans (congrArg some (by kernel_rfl))⟩
  f28 := Try.func77.trans (congrArg some (by kernel_rfl))
  f29 := Try.func78.trans (congrArg some (by kernel_rfl))
  f46 := ⟨Try.f80.name, by decide, Try.func80.trans (congrArg some (by kernel_rfl))⟩
  f47 := Try.func81.trans (congrArg some (by kernel_rfl))
  f48 := Try.func82.trans (congrArg some (by kernel_rfl))
  f49 := ⟨Try.f83.name, by decide, Try.func83.trans (congrArg some (by kernel_rfl))⟩
  f50 := ⟨Try.f84.name, by decide, Try.func84.trans (congrArg some (by kernel_rfl))⟩
  f57 := ⟨Try.f87.name, by decide, Try.func87.trans (congrArg some (by kernel_rfl))⟩
  t0 := Try.underlying0
  a0 := Try.isAgg0
  z0 := Try.sizeOf0
  v0 := Try.zeroValue0
  t3 := Try.underlying3
  a3 := Try.isAgg3
  z3 := Try.sizeOf3
  v3 := Try.zeroValue3
  t4 := Try.underlying4
  a4 := Try.isAgg4
  z4 := Try.sizeOf4
  v4 := Try.zeroValue4
  t5 := Try.underlying5
  a5 := Try.isAgg5
  z5 := Try.sizeOf5
  v5 := Try.zeroValue5
  t9 := Try.underlying9
  a9 := Try.isAgg9
  z9 := Try.sizeOf9
  v9 := Try.zeroValue9
  t22 := Try.underlying34
  a22 := Try.isAgg34
  z22 := Try.sizeOf34
  v22 := Try.zeroValue34
  a24 := Try.isAgg3
  z24 := Try.sizeOf3
  t25 := Try.underlying57
  a25 := Try.isAgg57
  z25 := Try.sizeOf57
  v25 := Try.zeroValue57
  t39 := Try.underlying104
  a39 := Try.isAgg104
  z39 := Try.sizeOf104
  v39 := Try.zeroValue104
  t45 := Try.underlying109
  a45 := Try.isAgg109
  z45 := Try.sizeOf109
  v45 := Try.zeroValue109
  t46 := Try.underlying110
  a46 := Try.isAgg110
  z46 := Try.sizeOf110
  v46 := Try.zeroValue110
  t50 := Try.underlying114
  a50 := Try.isAgg114
  z50 := Try.sizeOf114
  v50 := Try.zeroValue114
  t53 := Try.underlying117
  a53 := Try.isAgg117
  z53 := Try.sizeOf117
  v53 := Try.zeroValue117
  t55 := Try.underlying119
  a55 := Try.isAgg119
  z55 := Try.sizeOf119
  v55 := Try.zeroValue119
  t66 := Try.underlying123
  a66 := Try.isAgg123
  z66 := Try.sizeOf123
  v66 := Try.zeroValue123
  t70 := Try.underlying127
  a70 := Try.isAgg127
  z70 := Try.sizeOf127
  v70 := Try.zeroValue127
  t76 := Try.underlying130
  a76 := Try.isAgg130
  z76 := Try.sizeOf130
  v76 := Try.zeroValue130
  t77 := Try.underlying131
  a77 := Try.isAgg131
  z77 := Try.sizeOf131
  v77 := Try.zeroValue131 }
def Try.delM_ren : Go.Shelf.Ren := ⟨fun | 45 => 46 | n => n, fun | 22 => 47 | 23 => 56 | 3 => 3 | 4 => 4 | 0 => 0 | n => n, fun | n => n⟩
theorem Try.delM : Go.Proofs.SlLaysE.n45 Try.prog Try.delM_ren := {
  mixed := by kernel_rfl
  f45 := ⟨Try.f46.name, by decide, Try.func46.trans (congrArg some (by kernel_rfl))⟩
  t0 := Try.underlying0
  a0 := Try.isAgg0
  z0 := Try.sizeOf0
  v0 := Try.zeroValue0
  t3 := Try.underlying3
  a3 := Try.isAgg3
  z3 := Try.sizeOf3
  v3 := Try.zeroValue3
  t4 := Try.underlying4
  a4 := Try.isAgg4
  z4 := Try.sizeOf4
  v4 := Try.zeroValue4
  t22 := Try.underlying47
  a22 := Try.isAgg47
  z22 := Try.sizeOf47
  v22 := Try.zeroValue47
  a23 := Try.isAgg56
  z23 := Try.sizeOf56 }
def Try.delI_ren : Go.Shelf.Ren := ⟨fun | 45 => 51 | n => n, fun | 22 => 45 | 23 => 34 | 3 => 3 | 4 => 4 | 0 => 0 | n => n, fun | n => n⟩
theorem Try.delI : Go.Proofs.SlLaysE.n45 Try.prog Try.delI_ren := {
  mixed := by kernel_rfl
  f45 := ⟨Try.f51.name, by decide, Try.func51.trans (congrArg some (by kernel_rfl))⟩
  t0 := Try.underlying0
  a0 := Try.isAgg0
  z0 := Try.sizeOf0
  v0 := Try.zeroValue0
  t3 := Try.underlying3
  a3 := Try.isAgg3
  z3 := Try.sizeOf3
  v3 := Try.zeroValue3
  t4 := Try.underlying4
  a4 := Try.isAgg4
  z4 := Try.sizeOf4
  v4 := Try.zeroValue4
  t22 := Try.underlying45
  a22 := Try.isAgg45
  z22 := Try.sizeOf45
  v22 := Try.zeroValue45
  a23 := Try.isAgg34
  z23 := Try.sizeOf34 }
end Go.Proofs
/- slices.Clone of a row of II. -/



namespace Go.Proofs.Ytnplbmbbocffbaa
open Go.RowKit Go.Shelf
set_option linter.unusedVariables false
set_option linter.unusedSimpArgs false
attribute [local go_sem ↓] Go.wp_at_zero Go.wp_at_succ
theorem infoEII : (Try.prog.info? 34).map (fun i => (i.zero, i.size, i.bytes)) = some (some (.slice none 0 0), 1, 24) := by kernel_rfl
def ClonePII (n : Nat) (cs : List Value) (w : World) (e : Ending) (w' : World) : Prop := ∃ v', e = .returned v' ∧ w'.ownsRow w.heap.size 34 1 v' n cs ∧ Below w.heap.size w w'
theorem own_emptyII {w : World} {base : Nat} (hb : base ≤ w.heap.size) : (w.alloc (.cells #[] 34)).ownsRow base 34 1 (.slice (some ⟨w.heap.size, 0, none⟩) 0 0) 0 [] := World.ownsRow_lit w #[] 0 hb (by unfold maxLen; omega) rfl
set_option maxRecDepth 100000 in
set_option maxHeartbeats 4000000 in
theorem cloneII (g o n cap : Nat) (cs : List Value) (w : World) (hc : ∀ j u, cs[j]? = some u → w.cell? ⟨g, o + j, none⟩ = some u) (hl : cs.length = n * 1) (h1 : ∀ u ∈ cs, u.oneCell' = true) (hn : n ≤ 100000) (hgl : g < w.heap.size) :
    Calls Try.prog 49 #[.slice (some ⟨g, o, none⟩) n cap] w (ClonePII n cs w) := by
  obtain ⟨i0, hi, hz0, hz1, hz2⟩ := info_parts infoEII
  have HC := Lib.hid (show ∀ (j : Nat) (u : Value), cs[j]? = some u → (w.alloc (.cells #[] 34)).cell? ((⟨g, o, none⟩ : Addr).add j) = some u from fun j u hj => by
    have := hc j u hj
    rw [add_none, World.cell?_alloc_lt _ _ _ (by simpa using hgl)]
    exact this)
  have HL := Lib.hid hl
  have HO := Lib.hid (own_emptyII (w := w) (Nat.le_refl _))
  have HA := Lib.hid (show Below w.heap.size w (w.alloc (.cells #[] 34)) from (Below.refl _ _).alloc (Nat.le_refl _) _)
  have H1 := Lib.hid h1
  have hne := fun w => Lib.run_eql_slice_nil (P := Try.prog) w 45 _ (some ⟨g, o, none⟩) n cap 0 0 Try.underlying45
  clear hc hl h1 hgl
  go_enter Try.func49, Try.ntmps49
  go_wp2_with (at_builtin; go_loud (refine wpList_append_own _ rfl _ _ 45 rfl w.heap.size 34 i0 _ 1 24 Try.underlying45 hi hz0 hz1 hz2 rfl (by decide) (.slice (some ⟨w.heap.size, 0, none⟩) 0 0) 0 [] rfl HO.out ⟨g, o, none⟩ n cap cs rfl HL.out HC.out H1.out (by unfold maxLen; omega) (by omega) (by simp) ?_; intro v' w1 hown hgrow hnil; have hB1 : Below w.heap.size w w1 := HA.out.grown hgrow (by simp) (fun k e => by simp [Value.ownBlock] at e; omega)))
  go_ret
  exact ⟨v', rfl, by simpa using hown, hB1⟩
set_option maxHeartbeats 1000000 in
theorem cloneNilII (w : World) : Calls Try.prog 49 #[.slice none 0 0] w (ClonePII 0 [] w) := by
  have hne := fun w => Lib.run_eql_slice_nil (P := Try.prog) w 45 _ none 0 0 0 0 Try.underlying45
  go_enter Try.func49, Try.ntmps49
  go_wp2
  go_ret
  exact ⟨_, rfl, World.ownsRow_nil _ _ _ _, Below.refl _ _⟩
end Go.Proofs.Ytnplbmbbocffbaa
/- slices.Delete takes one row of I out of a row of rows. -/
namespace Go.Proofs.Ytnplbmbbocffbaa
open Go.RowKit Go.Shelf Go.Lib Go.Sort
set_option linter.unusedVariables false
set_option linter.unusedSimpArgs false
theorem er_map {α β : Type} (f : α → β) (l : List α) (i : Nat) : (l.eraseIdx i).map f = (l.map f).eraseIdx i := by
  induction l generalizing i with
  | nil => rfl
  | cons a r ih => cases i with
    | zero => rfl
    | succ i => simp [ih]
theorem er_get {α : Type} [Inhabited α] (ds : List α) (z : α) (i j : Nat) (hi : i < ds.length) (hj : j < ds.length - 1) : (ds.eraseIdx i)[j]? = some ((ds.toArray.toList.take i ++ ds.toArray.toList.drop (i + 1) ++ List.replicate 1 z).toArray[j]!) := by
  have h : (ds.toArray.toList.take i ++ ds.toArray.toList.drop (i + 1) ++ List.replicate 1 z)[j]? = (ds.eraseIdx i)[j]? := by
    rw [List.getElem?_append_left (by simp; omega), List.getElem?_eraseIdx]
    by_cases hji : j < i
    · rw [if_pos hji, List.getElem?_append_left (by simp; omega), List.getElem?_take, if_pos hji]
    · rw [if_neg hji, List.getElem?_append_right (by simp; omega), List.getElem?_drop]
      congr 1
      simp
      omega
  rw [← h, getElem!_pos _ j (by simp; omega)]
  exact List.getElem?_eq_getElem (by simp; omega)
abbrev slV (p : Option Addr × Nat × Nat) : Value := .slice p.1 p.2.1 p.2.2
theorem dec_list : ∀ {vs : List Value}, (∀ v ∈ vs, ∃ p, v = slV p) → ∃ ds : List (Option Addr × Nat × Nat), ds.map slV = vs
  | [], _ => ⟨[], rfl⟩
  | v :: r, h => by
    obtain ⟨p, rfl⟩ := h v (by simp)
    obtain ⟨ds, rfl⟩ := dec_list (vs := r) (fun u hu => h u (List.mem_cons_of_mem _ hu))
    exact ⟨p :: ds, rfl⟩
theorem delI {B g n cap i : Nat} {vs : List Value} (w : World) (h : w.ownsRow B 34 1 (.slice (some ⟨g, 0, none⟩) n cap) n vs) (hvs : ∀ v ∈ vs, ∃ p, v = slV p) (hi : i < n) :
    Calls Try.prog 51 #[.slice (some ⟨g, 0, none⟩) n cap, .int .i64 (i : Int), .int .i64 ((i : Int) + 1)] w fun e w' => e = .returned (.slice (some ⟨g, 0, none⟩) (n - 1) cap) ∧ w'.ownsRow B 34 1 (.slice (some ⟨g, 0, none⟩) (n - 1) cap) (n - 1) (vs.eraseIdx i) ∧ Kept [g] w w' := by
  obtain ⟨ds, rfl⟩ := dec_list hvs
  obtain ⟨i0, hi0, hz0, hz1, hz2⟩ := info_parts infoEII
  obtain ⟨hlen, hex⟩ := h
  rw [List.length_map, Nat.mul_one] at hlen
  rcases hex with ⟨h0, _⟩ | ⟨g', cap', cur, h1, hB, hg, hle, hmx, hsz, ht⟩
  · cases h0
  · simp only [Value.slice.injEq, Option.some.injEq, Addr.mk.injEq] at h1
    obtain ⟨⟨rfl, _⟩, _, rfl⟩ := h1
    have hgl := (Array.getElem?_eq_some_iff.1 hg).1
    have hcell : ∀ j, j < n → cur[j]? = some (slV ds[j]!) := fun j hj => by
      have h2 : (cur.toList.take (n * 1))[j]? = (ds.map slV)[j]? := by rw [ht]
      rw [List.getElem?_take, if_pos (by omega), Array.getElem?_toList, List.getElem?_map, List.getElem?_eq_getElem (by omega)] at h2
      rw [h2, getElem!_pos ds j (by omega)]; rfl
    have hH : Holds slV w g 0 ds.toArray := fun j hj => by
      have hj' : j < n := by simpa [hlen] using hj
      refine ⟨?_, frozen_of_row w g (0 + j) _ _ hg⟩
      rw [Nat.zero_add, cell_of_row w g j _ _ _ hg, hcell j hj']
      simp
    have hs : ds.toArray.size = n := by simp [hlen]
    have hc := AnyE.slices_Delete Try.delI slV (fun _ => rfl) (none, 0, 0) (fun w => Try.zeroValue34 w) i0 hi0 hz1 g 0 cap i (i + 1) ds.toArray w hH (by rw [hs]; exact hle) (by unfold maxLen at hmx; omega) (by omega) (by rw [hs]; omega)
    rw [hs] at hc
    have hji : ((i + 1 : Nat) : Int) = (i : Int) + 1 := by omega
    rw [hji] at hc
    refine Calls.mono hc ?_
    rintro e w' ⟨rfl, q, rfl⟩
    rw [show i + 1 - i = 1 by omega]
    refine ⟨rfl, ?_, ⟨rfl, rfl, rfl, ?_, fun k hk hx => ?_⟩⟩
    · have hD : (ds.toArray.toList.take i ++ ds.toArray.toList.drop (i + 1) ++ List.replicate 1 (none, 0, 0)).toArray.size = ds.toArray.size := by simp [hlen]; omega
      have hH2 := holds_putRow slV (Sort.ahead w q) g 0 ds.toArray _ (holds_ahead slV w q g 0 ds.toArray hH) hD
      have hblk : (putRow slV (Sort.ahead w q) g 0 (ds.toArray.toList.take i ++ ds.toArray.toList.drop (i + 1) ++ List.replicate 1 (none, 0, 0)).toArray).heap[g]? = some (.cells (putCells slV 0 (ds.toArray.toList.take i ++ ds.toArray.toList.drop (i + 1) ++ List.replicate 1 (none, 0, 0)).toArray cur) 34 (0, 0)) := by
        unfold putRow mapBlock
        simp only [Array.getElem?_modify, if_true]
        show (w.heap[g]?).map _ = _
        rw [hg]; rfl
      refine ⟨?_, .inr ⟨g, cap, _, rfl, hB, hblk, by omega, hmx, ?_, ?_⟩⟩
      · rw [List.length_eraseIdx, List.length_map, if_pos (by omega)]; omega
      · simp [putCells, hsz]
      · refine List.ext_getElem? fun j => ?_
        rw [List.getElem?_take]
        by_cases hj : j < n - 1
        · rw [if_pos (by omega), Array.getElem?_toList]
          have h3 := (hH2 j (by rw [hD, hs]; omega)).1
          rw [Nat.zero_add, cell_of_row _ g j _ _ _ hblk] at h3
          rw [h3, ← er_map, List.getElem?_map, er_get ds (none, 0, 0) i j (by omega) (by omega)]
          rfl
        · rw [if_neg (by omega), List.getElem?_eq_none]
          rw [List.length_eraseIdx, List.length_map, if_pos (by omega)]; omega
    · unfold putRow mapBlock; simp [Sort.ahead]
    · unfold putRow mapBlock
      simp only [Array.getElem?_modify]
      rw [if_neg (by simp at hx; omega)]; rfl
end Go.Proofs.Ytnplbmbbocffbaa
/- slices.Delete takes one row of M out of a row of rows. -/
namespace Go.Proofs.Ytnplbmbbocffbaa
open Go.RowKit Go.Shelf Go.Lib Go.Sort
set_option linter.unusedVariables false
set_option linter.unusedSimpArgs false
theorem delM {B g n cap i : Nat} {vs : List Value} (w : World) (h : w.ownsRow B 56 1 (.slice (some ⟨g, 0, none⟩) n cap) n vs) (hvs : ∀ v ∈ vs, ∃ p, v = slV p) (hi : i < n) :
    Calls Try.prog 46 #[.slice (some ⟨g, 0, none⟩) n cap, .int .i64 (i : Int), .int .i64 ((i : Int) + 1)] w fun e w' => e = .returned (.slice (some ⟨g, 0, none⟩) (n - 1) cap) ∧ w'.ownsRow B 56 1 (.slice (some ⟨g, 0, none⟩) (n - 1) cap) (n - 1) (vs.eraseIdx i) ∧ Kept [g] w w' := by
  obtain ⟨ds, rfl⟩ := dec_list hvs
  obtain ⟨i0, hi0, hz0, hz1, hz2⟩ := info_parts infoEMM
  obtain ⟨hlen, hex⟩ := h
  rw [List.length_map, Nat.mul_one] at hlen
  rcases hex with ⟨h0, _⟩ | ⟨g', cap', cur, h1, hB, hg, hle, hmx, hsz, ht⟩
  · cases h0
  · simp only [Value.slice.injEq, Option.some.injEq, Addr.mk.injEq] at h1
    obtain ⟨⟨rfl, _⟩, _, rfl⟩ := h1
    have hgl := (Array.getElem?_eq_some_iff.1 hg).1
    have hcell : ∀ j, j < n → cur[j]? = some (slV ds[j]!) := fun j hj => by
      have h2 : (cur.toList.take (n * 1))[j]? = (ds.map slV)[j]? := by rw [ht]
      rw [List.getElem?_take, if_pos (by omega), Array.getElem?_toList, List.getElem?_map, List.getElem?_eq_getElem (by omega)] at h2
      rw [h2, getElem!_pos ds j (by omega)]; rfl
    have hH : Holds slV w g 0 ds.toArray := fun j hj => by
      have hj' : j < n := by simpa [hlen] using hj
      refine ⟨?_, frozen_of_row w g (0 + j) _ _ hg⟩
      rw [Nat.zero_add, cell_of_row w g j _ _ _ hg, hcell j hj']
      simp
    have hs : ds.toArray.size = n := by simp [hlen]
    have hc := AnyE.slices_Delete Try.delM slV (fun _ => rfl) (none, 0, 0) (fun w => Try.zeroValue56 w) i0 hi0 hz1 g 0 cap i (i + 1) ds.toArray w hH (by rw [hs]; exact hle) (by unfold maxLen at hmx; omega) (by omega) (by rw [hs]; omega)
    rw [hs] at hc
    have hji : ((i + 1 : Nat) : Int) = (i : Int) + 1 := by omega
    rw [hji] at hc
    refine Calls.mono hc ?_
    rintro e w' ⟨rfl, q, rfl⟩
    rw [show i + 1 - i = 1 by omega]
    refine ⟨rfl, ?_, ⟨rfl, rfl, rfl, ?_, fun k hk hx => ?_⟩⟩
    · have hD : (ds.toArray.toList.take i ++ ds.toArray.toList.drop (i + 1) ++ List.replicate 1 (none, 0, 0)).toArray.size = ds.toArray.size := by simp [hlen]; omega
      have hH2 := holds_putRow slV (Sort.ahead w q) g 0 ds.toArray _ (holds_ahead slV w q g 0 ds.toArray hH) hD
      have hblk : (putRow slV (Sort.ahead w q) g 0 (ds.toArray.toList.take i ++ ds.toArray.toList.drop (i + 1) ++ List.replicate 1 (none, 0, 0)).toArray).heap[g]? = some (.cells (putCells slV 0 (ds.toArray.toList.take i ++ ds.toArray.toList.drop (i + 1) ++ List.replicate 1 (none, 0, 0)).toArray cur) 56 (0, 0)) := by
        unfold putRow mapBlock
        simp only [Array.getElem?_modify, if_true]
        show (w.heap[g]?).map _ = _
        rw [hg]; rfl
      refine ⟨?_, .inr ⟨g, cap, _, rfl, hB, hblk, by omega, hmx, ?_, ?_⟩⟩
      · rw [List.length_eraseIdx, List.length_map, if_pos (by omega)]; omega
      · simp [putCells, hsz]
      · refine List.ext_getElem? fun j => ?_
        rw [List.getElem?_take]
        by_cases hj : j < n - 1
        · rw [if_pos (by omega), Array.getElem?_toList]
          have h3 := (hH2 j (by rw [hD, hs]; omega)).1
          rw [Nat.zero_add, cell_of_row _ g j _ _ _ hblk] at h3
          rw [h3, ← er_map, List.getElem?_map, er_get ds (none, 0, 0) i j (by omega) (by omega)]
          rfl
        · rw [if_neg (by omega), List.getElem?_eq_none]
          rw [List.length_eraseIdx, List.length_map, if_pos (by omega)]; omega
    · unfold putRow mapBlock; simp [Sort.ahead]
    · unfold putRow mapBlock
      simp only [Array.getElem?_modify]
      rw [if_neg (by simp at hx; omega)]; rfl
end Go.Proofs.Ytnplbmbbocffbaa
/- Rows of rows of M of the call's own; those that are filled. -/
namespace Go.Proofs.Ytnplbmbbocffbaa
open Go.RowKit Go.Shelf
set_option linter.unusedVariables false
set_option linter.unusedSimpArgs false
attribute [local go_sem ↓] Go.wp_at_zero Go.wp_at_succ
theorem own_monoM {w : World} {B B' e size n : Nat} {v : Value} {xs : List Value} (h : w.ownsRow B' e size v n xs) (hB : B ≤ B') : w.ownsRow B e size v n xs := by
  refine ⟨h.1, ?_⟩
  rcases h.2 with h2 | ⟨g, cap, cur, h1, hb, r⟩
  · exact .inl h2
  · exact .inr ⟨g, cap, cur, h1, by omega, r⟩
theorem own_rowAtM {B : Nat} {w : World} {u : Value} {l : List (Int × Int)} (h : w.ownsRow B 54 2 u l.length (cLM l)) : RowAtM w.heap.size w u l := by
  obtain ⟨A, cap, hv, hle, hmx⟩ := own_len h
  refine ⟨A, cap, hv, hle, by unfold maxLen at hmx; omega, fun i x hx => ?_⟩
  have hi := (List.getElem?_eq_some_iff.1 hx).1
  obtain ⟨g, cap', hv', hB, hl, _, _, _⟩ := own_form h (by omega)
  rw [hv] at hv'
  simp only [Value.slice.injEq] at hv'
  obtain ⟨rfl, _, rfl⟩ := hv'
  refine ⟨g, 0, rfl, hl, hl, fun j v hv2 => ?_⟩
  rw [Nat.zero_add]
  exact own_cell h (g := g) (by rw [hv]; rfl) (cL_getM l i x hx j v hv2)
/-- A slice that reads as a row of rows. -/
structure RInM (N : Nat) (w : World) (A : Option Addr) (cap : Nat) (rs : List (List (Int × Int))) : Prop where
  le : rs.length ≤ cap
  mx : cap ≤ 9223372036854775807
  at_ : ∀ i l, rs[i]? = some l → ∃ b o v, A = some ⟨b, o, none⟩ ∧ w.cell? ⟨b, o + i, none⟩ = some v ∧ RowAtM N w v l
theorem RInM.later {N cap : Nat} {w w' : World} {A : Option Addr} {rs : List (List (Int × Int))} (h : RInM N w A cap rs) (hb : Below w.heap.size w w') : RInM N w' A cap rs := ⟨h.le, h.mx, fun i l hl => by
  obtain ⟨b, o, v, h1, h2, h3⟩ := h.at_ i l hl
  exact ⟨b, o, v, h1, (hb.cell (p := ⟨b, o + i, none⟩) (World.block_lt_of_cell? w _ h2)).trans h2, h3.later hb⟩⟩
structure Own2M (B : Nat) (w : World) (v : Value) (vs : List Value) (rs : List (List (Int × Int))) : Prop where
  row : w.ownsRow B 56 1 v vs.length vs
  len : vs.length = rs.length
  each : ∀ (i : Nat) (u : Value) (l : List (Int × Int)), vs[i]? = some u → rs[i]? = some l → w.ownsRow B 54 2 u l.length (cLM l)
section
variable {B : Nat} {w w' : World} {v : Value} {vs : List Value} {rs : List (List (Int × Int))}
theorem Own2M.nil (B : Nat) (w : World) : Own2M B w (.slice none 0 0) [] [] := ⟨World.ownsRow_nil _ _ _ _, rfl, by simp⟩
theorem Own2M.later (h : Own2M B w v vs rs) (hb : Below w.heap.size w w') : Own2M B w' v vs rs := ⟨(Kept.of [] hb).row h.row (by simp), h.len, fun i u l hu hl => (Kept.of [] hb).row (h.each i u l hu hl) (by simp)⟩
theorem Own2M.rin (h : Own2M B w v vs rs) : ∃ A cap, v = .slice A rs.length cap ∧ RInM w.heap.size w A cap rs := by
  obtain ⟨A, cap, hv, hle, hmx⟩ := own_len h.row
  rw [h.len] at hv hle
  refine ⟨A, cap, hv, ⟨hle, by unfold maxLen at hmx; omega, fun i l hl => ?_⟩⟩
  have hi := (List.getElem?_eq_some_iff.1 hl).1
  obtain ⟨u, hu⟩ : ∃ u, vs[i]? = some u := ⟨vs[i]'(by rw [h.len]; exact hi), List.getElem?_eq_getElem _⟩
  obtain ⟨g, cap', hv', hB, hgl, _, _, _⟩ := own_form h.row (by rw [h.len]; omega)
  rw [hv] at hv'
  simp only [Value.slice.injEq] at hv'
  obtain ⟨rfl, _, rfl⟩ := hv'
  refine ⟨g, 0, u, rfl, ?_, own_rowAtM (h.each i u l hu hl)⟩
  rw [Nat.zero_add]
  exact own_cell h.row (g := g) (by rw [hv]; rfl) hu
theorem Own2M.push {v' u : Value} {l : List (Int × Int)} (h : Own2M B w v vs rs) (hu : w.ownsRow B 54 2 u l.length (cLM l)) (hown : w'.ownsRow B 56 1 v' (vs.length + 1) (vs ++ [u])) (hgr : w.grownBy w' v.ownBlock) : Own2M B w' v' (vs ++ [u]) (rs ++ [l]) := by
  have hk : ∀ {u : Value} {l : List (Int × Int)}, w.ownsRow B 54 2 u l.length (cLM l) → w'.ownsRow B 54 2 u l.length (cLM l) := fun {u l} h0 =>
    (kept_grown (X := v.ownBlock.toList) hgr (fun k e => by simp [e])).row h0 (fun g hg hm => by
      rw [Option.mem_toList] at hm
      obtain ⟨g0, cap, hv, -, hgl, -⟩ : ∃ g0 cap, u = .slice (some ⟨g0, 0, none⟩) l.length cap ∧ B ≤ g0 ∧ g0 < w.heap.size ∧ True := by
        rcases h0.2 with ⟨rfl, _⟩ | ⟨g0, cap, cur, rfl, hb, hh, _⟩
        · simp [Value.ownBlock] at hg
        · exact ⟨g0, cap, rfl, hb, (Array.getElem?_eq_some_iff.1 hh).1, trivial⟩
      rcases h0.2 with ⟨h1, _⟩ | ⟨g1, cap1, cur, h1, hb, hh, _⟩
      · rw [hv] at h1; cases h1
      · rw [h1] at hg
        simp only [Value.ownBlock, Option.some.injEq] at hg
        subst hg
        exact own_ne h.row hh (by decide) hm)
  refine ⟨by rw [List.length_append]; exact hown, by simp [h.len], fun i a b ha hb => ?_⟩
  rw [List.getElem?_append] at ha hb
  rw [h.len] at ha
  split at ha
  · rename_i hlt
    rw [if_pos hlt] at hb
    exact hk (h.each i a b ha hb)
  · rename_i hlt
    rw [if_neg hlt] at hb
    rw [List.getElem?_singleton] at ha hb
    split at ha
    · rename_i he
      rw [if_pos he] at hb
      cases ha; cases hb
      exact hk hu
    · cases ha
end
def FilPostM (rs : List (List (Int × Int))) (w : World) (e : Ending) (w' : World) : Prop := ∃ v vs, e = .returned v ∧ Own2M w.heap.size w' v vs rs ∧ Below w.heap.size w w'
structure FilInM (w wr : World) (v : Value) (rs : List (List (Int × Int))) : Prop where
  own : ∃ vs, Own2M w.heap.size wr v vs rs
  bel : Below w.heap.size w wr
set_option maxRecDepth 100000 in
set_option maxHeartbeats 8000000 in
theorem filM_any {N cap : Nat} {A : Option Addr} {rs : List (List (Int × Int))} (w : World) (hR : RInM N w A cap rs) (hn : rs.length ≤ 1000) (hl : ∀ l ∈ rs, l.length ≤ 1000) :
    Calls Try.prog 42 #[.slice A rs.length cap] w (FilPostM (fil rs) w) := by
  obtain ⟨i0, hi, hz0, hz1, hz2⟩ := info_parts infoEMM
  have HR := Lib.hid hR
  have HLL := Lib.hid hl
  obtain ⟨n, hn0⟩ : ∃ n, rs.length = n := ⟨_, rfl⟩
  have HN := Lib.hid hn0
  rw [hn0] at hn ⊢
  clear hR hl hn0
  go_enter Try.func42, Try.ntmps42
  go_wp2
  go_loopw [3, 8] (fun v i wr => ∃ k : Nat, k ≤ n ∧ i = .int .i64 (k : Int) ∧ Hid (FilInM w wr v (fil (rs.take k)))) (fun _ i _ => n - (intOf i).toNat)
  case atStart => exact ⟨0, Nat.zero_le _, rfl, Lib.hid ⟨⟨[], Own2M.nil _ _⟩, Below.refl _ _⟩⟩
  case round =>
    obtain ⟨k, hk, rfl, hI⟩ := hrel
    by_cases hlt : k < n
    · obtain ⟨l, hx⟩ : ∃ l, rs[k]? = some l := ⟨rs[k]'(by rw [HN.out]; exact hlt), List.getElem?_eq_getElem _⟩
      obtain ⟨b, o, u, rfl, e1, hRow⟩ := HR.out.at_ k l hx
      have e2 := (hI.out.bel.cell (p := ⟨b, o + k, none⟩) (World.block_lt_of_cell? w _ e1)).trans e1
      have hRw := hRow.later hI.out.bel
      have hi0 : (0 : Int) ≤ (k : Int) := by omega
      have hi1 : (k : Int) < (n : Int) := by omega
      have HT : Hid (fil (rs.take (k + 1)) = if l = [] then fil (rs.take k) else fil (rs.take k) ++ [l]) := Lib.hid (by
        rw [List.take_add_one, hx]
        simp only [fil, List.filter_append, Option.toList_some]
        cases l <;> simp)
      have HLK := Lib.hid (HLL.out l (List.mem_of_getElem? hx))
      have HRW := Lib.hid hRw
      clear hRow hRw hx
      cases l with
      | nil =>
        obtain ⟨A1, c1, rfl, _⟩ := HRW.out.ex
        clear e1
        go_wp2
        refine ⟨⟨k + 1, by omega, by go_num, ?_⟩, by first | (simp [intOf]; done) | (simp [intOf]; omega)⟩
        rw [HT.out, if_pos rfl]
        exact hI
      | cons x xs =>
        obtain ⟨vs, hO⟩ := hI.out.own
        obtain ⟨g, q, c1, rfl, a1, a2, a3, a4, _⟩ := HRW.out.head
        have hz : (0 : Int) < ((xs.length + 1 : Nat) : Int) := by omega
        have hall : ∀ j u, (cLM (x :: xs))[j]? = some u → wr.cell? ⟨g, q + j, none⟩ = some u := by
          intro j u hu
          obtain ⟨A2, cap2, e, _, _, h3⟩ := HRW.out.ex
          simp only [Value.slice.injEq] at e
          obtain ⟨rfl, _, rfl⟩ := e
          have hjl := (List.getElem?_eq_some_iff.1 hu).1
          rw [cL_lenM] at hjl
          obtain ⟨i, r, rfl, hr⟩ : ∃ i r, j = i * 2 + r ∧ r < 2 := ⟨j / 2, j % 2, by omega, by omega⟩
          have hil : i < (x :: xs).length := by omega
          obtain ⟨g2, q2, b1, b2, b3, b4⟩ := h3 i _ (List.getElem?_eq_getElem hil)
          simp only [Option.some.injEq, Addr.mk.injEq] at b1
          obtain ⟨rfl, rfl, _⟩ := b1
          obtain ⟨u', hu'⟩ : ∃ u', (cEM ((x :: xs)[i]'hil))[r]? = some u' := ⟨(cEM ((x :: xs)[i]'hil))[r]'(by simp [cEM]; omega), List.getElem?_eq_getElem _⟩
          have h5 := cL_getM (x :: xs) i _ (List.getElem?_eq_getElem hil) r u' hu'
          rw [hu] at h5
          cases h5
          rw [← Nat.add_assoc]
          exact b4 r u hu'
        have CL := cloneM g q (xs.length + 1) c1 (cLM (x :: xs)) wr hall (by rw [cL_lenM]; rfl) (cL_oneM _) (by have := HLK.out; rw [List.length_cons] at this; omega) a4
        have HCL := Lib.hid CL
        have HO := Lib.hid hO
        have HBW := Lib.hid hI.out.bel
        have HVL := Lib.hid (show vs.length ≤ 1000 by
          rw [hO.len]
          have h1 : (fil (rs.take k)).length ≤ (rs.take k).length := List.length_filter_le _ _
          rw [List.length_take] at h1
          omega)
        clear CL hO hI hall e1 a1 a2 a3 a4
        generalize hm : xs.length + 1 = m at *
        have HM := Lib.hid hm
        clear hm
        go_wp2_with (first
          | (go_at_call 60; (with_reducible refine HCL.out.mono ?_); rintro e w1 ⟨u, rfl, hu, hB1⟩; have HU := Lib.hid hu; have HB1 := Lib.hid hB1; have HO1 := Lib.hid (HO.out.later hB1); have HS := Lib.hid (Nat.le_trans HBW.out.size hB1.size); obtain ⟨Au, cu, rfl, _, _⟩ := own_len hu; clear hu hB1)
          | (refine wpList_append_own _ rfl _ _ 47 rfl w.heap.size 56 i0 _ 1 24 Try.underlying47 hi hz0 hz1 hz2 rfl (by decide) _ vs.length vs rfl (HO1.out.row.alloc _) ⟨w1.heap.size, 0, none⟩ 1 1 [.slice Au m cu] rfl rfl (fun j v hv => by cases j with | zero => simp only [List.getElem?_cons_zero, Option.some.injEq] at hv; rw [add_none, Nat.zero_add, cell_of_row _ _ 0 _ _ _ (heap_alloc_new _ _), ← hv]; rfl | succ j => simp at hv) (by intro v hv; simp only [List.mem_singleton] at hv; subst hv; rfl) (by have := HVL.out; unfold maxLen; omega) (by have := HVL.out; omega) (by have := HS.out; simp; omega) ?_; intro v' w8 hown' hgrow hnil'))
        refine ⟨⟨k + 1, by omega, by go_num, ?_⟩, by first | (simp [intOf]; done) | (simp [intOf]; omega)⟩
        rw [HT.out, if_neg (by simp)]
        have ba : Below w1.heap.size w1 (w1.alloc (.cells #[.slice Au m cu] 56)) := (Below.refl _ _).alloc (Nat.le_refl _) _
        have hu : w1.ownsRow w.heap.size 54 2 (.slice Au m cu) (x :: xs).length (cLM (x :: xs)) := by
          rw [List.length_cons, HM.out]
          exact own_monoM HU.out HBW.out.size
        have hO8 := (HO1.out.later ba).push ((Kept.of [] ba).row hu (by simp)) hown' hgrow
        exact Lib.hid ⟨⟨_, hO8⟩, ((HBW.out.trans (HB1.out.mono HBW.out.size)).trans (ba.mono HS.out)).grown hgrow (by have := HS.out; simp; omega) (fun q hq => (HO1.out.row.lt q hq).1)⟩
    · obtain rfl : k = n := by omega
      obtain ⟨vs, hO⟩ := hI.out.own
      obtain ⟨Av, cv, rfl, _, _⟩ := own_len hO.row
      go_wp2
      go_ret
      rw [List.take_of_length_le (by rw [HN.out]; exact Nat.le_refl _)] at hO
      exact ⟨_, vs, rfl, hO, hI.out.bel⟩
end Go.Proofs.Ytnplbmbbocffbaa
/- A range over a function that stores into rows of its own: of one kind, made since. -/
namespace Go.Proofs.Ytnplbmbbocffbaa
open Go.RowKit Go.Shelf
set_option linter.unusedVariables false

/-- Nothing turned but rows of kind T that lie at B or behind. -/
structure KeptT (T : TypeId) (B : Nat) (W W' : World) : Prop where
  os : W'.os = W.os
  tape : W'.tape = W.tape
  output : W'.output = W.output
  size : W.heap.size ≤ W'.heap.size
  block : ∀ k, k < W.heap.size → (∀ cs fr, W.heap[k]? = some (.cells cs T fr) → k < B) → W'.heap[k]? = W.heap[k]?
theorem KeptT.below {T : TypeId} {B : Nat} {W W' : World} (h : Below W.heap.size W W') : KeptT T B W W' := ⟨h.os, h.tape, h.output, h.size, fun k hk _ => h.block k hk⟩
theorem KeptT.kept {T : TypeId} {B : Nat} {X : List Nat} {W W' : World} (h : Kept X W W') (hX : ∀ k ∈ X, B ≤ k ∧ ∃ cs fr, W.heap[k]? = some (.cells cs T fr)) : KeptT T B W W' := ⟨h.os, h.tape, h.output, h.size, fun k hk ht => h.block k hk (fun hm => by
  obtain ⟨h1, cs, fr, h2⟩ := hX k hm
  have := ht cs fr h2
  omega)⟩
theorem KeptT.mono {T : TypeId} {B B' : Nat} {W W' : World} (h : KeptT T B' W W') (hB : B ≤ B') : KeptT T B W W' := ⟨h.os, h.tape, h.output, h.size, fun k hk ht => h.block k hk (fun cs fr hc => by have := ht cs fr hc; omega)⟩
theorem KeptT.box {T : TypeId} {B b : Nat} {W W' : World} {t : TypeId} {v : Value} (h : KeptT T B W W') (hb : Boxed W b t v) (hT : t ≠ T) : Boxed W' b t v := (h.block b hb.lt (fun cs fr hc => by
  have : W.heap[b]? = some (.cells #[v] t (0, 0)) := hb
  rw [this] at hc
  simp only [Option.some.injEq, Obj.cells.injEq] at hc
  exact absurd hc.2.1 hT)).trans hb
theorem KeptT.bel {T : TypeId} {B : Nat} {W W' : World} (h : KeptT T B W W') (hB : B ≤ W.heap.size) : Below B W W' := ⟨h.os, h.tape, h.output, h.size, fun k hk => h.block k (by omega) (fun _ _ _ => hk)⟩
theorem KeptT.row {T : TypeId} {B base e size k : Nat} {W W' : World} {v : Value} {xs : List Value} (h : KeptT T B W W') (hr : W.ownsRow base e size v k xs) (he : e ≠ T) : W'.ownsRow base e size v k xs := by
  obtain ⟨h1, h2⟩ := hr
  refine ⟨h1, ?_⟩
  rcases h2 with h2 | ⟨g, cap, cur, hv, hg, hh, r⟩
  · exact .inl h2
  · subst hv
    refine .inr ⟨g, cap, cur, rfl, hg, (h.block g (Array.getElem?_eq_some_iff.1 hh).1 (fun cs fr hc => ?_)).trans hh, r⟩
    rw [hh] at hc
    simp only [Option.some.injEq, Obj.cells.injEq] at hc
    exact absurd hc.2.1 he
theorem Two.keptT {T : TypeId} {B D : Nat} {r : Loop} {W W' : World} (h : Two D r W) (hk : KeptT T B W W') : Two D r W' :=
  ⟨(hk.block D (Array.getElem?_eq_some_iff.1 h.d).1 (fun cs fr hc => by rw [h.d] at hc; cases hc)).trans h.d, (hk.block (D + 1) (Array.getElem?_eq_some_iff.1 h.l).1 (fun cs fr hc => by rw [h.l] at hc; cases hc)).trans h.l⟩
theorem KeepC.row {X : List Nat} {W W' : World} (h : KeepC X W W') {base e size k : Nat} {v : Value} {xs : List Value} (hr : W.ownsRow base e size v k xs) (hx : ∀ g, v.ownBlock = some g → g ∉ X) : W'.ownsRow base e size v k xs := by
  obtain ⟨h1, h2⟩ := hr
  refine ⟨h1, ?_⟩
  rcases h2 with h2 | ⟨g, cap, cur, hv, hg, hh, r⟩
  · exact .inl h2
  · subst hv
    exact .inr ⟨g, cap, cur, rfl, hg, h.block g _ _ _ (hx g rfl) hh, r⟩
theorem KeepC.box {X : List Nat} {W W' : World} {b : Nat} {t : TypeId} {v : Value} (h : KeepC X W W') (hb : Boxed W b t v) (hx : b ∉ X) : Boxed W' b t v := h.block b _ _ _ hx hb
/-- An iterator's word. -/
def SeqT {E : Type} (T : TypeId) (vals : E → Array Value) (n g : Nat) (lb : Array Value) (X : List Nat) (L : List E) (w0 : World) : Prop :=
  ∀ (l : Nat) (J Jx : List E → World → Prop) (W : World), Below w0.heap.size w0 W → (∀ pre W1 W2, J pre W1 → KeptT T W.heap.size W1 W2 → J pre W2) →
    (∀ pre x r W1, J pre W1 → L = pre ++ x :: r → YieldAt Fence.wide (n - 1) Try.prog l (vals x) W1 fun e W' =>
      (e = .returned (.bool true) ∧ J (pre ++ [x]) W' ∧ KeepC X W1 W') ∨ (e = .returned (.bool false) ∧ Jx (pre ++ [x]) W')) →
    J [] W →
    CallsIn Fence.wide n Try.prog g (#[.func (.yield l) #[] #[]] ++ lb) W fun e W' => (∃ v, e = .returned v) ∧ (J L W' ∨ (∃ pre x r, L = pre ++ x :: r ∧ Jx (pre ++ [x]) W'))

set_option maxHeartbeats 1000000 in
/-- The law for a caller. fr: what the assignment to the loop's variables leaves. -/
theorem rangeT {E : Type} {T : TypeId} {vals : E → Array Value} {g : Operand} {ps : Array Tmp} {assign body : Code} {Q : Exit → Act → World → Prop} {a : Act} {w : World} {n gf : Nat} {lb : Array Value} {X : List Nat} {L : List E} {w0 : World}
    (hg : a.eval g = .func (.func gf) #[] lb) (eg : ∀ args w, (callFunc gf args).run Try.prog w = .ok (.enter gf args) w)
    (hseq : SeqT T vals (n - 1) gf lb X L w0) (hb0 : Below w0.heap.size w0 w) (hps : ∀ x, (vals x).size = ps.size)
    (I : List E → World → Prop) (Ix : Code → List E → World → Prop) (hI : OwnFrom w.heap.size I) (hIx : ∀ c, OwnFrom w.heap.size (Ix c)) (hIT : ∀ pre W1 W2, I pre W1 → KeptT T w.heap.size W1 W2 → I pre W2) (h0 : I [] w)
    (fr : E → Act)
    (hassign : ∀ (l : Nat) (x : E) (W : World) (K : Act → World → Prop), K (fr x) W →
      assign.wpIn (Fence.wide.inRound l) (n - 1 - 1) Try.prog (Exit.then K (fun _ _ _ => False)) { tmps := (ps.zip (vals x)).foldl (fun t (p, v) => t.setIfInBounds p v) a.tmps, defers := [] } W)
    (hbody : ∀ (l : Nat) (pre : List E) (x : E) (r : List E) (W : World), I pre W → L = pre ++ x :: r →
      body.wpIn (Fence.wide.inRound l) (n - 1 - 1) Try.prog (postA w.heap.size X I Ix (pre ++ [x]) W) (fr x) W)
    (hdone : ∀ (D : Nat) (W : World), w.heap.size ≤ D → I L W → W.heap[D]? = some (.deferred (some [])) → Q .normal { a with defers := { target := .collected D, args := #[] } :: a.defers } W)
    (hstop : ∀ (D : Nat) (c : Code) (pre : List E) (x : E) (r : List E) (W : World), w.heap.size ≤ D → L = pre ++ x :: r → Ix c (pre ++ [x]) W → W.heap[D]? = some (.deferred (some [])) → c.wpIn Fence.wide n Try.prog Q { a with defers := { target := .collected D, args := #[] } :: a.defers } W) :
    (Code.rangeFunc g ps assign body).wpIn Fence.wide n Try.prog Q a w := by
  refine wpIn_rangeFunc fun fn hfn => ?_
  obtain ⟨D, hD⟩ : ∃ D, D = w.heap.size := ⟨_, rfl⟩
  obtain ⟨rc, hrc⟩ : ∃ rc : LoopState → Option Code → Loop, rc = fun st pe => { state := st, pending := pe, fn, tmps := a.tmps, params := ps, assign, body, defers := D } := ⟨_, rfl⟩
  obtain ⟨V, hV⟩ : ∃ V, (w.alloc (.deferred (some []))).alloc (.loop (rc .ready none)) = V := ⟨_, rfl⟩
  have hV2 : Two D (rc .ready none) V := by
    rw [← hV, hD]
    refine ⟨(Below.heap_alloc _ _ _ (by simp)).trans (World.alloc_heap_new w _), ?_⟩
    have := World.alloc_heap_new (w.alloc (.deferred (some []))) (.loop (rc .ready none))
    rwa [World.size_alloc] at this
  have hVI : I [] V := by rw [← hV]; exact hI.alloc _ (hI.alloc _ h0)
  have hVb : Below w.heap.size w V := by
    rw [← hV]
    exact (((Below.refl _ w).alloc (Nat.le_refl _) _).alloc (by simp) _)
  have put : ∀ {pre : List E} {W : World} {r : Loop} (r' : Loop), I pre W → Two D r W → I pre (W.putObj (D + 1) (.loop r')) := fun r' hi h2 => hI.putObj _ hi (by omega) h2.l rfl
  have putx : ∀ {c : Code} {pre : List E} {W : World} {r : Loop} (r' : Loop), Ix c pre W → Two D r W → Ix c pre (W.putObj (D + 1) (.loop r')) := fun r' hi h2 => (hIx _).putObj _ hi (by omega) h2.l rfl
  refine ⟨D + 1, [{ target := .collected D, args := #[] }], V, { target := .fn (.func gf) lb, args := #[.func (.yield (D + 1)) #[] #[]] }, V, gf, #[.func (.yield (D + 1)) #[] #[]] ++ lb, V, ?_, ?_, ?_, ?_, ?_, ?_⟩
  · rw [← hV, hrc, hD]; exact run_enterLoop_outer _ _ _ _ _
  · simp only [resolve, hg]
    simp [go_sem]
  · intro f' _; trivial
  · simp [invoke, go_sem, eg]
  · intro h; cases h
  · refine (hseq (D + 1) (fun pre W => I pre W ∧ Two D (rc .ready none) W) (fun pre W => ∃ c, Ix c pre W ∧ Two D (rc .done (some c)) W) V (hb0.trans (hVb.mono hb0.size))
      (fun s X Z hs hk => ⟨hIT s X Z hs.1 (hk.mono hVb.size), hs.2.keptT hk⟩)
      ?_ ⟨hVI, hV2⟩).mono ?_
    · rintro pre x r W ⟨hi, h2⟩ hL
      have hy := run_yield (P := Try.prog) (args := vals x) h2.l (by rw [hrc]; exact hps x)
      rw [hrc] at hy
      refine ⟨fn, _, assign, body, hy, roundIn_of_wpIn trivial (hassign _ x W _ ?_)⟩
      clear hy
      refine ⟨_, run_beginRound h2.l (by rw [hrc]), ?_⟩
      have h2b := h2.put { rc .ready none with state := .busy }
      have kc := KeepC.put (X := X) (.loop { rc .ready none with state := .busy }) h2.l rfl
      refine wpIn_mono (hbody _ pre x r _ (put _ hi h2) hL) ?_
      generalize W.putObj (D + 1) (.loop { rc .ready none with state := .busy }) = Wb at *
      rw [← hD]
      have fin : ∀ (jump : Option Code) (W3 : World), KeepsFrom D Wb W3 →
          (Instr.endRound (D + 1) jump).run Try.prog W3 = .ok (.bool jump.isNone) (W3.putObj (D + 1) (.loop (rc (if jump.isNone then .ready else .done) jump))) ∧ Two D { rc .ready none with state := .busy } W3 := fun jump W3 hk3 => by
        have h3 := h2b.from hk3
        have := run_endRound (P := Try.prog) jump h3.l
        rw [hrc] at this h3 ⊢
        exact ⟨this, h3⟩
      rintro e a3 W3 hp
      cases e with
      | normal =>
        obtain ⟨hk3, hc3, hi3⟩ := hp
        obtain ⟨hr, h3⟩ := fin none W3 hk3
        exact ⟨_, _, hr, .inl ⟨rfl, ⟨put _ hi3 h3, h3.put _⟩, (kc.trans hc3).trans (KeepC.put _ h3.l rfl)⟩⟩
      | ret =>
        obtain ⟨hk3, hi3⟩ := hp
        obtain ⟨hr, h3⟩ := fin (some .ret) W3 hk3
        exact ⟨_, _, hr, .inr ⟨rfl, ⟨.ret, putx _ hi3 h3, h3.put _⟩⟩⟩
      | exit id =>
        obtain ⟨hk3, hi3⟩ := hp
        obtain ⟨hr, h3⟩ := fin (some (.exit id)) W3 hk3
        exact ⟨_, _, hr, .inr ⟨rfl, ⟨.exit id, putx _ hi3 h3, h3.put _⟩⟩⟩
      | goto t =>
        obtain ⟨hk3, hi3⟩ := hp
        obtain ⟨hr, h3⟩ := fin (some (.goto t)) W3 hk3
        exact ⟨_, _, hr, .inr ⟨rfl, ⟨.goto t, putx _ hi3 h3, h3.put _⟩⟩⟩
      | panic ch => exact hp.elim
      | outgrown => exact hp.elim
    · rintro e W2 ⟨⟨v, rfl⟩, (⟨hi, h2⟩ | ⟨pre, x, r, hL, ⟨c, hi, h2⟩⟩)⟩
      · have he := run_endLoop (P := Try.prog) h2.l (by rw [hrc]; simp)
        rw [hrc] at he
        exact ⟨none, _, he, hdone D _ (Nat.le_of_eq hD.symm) (put _ hi h2) ((World.putObj_heap_other (by omega)).trans h2.d)⟩
      · have he := run_endLoop (P := Try.prog) h2.l (by rw [hrc]; simp)
        rw [hrc] at he
        exact ⟨some c, _, he, hstop D c pre x r _ (Nat.le_of_eq hD.symm) hL (putx _ hi h2) ((World.putObj_heap_other (by omega)).trans h2.d)⟩
end Go.Proofs.Ytnplbmbbocffbaa
/- Rows of M merged. -/
namespace Go.Proofs.Ytnplbmbbocffbaa
open Go.RowKit Go.Shelf
set_option linter.unusedVariables false
set_option linter.unusedSimpArgs false
attribute [local go_sem] Oper.semAt_some
/-- What the iterator holds. -/
structure MgM (N : Nat) (w : World) (b1 b2 : Nat) (rs : List (List (Int × Int))) : Prop where
  ex : ∃ w1 v vs, N = w1.heap.size ∧ Below N w1 w ∧ Boxed w1 b1 47 v ∧ Own2M 0 w1 v vs rs ∧ Boxed w1 b2 55 (.func (.func 21) #[] #[])
  ne : ∀ l ∈ rs, l ≠ []
  few : rs.length ≤ 1000
theorem MgM.later {N b1 b2 : Nat} {w w' : World} {rs : List (List (Int × Int))} (h : MgM N w b1 b2 rs) (hb : Below w.heap.size w w') : MgM N w' b1 b2 rs := by
  obtain ⟨w1, v, vs, h1, h2, h3⟩ := h.ex
  exact ⟨⟨w1, v, vs, h1, h2.trans (hb.mono (by rw [h1] at h2 ⊢; exact h2.size)), h3⟩, h.ne, h.few⟩
theorem fil_neM (rs : List (List (Int × Int))) : ∀ l ∈ fil rs, l ≠ [] := fun l hl => by
  have := (List.mem_filter.1 hl).2
  intro h
  subst h
  simp at this
section
attribute [local go_sem ↓] Go.wp_at_zero Go.wp_at_succ
set_option maxRecDepth 100000 in
set_option maxHeartbeats 2000000 in
theorem mergeM {N cap : Nat} {A : Option Addr} {rs : List (List (Int × Int))} (w : World) (hR : RInM N w A cap rs) (hn : rs.length ≤ 1000) (hl : ∀ l ∈ rs, l.length ≤ 1000) :
    Calls Try.prog 20 #[.func (.func 21) #[] #[], .slice A rs.length cap] w fun e w' => ∃ b1 b2, e = .returned (.func (.func 43) #[] #[.pointer (some ⟨b1, 0, none⟩), .pointer (some ⟨b2, 0, none⟩)]) ∧ MgM w'.heap.size w' b1 b2 (fil rs) ∧ Below w.heap.size w w' := by
  have hb0 : Below w.heap.size w (w.alloc (.cells #[.func (.func 21) #[] #[]] 55)) := (Below.refl _ _).alloc (Nat.le_refl _) _
  have PF := filM_any (w.alloc (.cells #[.func (.func 21) #[] #[]] 55)) (hR.later hb0) hn hl
  have HP := Lib.hid PF
  have HB0 := Lib.hid hb0
  have HF : Hid ((fil rs).length ≤ 1000) := Lib.hid (by
    have : (fil rs).length ≤ rs.length := List.length_filter_le _ _
    omega)
  generalize rs.length = n at *
  clear hR hl PF hb0
  go_enter Try.func20, Try.ntmps20
  go_wp2_with (go_at_call 42; (with_reducible refine HP.out.mono ?_); rintro e w1 ⟨v, vs, rfl, hO, hB1⟩; have HO := Lib.hid hO; have HB1 := Lib.hid hB1; obtain ⟨Av, cv, rfl, _, _⟩ := own_len hO.row; clear hO hB1)
  go_ret
  have hsz := HB1.out.size
  simp only [World.size_alloc] at hsz
  have hbx := Boxed.new w 55 (.func (.func 21) #[] #[])
  have hba : Below w1.heap.size w1 (w1.alloc (.cells #[.slice Av vs.length cv] 47)) := (Below.refl _ _).alloc (Nat.le_refl _) _
  have hO2 := HO.out.later hba
  refine ⟨_, _, rfl, ⟨⟨_, .slice Av vs.length cv, vs, rfl, Below.refl _ _, Boxed.new _ _ _, ⟨own_monoM hO2.row (Nat.zero_le _), hO2.len, fun i u l hu hl => own_monoM (hO2.each i u l hu hl) (Nat.zero_le _)⟩, ?_⟩, fil_neM rs, HF.out⟩, ?_⟩
  · exact (hba.block _ (by omega)).trans ((HB1.out.block _ (by simp)).trans hbx)
  · exact (HB0.out.trans (HB1.out.mono (by simp))).trans (hba.mono (by omega))
end
/-- What is left. -/
structure LeftM (N B0 : Nat) (w : World) (v : Value) (rs : List (List (Int × Int))) : Prop where
  ex : ∃ vs, w.ownsRow B0 56 1 v vs.length vs ∧ vs.length = rs.length ∧ ∀ (i : Nat) (u : Value) (l : List (Int × Int)), vs[i]? = some u → rs[i]? = some l → RowAtM N w u l
section
variable {N B0 : Nat} {w w' : World} {v : Value} {rs : List (List (Int × Int))}
theorem LeftM.keep {X : List Nat} (h : LeftM N B0 w v rs) (hk : KeepC X w w') (hX : ∀ k ∈ X, N ≤ k ∧ k < B0) : LeftM N B0 w' v rs := by
  obtain ⟨vs, h1, h2, h3⟩ := h.ex
  refine ⟨vs, hk.row h1 (fun g hg hm => ?_), h2, fun i u l hu hl => (h3 i u l hu hl).keep hk (fun k hk => (hX k hk).1)⟩
  have := (h1.lt g hg).1
  have := (hX g hm).2
  omega
theorem LeftM.later (h : LeftM N B0 w v rs) (hb : Below w.heap.size w w') : LeftM N B0 w' v rs := h.keep (KeepC.below (X := []) hb) (by simp)
theorem LeftM.rws {g cap : Nat} (h : LeftM N B0 w (.slice (some ⟨g, 0, none⟩) rs.length cap) rs) : RwsM N w g 0 rs := ⟨fun i l hl => by
  obtain ⟨vs, h1, h2, h3⟩ := h.ex
  have hi := (List.getElem?_eq_some_iff.1 hl).1
  obtain ⟨u, hu⟩ : ∃ u, vs[i]? = some u := ⟨vs[i]'(by omega), List.getElem?_eq_getElem _⟩
  rw [Nat.zero_add]
  exact ⟨u, own_cell h1 (g := g) rfl hu, h3 i u l hu hl⟩⟩
/-- One row's rest is stored. -/
theorem LeftM.set {g cap i : Nat} {u : Value} {xs : List (Int × Int)} (h : LeftM N B0 w (.slice (some ⟨g, 0, none⟩) rs.length cap) rs) (hi : i < rs.length) (hu : RowAtM N w u xs) (hN : N ≤ B0) : LeftM N B0 (w.setCell ⟨g, i, none⟩ u) (.slice (some ⟨g, 0, none⟩) rs.length cap) (rs.set i xs) := by
  obtain ⟨vs, h1, h2, h3⟩ := h.ex
  have hgB := (h1.lt g rfl).1
  have hk : KeepC [g] w (w.setCell ⟨g, i, none⟩ u) := KeepC.kept ((Kept.refl [g] w).set g i u (by simp))
  refine ⟨vs.set i u, ?_, by simp [h2], fun j a l ha hl => ?_⟩
  · have := own_set h1 (g := g) rfl (i := i) (by omega) u
    rwa [List.length_set]
  · by_cases hj : i = j
    · subst hj
      rw [List.getElem?_set_self (by omega)] at ha hl
      cases ha; cases hl
      exact hu.keep hk (fun k hk2 => by simp at hk2; omega)
    · rw [List.getElem?_set_ne hj] at ha hl
      exact (h3 j a l ha hl).keep hk (fun k hk2 => by simp at hk2; omega)
end
end Go.Proofs.Ytnplbmbbocffbaa
