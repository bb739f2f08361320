/- The statement Rows.NumSumsSaid is proved: whatever the input, the call returns true and its arguments read as before. No further condition. -/
import Derived.Test.YtilhgpjaadeplaaRows
import Derived.WalkKit
import Derived.Test.YtilhgpjaadeplaaSums
import Derived.ProofKit
import Derived.OpenShut
import Derived.ShutString
import Derived.ChangeOld
import Derived.Below
namespace Go.Proofs.Ytilhgpjaadeplaa.numSums
open Go.ChangeShapes Go.WideShapes Go.ChangeAt Go.RowKit
open Go.ChangeMaps (open_string shut_string)
set_option linter.unusedVariables false

theorem own : ownKnob Try.prog.godebug = none := by kernel_rfl
theorem laidOut : laidOutB Try.prog = true := by kernel_rfl

/-- What is known of a slice of numbers that came in. -/
def IsRow (k : IntKind) (w : World) (a : Option Addr) (len cap : Nat) (zs : List Int) : Prop :=
  (a = none ∧ len = 0 ∧ cap = 0 ∧ zs = []) ∨
  ∃ x, a = some x ∧ len ≤ cap ∧ cap ≤ maxLen ∧ zs.length = cap ∧ (∀ i, i < zs.length → w.cell? (x.add i) = some (.int k (zs.getD i 0))) ∧ ∀ n ∈ zs, (Lit.int k n).wf = true

/-! ### The walk -/
def shr (m : Nat) (z : Int) : Int := z / 2 ^ m
theorem info22 : (Try.prog.info? 22).map (fun i => (i.zero, i.size, i.bytes)) = some (some (.int .u64 0), 1, 8) := by kernel_rfl
theorem one_new (w : World) (n : Int) : ∀ j u, [Value.int .u64 n][j]? = some u → (w.alloc (.cells #[.int .u64 n] 22)).cell? ((⟨w.heap.size, 0, none⟩ : Addr).add j) = some u := by
  intro j u hj
  match j, hj with
  | 0, hj => simp at hj; subst hj; simp [Addr.add]
theorem map_take (f : Int → Int) (zs : List Int) (k : Nat) (h : k < zs.length) : (zs.take (k + 1)).map f = (zs.take k).map f ++ [f (zs.getD k 0)] := by
  rw [take_one zs k h]; simp
theorem cells_one (ns : List Int) : ∀ u ∈ cellsU ns, u.oneCell' = true := by
  intro u hu
  obtain ⟨n, _, rfl⟩ := List.mem_map.1 hu
  rfl

set_option maxHeartbeats 2000000 in
theorem walk (a0 : Option Addr) (len0 cap0 : Nat) (z0 : List Int) (a1 : Int) (w : World) (w0 : IsRow .u64 w a0 len0 cap0 z0) (w1 : (Lit.int .i64 a1).wf = true) :
    Calls Try.prog 7 #[.slice a0 len0 cap0, .int .i64 a1] w fun e w' => e = .returned (.bool true) ∧ Below w.heap.size w w' := by
  have g1 := bounds_i64 w1
  have hlen : len0 ≤ z0.length ∧ z0.length ≤ maxLen ∧ (0 < len0 → ∃ x, a0 = some x ∧ ∀ i, i < z0.length → w.cell? (x.add i) = some (.int .u64 (z0.getD i 0))) ∧ ∀ n ∈ z0, (Lit.int .u64 n).wf = true := by
    rcases w0 with ⟨rfl, rfl, rfl, rfl⟩ | ⟨x, rfl, hl, hm, hz, hc, hw⟩
    · exact ⟨by simp, by unfold maxLen; simp, fun h => by omega, fun n hn => by simp at hn⟩
    · exact ⟨by omega, by omega, fun _ => ⟨x, rfl, hc⟩, hw⟩
  obtain ⟨hl0, hm0, hx0, hz0⟩ := hlen
  unfold maxLen at hm0
  have HX := Lib.hid hx0
  have HZ := Lib.hid hz0
  clear hx0 hz0 w0
  obtain ⟨i0, hi, hzz, hz1, hz2⟩ := info_parts info22
  go_enter Try.func7, Try.ntmps7
  go_wp2_with (go_at_call 11; refine (awake_any _).mono ?_; rintro e wa ⟨rfl, hb⟩)
  go_loopw [6, 7, 8] (fun vL vB i wr => ∃ k : Nat, k ≤ len0 ∧ k ≤ 20 ∧ i = .int .i64 k ∧ Pair w wr vL vB ((z0.take k).map (shr (min (IntKind.u64.wrap (bits .and .i64 a1 63)).toNat 64))))
    (fun _ _ i _ => 20 - (intOf i).toNat)
  case atStart => exact ⟨0, by omega, by omega, rfl, Pair.start w _ hb⟩
  case round =>
    obtain ⟨k, hk, hk20, rfl, hP⟩ := hrel
    by_cases hgo : (k : Int) < len0 ∧ (k : Int) < 20
    · obtain ⟨hg1, hg2⟩ := hgo
      obtain ⟨x, rfl, hc⟩ := HX.out (by omega)
      have hkz : k < z0.length := by omega
      have hcell : wr.cell? (x.add k) = some (.int .u64 (z0.getD k 0)) := by
        have h := hc k hkz
        rw [hP.below.cell (World.block_lt_of_cell? w _ h)]; exact h
      clear hc
      have hns : ((z0.take (k + 1)).map (shr (min (IntKind.u64.wrap (bits .and .i64 a1 63)).toNat 64))) = ((z0.take k).map (shr (min (IntKind.u64.wrap (bits .and .i64 a1 63)).toNat 64))) ++ [z0.getD k 0 / 2 ^ min (IntKind.u64.wrap (bits .and .i64 a1 63)).toNat 64] := map_take _ z0 k hkz
      have hnl : ((z0.take k).map (shr (min (IntKind.u64.wrap (bits .and .i64 a1 63)).toNat 64))).length = k := by simp; omega
      have HN := Lib.hid hns
      have HL := Lib.hid hnl
      clear hns hnl hkz
      generalize z0.getD k 0 = z at *
      generalize (z0.take k).map (shr (min (IntKind.u64.wrap (bits .and .i64 a1 63)).toNat 64)) = ns at *
      have HP : Hid (Pair w wr u6 u7 ns) := Lib.hid hP
      clear hP
      go_wp2_with (at_builtin; refine wpList_append_own_at _ rfl (.tmp 32) (.tmp 34) 36 rfl w.heap.size 22 i0 (.int .u64 0) 1 8 Try.underlying36 hi hzz hz1 hz2 rfl (by omega) u6 ns.length (cellsU ns) rfl (HP.out.low.alloc _) ⟨wr.heap.size, 0, none⟩ 1 1 [.int .u64 (z / 2 ^ min (IntKind.u64.wrap (bits .and .i64 a1 63)).toNat 64)] rfl rfl (one_new _ _) ?c1 ?c2 ?c3 ?c4 ?_)
      case c1 => intro u hu; simp at hu; subst hu; rfl
      case c2 => unfold maxLen; have := HL.out; omega
      case c3 => have := HL.out; omega
      case c4 => have := HP.out.below.size; simp; omega
      intro v1 wx o1 hg1 hn1 hn2
      clear hn1 hn2
      generalize z / 2 ^ min (IntKind.u64.wrap (bits .and .i64 a1 63)).toNat 64 = n at *
      obtain ⟨os, ob, hsz, hbw⟩ := HP.out.mid (vL' := v1) n hg1
      have HO := Lib.hid o1
      have HG := Lib.hid hg1
      clear o1 hg1
      rcases ob.2 with ⟨hv, h0⟩ | ⟨g, cap, cur, hv, hrest⟩
      · have hns : ns = [] := List.eq_nil_of_length_eq_zero h0
        subst hv hns
        go_wp2_with (at_builtin; refine wpList_append_own_none rfl (.tmp 37) (.tmp 38) 36 rfl w.heap.size 22 i0 1 Try.underlying36 hi (.slice (some ⟨wx.heap.size, 0, none⟩) 1 1) 1 [.int .u64 n] rfl os rfl ?_)
        go_roundw
        case rel => exact ⟨k + 1, by omega, by omega, by go_num, by rw [HN.out]; exact HP.out.done n HG.out HO.out (by simpa [cellsU] using os) (World.grownBy.refl _ _) (.inl rfl)⟩
        case measure => simp [intOf]; omega
      · have hcs : ∀ j u, (cellsU ns.reverse)[j]? = some u → (wx.alloc (.cells #[.int .u64 n] 22)).cell? ((⟨g, 0, none⟩ : Addr).add j) = some u := ob.cells (g := g) (by rw [hv]; rfl)
        clear hrest
        subst hv
        have HC := Lib.hid hcs
        clear hcs
        go_wp2_with (at_builtin; refine wpList_append_own_at _ rfl (.tmp 37) (.tmp 38) 36 rfl w.heap.size 22 i0 (.int .u64 0) 1 8 Try.underlying36 hi hzz hz1 hz2 rfl (by omega) (.slice (some ⟨wx.heap.size, 0, none⟩) 1 1) 1 [.int .u64 n] rfl os ⟨g, 0, none⟩ ns.length cap (cellsU ns.reverse) rfl ?d0 HC.out (cells_one _) ?d1 ?d2 hsz ?_)
        case d0 => simp [cellsU]
        case d1 => unfold maxLen; have := HL.out; omega
        case d2 => have := HL.out; omega
        intro v2 wy o2 hg2 hn3 hn4
        have HO2 := Lib.hid o2
        have HG2 := Lib.hid hg2
        have HN4 := Lib.hid hn4
        clear o2 hg2 hn3 hn4
        go_wp2_with fail
        go_roundw
        case rel => exact ⟨k + 1, by omega, by omega, by go_num, by rw [HN.out]; exact HP.out.done n HG.out HO.out HO2.out HG2.out (by rw [World.size_alloc]; exact HN4.out)⟩
        case measure => simp [intOf]; omega
    · have hbd : ∀ n ∈ ((z0.take k).map (shr (min (IntKind.u64.wrap (bits .and .i64 a1 63)).toNat 64))), 0 ≤ n ∧ n ≤ 18446744073709551615 := by
        intro n hn
        obtain ⟨z, hz, rfl⟩ := List.mem_map.1 hn
        exact shr_u64 z _ (bounds_u64 (HZ.out z (List.mem_of_mem_take hz)))
      generalize (z0.take k).map (shr (min (IntKind.u64.wrap (bits .and .i64 a1 63)).toNat 64)) = ns at *
      have HBD := Lib.hid hbd
      have HR := Lib.hid (satSum_reverse ns fun n hn => (hbd n hn).1)
      have hbr : ∀ n ∈ ns.reverse, 0 ≤ n ∧ n ≤ 18446744073709551615 := fun n hn => hbd n (List.mem_reverse.1 hn)
      have hlow : Nums wr u6 ns := own_nums hP.low
      have hback : Nums wr u7 ns.reverse := own_nums (by rw [List.length_reverse]; exact hP.back)
      have S1 := Lib.hid (sum_nums 0 u6 ns (by omega) (by omega) wr hlow hbd)
      have S2 := Lib.hid (refSum_nums u6 ns wr hlow hbd)
      have S3 := Lib.hid (fun w2 (hw2 : Below wr.heap.size wr w2) => hback)
      have HP : Hid (Pair w wr u6 u7 ns) := Lib.hid hP
      have hlow2 := Lib.hid hlow
      have HBR := Lib.hid hbr
      clear hbd hbr hP hback
      rcases hlow with ⟨rfl, rfl⟩ | ⟨x, cap, rfl, hle, hmax, hc⟩
      · have e7 := (HP.out.nil rfl).2
        subst e7
        have S4 : Hid (∀ w2 : World, Calls Try.prog 19 #[.slice none 0 0] w2 fun e w' => e = .returned (.int .u64 0) ∧ Below w2.heap.size w2 w') := Lib.hid (fun w2 => refSum_nums _ [] w2 (.inl ⟨rfl, rfl⟩) (by simp))
        go_wp2_with (first
          | (go_at_call 18; refine (sum_nil 0 _).mono ?_; rintro e w' ⟨rfl, rfl⟩)
          | (go_at_call 19; refine (S4.out _).mono ?_; rintro e w2 ⟨rfl, hb2⟩))
        all_goals (go_ret; exact ⟨rfl, HP.out.below.trans (hb2.mono HP.out.below.size)⟩)
      · cases ns with
        | nil => exact absurd (HP.out.nil rfl).1 (by simp)
        | cons n ns =>
          have hc0 := hc 0 (by simp)
          simp only [List.getD_cons_zero] at hc0
          have hx0 : x.add 0 = x := by simp [Addr.add]
          rw [hx0] at hc0
          have HCC := Lib.hid hc
          clear hc hx0
          simp only [List.length_cons] at *
          have hE := Lib.hid (satSum_head n ns (HBD.out n (by simp)).2)
          generalize satSum 0 (n :: ns) = tot at *
          go_wp2_with fail
          all_goals
            refine S1.out.mono ?_
            rintro e w2 ⟨rfl, rfl⟩
            by_cases hcap : cap = 1
            · subst hcap
              obtain rfl : ns = [] := List.eq_nil_of_length_eq_zero (by omega)
              go_wp2_with fail
              refine S2.out.mono ?_
              rintro e w3 ⟨rfl, hb3⟩
              have t3 := sum_nums 0 u7 _ (by omega) (by omega) w3 ((S3.out w3 hb3).later hb3) HBR.out
              rw [HR.out] at t3
              have t4 := sum_nums n (.slice (some x) 0 0) [] (HBD.out n (by simp)).1 (HBD.out n (by simp)).2 w3 (.inr ⟨x, 0, rfl, by simp, by simp [maxLen], fun i hi => by simp at hi⟩) (by simp)
              rw [← hE.out] at t4
              have T3 := Lib.hid t3
              have T4 := Lib.hid t4
              clear t3 t4
              go_wp2_with fail
              refine T3.out.mono ?_
              rintro e w4 ⟨rfl, rfl⟩
              go_wp2_with fail
              refine T4.out.mono ?_
              rintro e w4 ⟨rfl, rfl⟩
              go_wp2_with fail
              go_ret
              exact ⟨rfl, HP.out.below.trans (hb3.mono HP.out.below.size)⟩
            · go_wp2_with fail
              refine S2.out.mono ?_
              rintro e w3 ⟨rfl, hb3⟩
              have t3 := sum_nums 0 u7 _ (by omega) (by omega) w3 ((S3.out w3 hb3).later hb3) HBR.out
              rw [HR.out] at t3
              have t4 := sum_nums n (.slice (some (x.add 1)) ns.length (cap - 1)) ns (HBD.out n (by simp)).1 (HBD.out n (by simp)).2 w3 ((Nums.tail hle hmax HCC.out).later hb3) (fun m hm => HBD.out m (by simp [hm]))
              rw [← hE.out] at t4
              have T3 := Lib.hid t3
              have T4 := Lib.hid t4
              clear t3 t4
              go_wp2_with fail
              refine T3.out.mono ?_
              rintro e w4 ⟨rfl, rfl⟩
              go_wp2_with fail
              refine T4.out.mono ?_
              rintro e w4 ⟨rfl, rfl⟩
              go_wp2_with fail
              go_ret
              exact ⟨rfl, HP.out.below.trans (hb3.mono HP.out.below.size)⟩

/-! ### The row's step -/
set_option maxRecDepth 100000 in
theorem lifted (os : Os) (started : os.Started) (H : Type) (enc : TypeId × Value → H) :
    ReturnsInHanded {} Try.checked os 7 .any (Rows.numSumsSpec.pre6 enc Try.prog Try.f7 Rows.numSumsRow.domain false) (Rows.numSumsSpec.post enc Try.prog Try.f7 false true false false) := by
  refine returnsInHanded_of_change (C := Try.checked) own started (by kernel_rfl) Try.func7
    (ChangeSpec.witness6 (enc := enc) (C := Try.checked) false ⟨#[], #[.slice none 0 0, .int .i64 0], []⟩ 8 (by kernel_rfl) (by kernel_rfl) (by kernel_rfl) (by kernel_rfl)) ?_
  intro W base args ds gs before hval0 hW hcnd _
  have hval : ∀ (j : Nat) t v, Try.f7.params[j]? = some t → args[j]? = some v → Value.okWide Try.prog W .any base t v := hval0
  have hW' := hW
  obtain ⟨p, q, hA0, hV, rfl, hfz, hnd⟩ := hW
  have hA : DataW.TrodAll enc Try.prog W 0 (fun _ => true) true Try.f7.params.toList args.toList ds p := hA0
  rw [Try.params7] at hA hval
  obtain ⟨v0, vs0, d0, ds0, p0, q0, hargs, rfl, rfl, h0, r0⟩ := trodAll_cons hA
  obtain ⟨v1, vs1, d1, ds1, p1, q1, rfl, rfl, rfl, h1, r1⟩ := trodAll_cons r0
  obtain ⟨rfl, rfl, rfl⟩ := trodAll_nil r1
  obtain rfl : args = #[v0, v1] := by cases args; simp_all
  obtain ⟨rfl, rfl⟩ := trodVars_none hV
  obtain ⟨a0, len0, cap0, rfl⟩ := okWide_slice Try.underlying36 (hval 0 36 v0 rfl rfl)
  have k0 := h0
  have lt0 : ∀ x ∈ p0, x.block < W.heap.size := by obtain ⟨m, hm⟩ := k0; exact DataW.trod_lt m _ _ _ hm
  obtain ⟨z0, w0⟩ : ∃ zs, IsRow .u64 W a0 len0 cap0 zs := by
    obtain ⟨fuel, hf⟩ := h0
    rcases open_ints Try.underlying36 Try.underlying22 (by kernel_rfl) hf with ⟨hcs, _⟩ | ⟨x, l, c, zs, hcs, _, hl, hm, hz, _, hcell, hwz⟩
    · simp [Value.cells] at hcs
      obtain ⟨rfl, rfl, rfl⟩ := hcs
      exact ⟨[], .inl ⟨rfl, rfl, rfl, rfl⟩⟩
    · simp [Value.cells] at hcs
      obtain ⟨rfl, rfl, rfl⟩ := hcs
      exact ⟨zs, .inr ⟨_, rfl, hl, hm, by simpa using hz, hcell, hwz⟩⟩
  obtain ⟨a1, rfl, rfl, rfl, w1⟩ := open_int Try.underlying3 (hval 1 3 v1 rfl rfl) h1
  clear hA0 hval0
  refine (walk a0 len0 cap0 z0 a1 W w0 w1).mono fun e W' ⟨he, bel⟩ => ?_
  subst he
  exact ⟨_, rfl, _, _, _, [], _, [], hW', trodAll_mk1 (shut_bool Try.underlying4 _), (trodAll_cons_mk (Below.trod laidOut (by kernel_rfl) (of_decide_eq_true (by kernel_rfl)) k0 bel lt0) (trodAll_cons_mk (shut_int Try.underlying3 w1) trodAll_mk0)), rfl, bel.frame _, fun h => by cases h⟩

theorem over : Rows.numSumsRow.holds Try.pinned (OpenSpec.ofChange Rows.numSumsSpec) :=
  OpenClaim.holds_of_wide 7 Try.f7 rfl rfl rfl rfl rfl rfl rfl ⟨rfl, rfl, rfl, rfl, rfl⟩ rfl rfl rfl rfl rfl (by kernel_rfl) Try.func7 (by kernel_rfl)
    (of_decide_eq_true (by kernel_rfl)) (by unfold Func.isWrapper; first | (rw [if_pos (by decide +kernel)]; kernel_rfl) | (rw [if_neg (by decide +kernel)]; exact ⟨rfl, rfl⟩))
    (fun os started H enc _ => lifted os started H enc)

theorem proved : Rows.NumSumsSaid := over
#print axioms proved
end Go.Proofs.Ytilhgpjaadeplaa.numSums
