/- Texts about the program, one after the other: PMis, PWor, KRng, KBus, PXs, PBus. -/
import Derived.Test.YtngmaiiibinkaaaG6
import Derived.Test.YtngmaiiibinkaaaG1
import Derived.RangeFuncRecord
import Derived.Test.YtngmaiiibinkaaaG2
import Derived.Lib.SliceRun
import Derived.Sort.CutIn
/- The document's Misses. -/
namespace Go.Proofs.Ytngmaiiibinkaaa
open Go.RowKit Go.Shelf
set_option linter.unusedVariables false
set_option linter.unusedSimpArgs false
attribute [local go_sem ↓] Go.wp_at_zero Go.wp_at_succ
set_option maxRecDepth 100000 in
set_option maxHeartbeats 8000000 in
theorem rmisses_any {T R E : Option Addr} {tc rc ec : Nat} {ts : List Ts} {js : List Fv} {en : List Int} (w : World) (hT : Row w T tc ts) (hJ : FRow w R rc js) (hE : CRow w E ec en) (H : RsH js en) (fj : js.length ≤ 1000000) : Calls Try.prog 24 #[.slice T ts.length tc, .slice R js.length rc, .slice E en.length ec] w (MisP (missS ts js en js.length) w) := by
  obtain ⟨i0, hi, hz0, hz1, hz2⟩ := info_parts infoI
  obtain ⟨n, hn⟩ : ∃ n, js.length = n := ⟨_, rfl⟩
  obtain ⟨m, hm⟩ : ∃ m, en.length = m := ⟨_, rfl⟩
  obtain ⟨p, hp⟩ : ∃ p, ts.length = p := ⟨_, rfl⟩
  have jle := hJ.le
  have jmx := hJ.mx
  have tle := hT.le
  have tmx := hT.mx
  rw [hn] at jle fj
  rw [hp] at tle
  have KR := Lib.hid (fun (i : Nat) W (hb : Below w.heap.size w W) => rresp_any (i : Int) W (hJ.later hb) (hE.later hb) H)
  have HJ := Lib.hid hJ
  have HT := Lib.hid hT
  have HN := Lib.hid hn
  have HP := Lib.hid hp
  rw [hn, hm] at KR
  rw [hn, hm, hp]
  have PP := Lib.hid (fun v wr (h : MiS w v (missS ts js en n) wr) => h.done (fun i hi => by have := missS_lt ts js en n i hi; omega))
  have HLN := Lib.hid (fun k => missS_len ts js en k)
  clear hJ hE hT hn hm H hp
  go_enter Try.func24, Try.ntmps24
  go_wp2
  go_loopw [7, 8] (fun v i wr => ∃ k : Nat, k ≤ n ∧ i = .int .i64 (k : Int) ∧ Hid (MiS w v (missS ts js en k) wr)) (fun _ i _ => n - (intOf i).toNat)
  case atStart => exact ⟨0, Nat.zero_le _, rfl, Lib.hid ⟨World.ownsRow_nil _ _ _ _, Below.refl _ _⟩⟩
  case round =>
    obtain ⟨k, hk, rfl, hM⟩ := hrel
    by_cases hlt : k < n
    · obtain ⟨bj, oj, y, C, cc, rfl, hy, hbj, hF⟩ := (HJ.out.later hM.out.bel).get (k := k) (by rw [HN.out]; exact hlt)
      have c0 := hF.c0
      have k0 : (0 : Int) ≤ (k : Int) := by omega
      have k1 : (k : Int) < (n : Int) := by omega
      have hS := missS_succ ts js en k
      have hyt : (jb js k).t = y.t := by rw [jb_get hy]
      unfold missB at hS
      rw [hyt] at hS
      obtain ⟨yt, hyt2⟩ : ∃ a, y.t = a := ⟨_, rfl⟩
      rw [hyt2] at hS c0
      have KRk := Lib.hid (KR.out k _ hM.out.bel)
      clear hyt hy hbj hF hyt2
      by_cases ht : 0 ≤ yt ∧ yt < (p : Int)
      · obtain ⟨u, rfl⟩ : ∃ u : Nat, yt = (u : Int) := ⟨yt.toNat, by omega⟩
        obtain ⟨bt, ot, x, rfl, hx, _, hbt, hG⟩ := (HT.out.later hM.out.bel).get (k := u) (by rw [HP.out]; omega)
        have d3 := hG.c3
        have hd : (tk ts (u : Int)).d = x.d := by rw [tk_get hx]
        rw [hd, decide_eq_true ht.1, decide_eq_true (show (u : Int) < (ts.length : Int) by rw [HP.out]; exact ht.2)] at hS
        obtain ⟨D, hD⟩ : ∃ D, x.d = D := ⟨_, rfl⟩
        rw [hD] at hS d3
        have u0 : (0 : Int) ≤ (u : Int) := by omega
        have u1 : (u : Int) < (p : Int) := ht.2
        have q0 : decide ((u : Int) ≥ 0) = true := decide_eq_true u0
        have q1 : decide ((u : Int) < (p : Int)) = true := decide_eq_true u1
        clear hx hbt hG hd hD ht
        simp only [Bool.true_and] at hS
        cases hr : respS js en (k : Int) with
        | none =>
          rw [hr] at hS KRk
          rw [gotV_none] at KRk
          simp only [if_true] at hS
          have HS := Lib.hid hS
          clear hr hS
          go_upto_region 7 with (go_at_call 26; (with_reducible refine KRk.out.mono ?_); rintro e w6 ⟨rfl, h6⟩; have HM6 := Lib.hid (hM.out.later h6); have d3 := cells_below h6 _ _ _ d3; clear h6)
          have bb : Below w6.heap.size w6 (w6.alloc (.cells #[.int .i64 0, .int .i64 0, .bool false] TGt)) := (Below.refl _ _).alloc (Nat.le_refl _) _
          have HM7 := Lib.hid (HM6.out.later bb)
          have d3 := cells_below bb _ _ _ d3
          have HG := Lib.hid (show (w6.alloc (.cells #[.int .i64 0, .int .i64 0, .bool false] TGt)).heap[w6.heap.size]? = some (.cells #[.int .i64 0, .int .i64 0, .bool false] TGt (0, 0)) from heap_alloc_new w6 _)
          obtain ⟨gb, hgb⟩ : ∃ gb, w6.heap.size = gb := ⟨_, rfl⟩
          rw [hgb] at HG ⊢
          clear bb hgb HM6
          generalize w6.alloc (.cells #[.int .i64 0, .int .i64 0, .bool false] TGt) = W7 at *
          obtain ⟨g0, g1, g2, gf⟩ := gt_cells HG.out
          go_quiet (fail)
          have HM2 := Lib.hid (HM7.out.later (below_drewN2 W7 nq))
          clear d3
          clear g0 g1 g2 gf HG HM7
          generalize W7.drewN nq = W2 at *
          have HL := Lib.hid (HLN.out k)
          have bb : Below W2.heap.size W2 (W2.alloc (.cells #[.int .i64 (k : Int)] TIn)) := (Below.refl _ _).alloc (Nat.le_refl _) _
          have HBB := Lib.hid bb
          have HO := Lib.hid (HM2.out.later bb).own
          have HC := Lib.hid (show ∀ (j : Nat) (u : Value), [Value.int .i64 (k : Int)][j]? = some u → (W2.alloc (.cells #[.int .i64 (k : Int)] TIn)).cell? ((⟨W2.heap.size, 0, none⟩ : Addr).add j) = some u from fun j u hj => by
            cases j with
            | zero => simp at hj; subst hj; rw [add_none, cell_of_row _ _ _ _ _ _ (heap_alloc_new W2 _)]; rfl
            | succ j => simp at hj)
          have HSz := Lib.hid (show w.heap.size ≤ (W2.alloc (.cells #[.int .i64 (k : Int)] TIn)).heap.size by have := HM2.out.bel.size; simp; omega)
          obtain ⟨LL, hLL⟩ : ∃ LL, (missS ts js en k).length = LL := ⟨_, rfl⟩
          rw [hLL] at HO HL
          have HLL := Lib.hid hLL
          clear bb hLL
          go_wp2_with (at_builtin; go_loud (refine wpList_append_own _ rfl _ _ 56 rfl w.heap.size TIn i0 _ 1 8 Try.underlying56 hi hz0 hz1 hz2 rfl (by decide) _ LL _ rfl HO.out ⟨W2.heap.size, 0, none⟩ 1 1 [.int .i64 (k : Int)] rfl rfl HC.out (by intro u hu; simp at hu; subst hu; rfl) (by have := HL.out; unfold maxLen; omega) (by have := HL.out; omega) HSz.out ?_; intro v' w7 hown hgrow hnil; have HM7 := Lib.hid (HM2.out.push (k := k) HBB.out (by rw [HLL.out]; exact hown) hgrow); clear hown hgrow hnil))
          go_roundw
          case rel => exact ⟨k + 1, by omega, by go_num, by rw [HS.out]; exact HM7⟩
          case measure => simp [intOf]; omega
        | some r =>
          rw [hr] at hS KRk
          rw [gotV_some] at KRk
          simp only [decide_eq_true_eq] at hS
          by_cases hg : D < r
          · rw [if_pos hg] at hS
            have t2 : decide (r > D) = true := decide_eq_true hg
            have t3 : decide (D < r) = true := decide_eq_true hg
            clear hg
            have HS := Lib.hid hS
            clear hr hS
            go_upto_region 7 with (go_at_call 26; (with_reducible refine KRk.out.mono ?_); rintro e w6 ⟨rfl, h6⟩; have HM6 := Lib.hid (hM.out.later h6); have d3 := cells_below h6 _ _ _ d3; clear h6)
            have bb : Below w6.heap.size w6 (w6.alloc (.cells #[.int .i64 r, .int .i64 0, .bool true] TGt)) := (Below.refl _ _).alloc (Nat.le_refl _) _
            have HM7 := Lib.hid (HM6.out.later bb)
            have d3 := cells_below bb _ _ _ d3
            have HG := Lib.hid (show (w6.alloc (.cells #[.int .i64 r, .int .i64 0, .bool true] TGt)).heap[w6.heap.size]? = some (.cells #[.int .i64 r, .int .i64 0, .bool true] TGt (0, 0)) from heap_alloc_new w6 _)
            obtain ⟨gb, hgb⟩ : ∃ gb, w6.heap.size = gb := ⟨_, rfl⟩
            rw [hgb] at HG ⊢
            clear bb hgb HM6
            generalize w6.alloc (.cells #[.int .i64 r, .int .i64 0, .bool true] TGt) = W7 at *
            obtain ⟨g0, g1, g2, gf⟩ := gt_cells HG.out
            go_quiet (fail)
            have HM2 := Lib.hid (HM7.out.later (below_drewN2 W7 nq))
            clear d3
            clear g0 g1 g2 gf HG HM7
            generalize W7.drewN nq = W2 at *
            have HL := Lib.hid (HLN.out k)
            have bb : Below W2.heap.size W2 (W2.alloc (.cells #[.int .i64 (k : Int)] TIn)) := (Below.refl _ _).alloc (Nat.le_refl _) _
            have HBB := Lib.hid bb
            have HO := Lib.hid (HM2.out.later bb).own
            have HC := Lib.hid (show ∀ (j : Nat) (u : Value), [Value.int .i64 (k : Int)][j]? = some u → (W2.alloc (.cells #[.int .i64 (k : Int)] TIn)).cell? ((⟨W2.heap.size, 0, none⟩ : Addr).add j) = some u from fun j u hj => by
              cases j with
              | zero => simp at hj; subst hj; rw [add_none, cell_of_row _ _ _ _ _ _ (heap_alloc_new W2 _)]; rfl
              | succ j => simp at hj)
            have HSz := Lib.hid (show w.heap.size ≤ (W2.alloc (.cells #[.int .i64 (k : Int)] TIn)).heap.size by have := HM2.out.bel.size; simp; omega)
            obtain ⟨LL, hLL⟩ : ∃ LL, (missS ts js en k).length = LL := ⟨_, rfl⟩
            rw [hLL] at HO HL
            have HLL := Lib.hid hLL
            clear bb hLL
            go_wp2_with (at_builtin; go_loud (refine wpList_append_own _ rfl _ _ 56 rfl w.heap.size TIn i0 _ 1 8 Try.underlying56 hi hz0 hz1 hz2 rfl (by decide) _ LL _ rfl HO.out ⟨W2.heap.size, 0, none⟩ 1 1 [.int .i64 (k : Int)] rfl rfl HC.out (by intro u hu; simp at hu; subst hu; rfl) (by have := HL.out; unfold maxLen; omega) (by have := HL.out; omega) HSz.out ?_; intro v' w7 hown hgrow hnil; have HM7 := Lib.hid (HM2.out.push (k := k) HBB.out (by rw [HLL.out]; exact hown) hgrow); clear hown hgrow hnil))
            go_roundw
            case rel => exact ⟨k + 1, by omega, by go_num, by rw [HS.out]; exact HM7⟩
            case measure => simp [intOf]; omega
          · rw [if_neg hg, List.append_nil] at hS
            have HS := Lib.hid hS
            have t2 : decide (r > D) = false := decide_eq_false hg
            have t3 : decide (D < r) = false := decide_eq_false hg
            clear hg hS hr
            go_upto_region 7 with (go_at_call 26; (with_reducible refine KRk.out.mono ?_); rintro e w6 ⟨rfl, h6⟩; have HM6 := Lib.hid (hM.out.later h6); have d3 := cells_below h6 _ _ _ d3; clear h6)
            have bb : Below w6.heap.size w6 (w6.alloc (.cells #[.int .i64 r, .int .i64 0, .bool true] TGt)) := (Below.refl _ _).alloc (Nat.le_refl _) _
            have HM7 := Lib.hid (HM6.out.later bb)
            have d3 := cells_below bb _ _ _ d3
            have HG := Lib.hid (show (w6.alloc (.cells #[.int .i64 r, .int .i64 0, .bool true] TGt)).heap[w6.heap.size]? = some (.cells #[.int .i64 r, .int .i64 0, .bool true] TGt (0, 0)) from heap_alloc_new w6 _)
            obtain ⟨gb, hgb⟩ : ∃ gb, w6.heap.size = gb := ⟨_, rfl⟩
            rw [hgb] at HG ⊢
            clear bb hgb HM6
            generalize w6.alloc (.cells #[.int .i64 r, .int .i64 0, .bool true] TGt) = W7 at *
            obtain ⟨g0, g1, g2, gf⟩ := gt_cells HG.out
            go_quiet (fail)
            have HM2 := Lib.hid (HM7.out.later (below_drewN2 W7 nq))
            clear d3
            clear g0 g1 g2 gf HG HM7
            generalize W7.drewN nq = W2 at *
            go_wp2
            go_roundw
            case rel => exact ⟨k + 1, by omega, by go_num, by rw [HS.out]; exact HM2⟩
            case measure => simp [intOf]; omega
      · have hS2 : missS ts js en (k + 1) = missS ts js en k := by
          rw [hS, HP.out]
          have : (decide (0 ≤ yt) && decide (yt < (p : Int))) = false := by
            rw [Bool.and_eq_false_iff]
            by_cases h : 0 ≤ yt
            · exact .inr (decide_eq_false (by omega))
            · exact .inl (decide_eq_false h)
          rw [this]
          simp
        have HS := Lib.hid hS2
        obtain ⟨gg, hgg⟩ : ∃ gg, gotV (respS js en (k : Int)) = gg := ⟨_, rfl⟩
        obtain ⟨vr, vp, vo, hval⟩ : ∃ (vr : Int) (vp : Int) (vo : Bool), gotV (respS js en (k : Int)) = .agg #[.int .i64 vr, .int .i64 vp, .bool vo] := ⟨_, _, _, rfl⟩
        rw [hval] at KRk
        clear hS hS2 hgg hval
        by_cases hn0 : 0 ≤ yt
        · have q0 : decide (yt ≥ 0) = true := decide_eq_true hn0
          have q0' : decide (0 ≤ yt) = true := decide_eq_true hn0
          have q1 : decide (yt < (p : Int)) = false := decide_eq_false (by omega)
          clear ht hn0
          go_upto_region 7 with (go_at_call 26; (with_reducible refine KRk.out.mono ?_); rintro e w6 ⟨rfl, h6⟩; have HM6 := Lib.hid (hM.out.later h6); clear h6)
          have bb : Below w6.heap.size w6 (w6.alloc (.cells #[.int .i64 vr, .int .i64 vp, .bool vo] TGt)) := (Below.refl _ _).alloc (Nat.le_refl _) _
          have HM7 := Lib.hid (HM6.out.later bb)
          have HG := Lib.hid (show (w6.alloc (.cells #[.int .i64 vr, .int .i64 vp, .bool vo] TGt)).heap[w6.heap.size]? = some (.cells #[.int .i64 vr, .int .i64 vp, .bool vo] TGt (0, 0)) from heap_alloc_new w6 _)
          obtain ⟨gb, hgb⟩ : ∃ gb, w6.heap.size = gb := ⟨_, rfl⟩
          rw [hgb] at HG ⊢
          clear bb hgb HM6
          generalize w6.alloc (.cells #[.int .i64 vr, .int .i64 vp, .bool vo] TGt) = W7 at *
          obtain ⟨g0, g1, g2, gf⟩ := gt_cells HG.out
          go_quiet (fail)
          have HM2 := Lib.hid (HM7.out.later (below_drewN2 W7 nq))
          clear g0 g1 g2 gf HG HM7
          generalize W7.drewN nq = W2 at *
          go_wp2
          go_roundw
          case rel => exact ⟨k + 1, by omega, by go_num, by rw [HS.out]; exact HM2⟩
          case measure => simp [intOf]; omega
        · have q0 : decide (yt ≥ 0) = false := decide_eq_false hn0
          have q0' : decide (0 ≤ yt) = false := decide_eq_false hn0
          clear ht hn0
          go_upto_region 7 with (go_at_call 26; (with_reducible refine KRk.out.mono ?_); rintro e w6 ⟨rfl, h6⟩; have HM6 := Lib.hid (hM.out.later h6); clear h6)
          have bb : Below w6.heap.size w6 (w6.alloc (.cells #[.int .i64 vr, .int .i64 vp, .bool vo] TGt)) := (Below.refl _ _).alloc (Nat.le_refl _) _
          have HM7 := Lib.hid (HM6.out.later bb)
          have HG := Lib.hid (show (w6.alloc (.cells #[.int .i64 vr, .int .i64 vp, .bool vo] TGt)).heap[w6.heap.size]? = some (.cells #[.int .i64 vr, .int .i64 vp, .bool vo] TGt (0, 0)) from heap_alloc_new w6 _)
          obtain ⟨gb, hgb⟩ : ∃ gb, w6.heap.size = gb := ⟨_, rfl⟩
          rw [hgb] at HG ⊢
          clear bb hgb HM6
          generalize w6.alloc (.cells #[.int .i64 vr, .int .i64 vp, .bool vo] TGt) = W7 at *
          obtain ⟨g0, g1, g2, gf⟩ := gt_cells HG.out
          go_quiet (fail)
          have HM2 := Lib.hid (HM7.out.later (below_drewN2 W7 nq))
          clear g0 g1 g2 gf HG HM7
          generalize W7.drewN nq = W2 at *
          go_wp2
          go_roundw
          case rel => exact ⟨k + 1, by omega, by go_num, by rw [HS.out]; exact HM2⟩
          case measure => simp [intOf]; omega
    · obtain rfl : k = n := by omega
      go_wp2
      go_ret
      exact PP.out _ _ hM.out
end Go.Proofs.Ytngmaiiibinkaaa
/- The document's Worst. -/
namespace Go.Proofs.Ytngmaiiibinkaaa
open Go.RowKit Go.Shelf
set_option linter.unusedVariables false
set_option linter.unusedSimpArgs false
attribute [local go_sem ↓] Go.wp_at_zero Go.wp_at_succ
set_option maxRecDepth 100000 in
set_option maxHeartbeats 8000000 in
theorem rworst_any {R E : Option Addr} {rc ec : Nat} {js : List Fv} {en : List Int} (task : Int) (w : World) (hJ : FRow w R rc js) (hE : CRow w E ec en) (H : RsH js en) : Calls Try.prog 28 #[.slice R js.length rc, .slice E en.length ec, .int .i64 task] w (Told (gotW (worstS js en task js.length)) w) := by
  obtain ⟨n, hn⟩ : ∃ n, js.length = n := ⟨_, rfl⟩
  obtain ⟨m, hm⟩ : ∃ m, en.length = m := ⟨_, rfl⟩
  have jle := hJ.le
  have jmx := hJ.mx
  rw [hn] at jle
  have KR := Lib.hid (fun (i : Nat) W (hb : Below w.heap.size w W) => rresp_any (i : Int) W (hJ.later hb) (hE.later hb) H)
  have HJ := Lib.hid hJ
  have HN := Lib.hid hn
  obtain ⟨W1, hW1⟩ : ∃ W1, (w.alloc (.cells #[.int .i64 0, .int .i64 0, .bool false] TGt)).alloc (.cells #[.int .i64 0, .int .i64 0, .bool false] TGt) = W1 := ⟨_, rfl⟩
  have hWo : WoS w w.heap.size (w.heap.size + 1) none W1 := by
    rw [← hW1]
    have e := heap_alloc_new w (.cells #[.int .i64 0, .int .i64 0, .bool false] TGt)
    refine ⟨?_, ?_, ((Below.refl _ _).alloc (Nat.le_refl _) _).alloc (by simp) _⟩
    · rw [heap_alloc_old _ _ _ (by simp)]; exact e
    · have := heap_alloc_new (w.alloc (.cells #[.int .i64 0, .int .i64 0, .bool false] TGt)) (.cells #[.int .i64 0, .int .i64 0, .bool false] TGt)
      simpa [gtA] using this
  obtain ⟨xb, hxb⟩ : ∃ xb, w.heap.size = xb := ⟨_, rfl⟩
  obtain ⟨yb, hyb⟩ : ∃ yb, xb + 1 = yb := ⟨_, rfl⟩
  rw [hxb, hyb] at hWo
  have HXB := Lib.hid (show w.heap.size ≤ xb ∧ w.heap.size ≤ yb ∧ xb ≠ yb by omega)
  have HWo := Lib.hid hWo
  rw [hn, hm] at KR
  have PT := Lib.hid (fun v wr (hb : Below w.heap.size w wr) (he : v = gotW (worstS js en task n)) => show Told (gotW (worstS js en task n)) w (.returned v) wr from ⟨by rw [he], hb⟩)
  rw [hn, hm]
  generalize hPo : Told (gotW (worstS js en task n)) w = Post at *
  obtain ⟨z0, z1, z2, zf⟩ := gt_cells hWo.wb
  have zs : (w.alloc (.cells #[.int .i64 0, .int .i64 0, .bool false] TGt)).heap.size = yb := by simp; omega
  clear hJ hE hn hm H hPo hWo
  go_enter Try.func28, Try.ntmps28
  go_upto_region 3 with (fail)
  go_loopw [8] (fun i wr => ∃ k : Nat, k ≤ n ∧ i = .int .i64 (k : Int) ∧ Hid (WoS w xb yb (worstS js en task k) wr)) (fun i _ => n - (intOf i).toNat)
  case atStart => exact ⟨0, Nat.zero_le _, rfl, Lib.hid ⟨by rw [heap_setCell_other _ _ _ _ HXB.out.2.2, heap_setCell_other _ _ _ _ HXB.out.2.2, heap_setCell_other _ _ _ _ HXB.out.2.2]; exact HWo.out.rb, gt_set HWo.out.wb _ _ _, gt_bel HWo.out.bel HXB.out.2.1 _ _ _⟩⟩
  case round =>
    obtain ⟨k, hk, rfl, hW⟩ := hrel
    by_cases hlt : k < n
    · obtain ⟨bj, oj, y, C, cc, rfl, hy, hbj, hF⟩ := (HJ.out.later hW.out.bel).get (k := k) (by rw [HN.out]; exact hlt)
      have c0 := hF.c0
      have i0 : (0 : Int) ≤ (k : Int) := by omega
      have i1 : (k : Int) < (n : Int) := by omega
      have hS := worstS_succ js en task k
      have hyt : (jb js k).t = y.t := by rw [jb_get hy]
      unfold worst1 at hS
      rw [hyt] at hS
      have KRk := Lib.hid (KR.out k _ hW.out.bel)
      obtain ⟨yt, hyt2⟩ : ∃ a, y.t = a := ⟨_, rfl⟩
      rw [hyt2] at hS c0
      clear hyt hy hbj hF hyt2
      cases hr : respS js en (k : Int) with
      | none =>
        rw [hr] at hS KRk
        rw [gotV_none] at KRk
        have hS2 : worstS js en task (k + 1) = worstS js en task k := by rw [hS]; split <;> rfl
        have HS := Lib.hid hS2
        clear hr hS hS2
        go_upto_region 6 with (go_at_call 26; (with_reducible refine KRk.out.mono ?_); rintro e w6 ⟨rfl, h6⟩; have HW6 := Lib.hid (hW.out.later h6); have c0 := cells_below h6 _ _ _ c0; clear h6)
        have bb : Below w6.heap.size w6 (w6.alloc (.cells #[.int .i64 0, .int .i64 0, .bool false] TGt)) := (Below.refl _ _).alloc (Nat.le_refl _) _
        have HW7 := Lib.hid (HW6.out.later bb)
        have HBB := Lib.hid bb
        have c0 := cells_below bb _ _ _ c0
        have HG := Lib.hid (show (w6.alloc (.cells #[.int .i64 0, .int .i64 0, .bool false] TGt)).heap[w6.heap.size]? = some (.cells #[.int .i64 0, .int .i64 0, .bool false] TGt (0, 0)) from heap_alloc_new w6 _)
        obtain ⟨gb, hgb⟩ : ∃ gb, w6.heap.size = gb := ⟨_, rfl⟩
        rw [hgb] at HG ⊢
        clear bb hgb HBB HW6
        generalize w6.alloc (.cells #[.int .i64 0, .int .i64 0, .bool false] TGt) = W7 at *
        obtain ⟨g0, g1, g2, gf⟩ := gt_cells HG.out
        obtain ⟨y0, y1, y2, yf⟩ := gt_cells HW7.out.wb
        go_wp2
        go_roundw
        case rel => exact ⟨k + 1, by omega, by go_num, by rw [HS.out]; exact HW7⟩
        case measure => simp [intOf]; omega
      | some r =>
        rw [hr] at hS KRk
        rw [gotV_some] at KRk
        by_cases ht : yt = task
        · subst ht
          rw [if_pos rfl] at hS
          have t1 : (yt == yt) = true := by simp
          cases hw : worstS js en yt k with
          | none =>
            rw [hw] at hS hW
            have HS := Lib.hid hS
            clear hr hS hw
            go_upto_region 6 with (go_at_call 26; (with_reducible refine KRk.out.mono ?_); rintro e w6 ⟨rfl, h6⟩; have HW6 := Lib.hid (hW.out.later h6); have c0 := cells_below h6 _ _ _ c0; clear h6)
            have bb : Below w6.heap.size w6 (w6.alloc (.cells #[.int .i64 r, .int .i64 0, .bool true] TGt)) := (Below.refl _ _).alloc (Nat.le_refl _) _
            have HW7 := Lib.hid (HW6.out.later bb)
            have HBB := Lib.hid bb
            have c0 := cells_below bb _ _ _ c0
            have HG := Lib.hid (show (w6.alloc (.cells #[.int .i64 r, .int .i64 0, .bool true] TGt)).heap[w6.heap.size]? = some (.cells #[.int .i64 r, .int .i64 0, .bool true] TGt (0, 0)) from heap_alloc_new w6 _)
            obtain ⟨gb, hgb⟩ : ∃ gb, w6.heap.size = gb := ⟨_, rfl⟩
            rw [hgb] at HG ⊢
            clear bb hgb HBB HW6
            generalize w6.alloc (.cells #[.int .i64 r, .int .i64 0, .bool true] TGt) = W7 at *
            obtain ⟨g0, g1, g2, gf⟩ := gt_cells HG.out
            obtain ⟨y0, y1, y2, yf⟩ := gt_cells HW7.out.wb
            have HW8 := Lib.hid (HW7.out.set HXB.out.2.2 HXB.out.2.1 r k)
            go_wp2
            go_roundw
            case rel => exact ⟨k + 1, by omega, by go_num, by rw [HS.out]; exact HW8⟩
            case measure => simp [intOf]; omega
          | some q =>
            obtain ⟨g, p⟩ := q
            rw [hw] at hS hW
            by_cases hg : g < r
            · have t2 : decide (g < r) = true := decide_eq_true hg
              have t3 : decide (r > g) = true := decide_eq_true hg
              simp only [if_pos hg] at hS
              have HS := Lib.hid hS
              clear hr hS hw hg
              go_upto_region 6 with (go_at_call 26; (with_reducible refine KRk.out.mono ?_); rintro e w6 ⟨rfl, h6⟩; have HW6 := Lib.hid (hW.out.later h6); have c0 := cells_below h6 _ _ _ c0; clear h6)
              have bb : Below w6.heap.size w6 (w6.alloc (.cells #[.int .i64 r, .int .i64 0, .bool true] TGt)) := (Below.refl _ _).alloc (Nat.le_refl _) _
              have HW7 := Lib.hid (HW6.out.later bb)
              have HBB := Lib.hid bb
              have c0 := cells_below bb _ _ _ c0
              have HG := Lib.hid (show (w6.alloc (.cells #[.int .i64 r, .int .i64 0, .bool true] TGt)).heap[w6.heap.size]? = some (.cells #[.int .i64 r, .int .i64 0, .bool true] TGt (0, 0)) from heap_alloc_new w6 _)
              obtain ⟨gb, hgb⟩ : ∃ gb, w6.heap.size = gb := ⟨_, rfl⟩
              rw [hgb] at HG ⊢
              clear bb hgb HBB HW6
              generalize w6.alloc (.cells #[.int .i64 r, .int .i64 0, .bool true] TGt) = W7 at *
              obtain ⟨g0, g1, g2, gf⟩ := gt_cells HG.out
              obtain ⟨y0, y1, y2, yf⟩ := gt_cells HW7.out.wb
              have HW8 := Lib.hid (HW7.out.set HXB.out.2.2 HXB.out.2.1 r k)
              go_wp2
              go_roundw
              case rel => exact ⟨k + 1, by omega, by go_num, by rw [HS.out]; exact HW8⟩
              case measure => simp [intOf]; omega
            · have t2 : decide (g < r) = false := decide_eq_false hg
              have t3 : decide (r > g) = false := decide_eq_false hg
              simp only [if_neg hg] at hS
              have HS := Lib.hid hS
              clear hr hS hw hg
              go_upto_region 6 with (go_at_call 26; (with_reducible refine KRk.out.mono ?_); rintro e w6 ⟨rfl, h6⟩; have HW6 := Lib.hid (hW.out.later h6); have c0 := cells_below h6 _ _ _ c0; clear h6)
              have bb : Below w6.heap.size w6 (w6.alloc (.cells #[.int .i64 r, .int .i64 0, .bool true] TGt)) := (Below.refl _ _).alloc (Nat.le_refl _) _
              have HW7 := Lib.hid (HW6.out.later bb)
              have HBB := Lib.hid bb
              have c0 := cells_below bb _ _ _ c0
              have HG := Lib.hid (show (w6.alloc (.cells #[.int .i64 r, .int .i64 0, .bool true] TGt)).heap[w6.heap.size]? = some (.cells #[.int .i64 r, .int .i64 0, .bool true] TGt (0, 0)) from heap_alloc_new w6 _)
              obtain ⟨gb, hgb⟩ : ∃ gb, w6.heap.size = gb := ⟨_, rfl⟩
              rw [hgb] at HG ⊢
              clear bb hgb HBB HW6
              generalize w6.alloc (.cells #[.int .i64 r, .int .i64 0, .bool true] TGt) = W7 at *
              obtain ⟨g0, g1, g2, gf⟩ := gt_cells HG.out
              obtain ⟨y0, y1, y2, yf⟩ := gt_cells HW7.out.wb
              go_wp2
              go_roundw
              case rel => exact ⟨k + 1, by omega, by go_num, by rw [HS.out]; exact HW7⟩
              case measure => simp [intOf]; omega
        · rw [if_neg ht] at hS
          have t1 : (yt == task) = false := by simpa using ht
          have HS := Lib.hid hS
          clear hr hS ht
          go_upto_region 6 with (go_at_call 26; (with_reducible refine KRk.out.mono ?_); rintro e w6 ⟨rfl, h6⟩; have HW6 := Lib.hid (hW.out.later h6); have c0 := cells_below h6 _ _ _ c0; clear h6)
          have bb : Below w6.heap.size w6 (w6.alloc (.cells #[.int .i64 r, .int .i64 0, .bool true] TGt)) := (Below.refl _ _).alloc (Nat.le_refl _) _
          have HW7 := Lib.hid (HW6.out.later bb)
          have HBB := Lib.hid bb
          have c0 := cells_below bb _ _ _ c0
          have HG := Lib.hid (show (w6.alloc (.cells #[.int .i64 r, .int .i64 0, .bool true] TGt)).heap[w6.heap.size]? = some (.cells #[.int .i64 r, .int .i64 0, .bool true] TGt (0, 0)) from heap_alloc_new w6 _)
          obtain ⟨gb, hgb⟩ : ∃ gb, w6.heap.size = gb := ⟨_, rfl⟩
          rw [hgb] at HG ⊢
          clear bb hgb HBB HW6
          generalize w6.alloc (.cells #[.int .i64 r, .int .i64 0, .bool true] TGt) = W7 at *
          obtain ⟨g0, g1, g2, gf⟩ := gt_cells HG.out
          obtain ⟨y0, y1, y2, yf⟩ := gt_cells HW7.out.wb
          go_wp2
          go_roundw
          case rel => exact ⟨k + 1, by omega, by go_num, by rw [HS.out]; exact HW7⟩
          case measure => simp [intOf]; omega
    · obtain rfl : k = n := by omega
      obtain ⟨z0, z1, z2, zf⟩ := gt_cells hW.out.wb
      obtain ⟨x0, x1, x2, xf⟩ := gt_cells hW.out.rb
      go_wp2
      exact bodyPost_ret (v := gotW (worstS js en task k)) (results_gt rfl _ _ _ rfl (gt_set hW.out.rb _ _ _)) rfl (PT.out _ _ (gt_bel hW.out.bel HXB.out.1 _ _ _) rfl)
end Go.Proofs.Ytngmaiiibinkaaa
/- A range over a function that tells what it has copied: the iterator's word, and the law for its caller. -/
namespace Go.Proofs.Ytngmaiiibinkaaa
open Go.RowKit Go.Shelf
set_option linter.unusedVariables false
theorem wpIn_named {F : Fence} {n : Nat} {P : Program} {c : Code} {Q : Exit → Act → World → Prop} {a : Act} {w : World} (h : ∀ a', a' = a → Code.wpIn F n P c Q a' w) : Code.wpIn F n P c Q a w := h a rfl
/-- All blocks of cells but these are as they were. -/
structure KeepC (X : List Nat) (W W' : World) : Prop where
  size : W.heap.size ≤ W'.heap.size
  block : ∀ k cs T fr, k ∉ X → W.heap[k]? = some (.cells cs T fr) → W'.heap[k]? = some (.cells cs T fr)
theorem KeepC.refl (X : List Nat) (W : World) : KeepC X W W := ⟨Nat.le_refl _, fun _ _ _ _ _ h => h⟩
theorem KeepC.trans {X : List Nat} {A B C : World} (h : KeepC X A B) (k : KeepC X B C) : KeepC X A C := ⟨Nat.le_trans h.size k.size, fun i cs T fr hx hi => k.block i cs T fr hx (h.block i cs T fr hx hi)⟩
theorem KeepC.kept {X : List Nat} {A B : World} (h : Kept X A B) : KeepC X A B := ⟨h.size, fun i cs T fr hx hi => (h.block i (Array.getElem?_eq_some_iff.1 hi).1 hx).trans hi⟩
theorem KeepC.put {X : List Nat} {W : World} {l : Nat} {o : Obj} (o' : Obj) (h : W.heap[l]? = some o) (ho : o.isCells = false) : KeepC X W (W.putObj l o') := by
  refine ⟨by simp, fun i cs T fr hx hi => ?_⟩
  have hne : i ≠ l := by
    rintro rfl
    rw [h] at hi
    cases hi
    simp [Obj.isCells] at ho
  exact (World.putObj_heap_other hne).trans hi
def postA {E : Type} (B : Nat) (X : List Nat) (I : List E → World → Prop) (Ix : Code → List E → World → Prop) (xs : List E) (W : World) : Exit → Act → World → Prop
  | .normal, _, W' => KeepsFrom B W W' ∧ KeepC X W W' ∧ I xs W'
  | .ret, _, W' => KeepsFrom B W W' ∧ Ix .ret xs W'
  | .exit id, _, W' => KeepsFrom B W W' ∧ Ix (.exit id) xs W'
  | .goto t, _, W' => KeepsFrom B W W' ∧ Ix (.goto t) xs W'
  | .panic _, _, _ => False
  | .outgrown, _, _ => False
/-- An iterator's word. -/
def SeqA {E : Type} (vals : E → Array Value) (n g : Nat) (lb : Array Value) (X : List Nat) (L : List E) (w0 : World) : Prop :=
  ∀ (l : Nat) (J Jx : List E → World → Prop) (W : World), Below w0.heap.size w0 W → (∀ pre W1 W2, J pre W1 → Below W1.heap.size W1 W2 → J pre W2) →
    (∀ pre x r W1, J pre W1 → L = pre ++ x :: r → YieldAt Fence.wide (n - 1) Try.prog l (vals x) W1 fun e W' =>
      (e = .returned (.bool true) ∧ J (pre ++ [x]) W' ∧ KeepC X W1 W') ∨ (e = .returned (.bool false) ∧ Jx (pre ++ [x]) W')) →
    J [] W →
    CallsIn Fence.wide n Try.prog g (#[.func (.yield l) #[] #[]] ++ lb) W fun e W' => (∃ v, e = .returned v) ∧ (J L W' ∨ (∃ pre x r, L = pre ++ x :: r ∧ Jx (pre ++ [x]) W'))

theorem Two.later {D : Nat} {r : Loop} {W W' : World} (h : Two D r W) (hk : Below W.heap.size W W') : Two D r W' :=
  ⟨(hk.block D (Array.getElem?_eq_some_iff.1 h.d).1).trans h.d, (hk.block (D + 1) (Array.getElem?_eq_some_iff.1 h.l).1).trans h.l⟩
theorem grown_below {W W' : World} (h : Below W.heap.size W W') : W.grownBy W' none := ⟨h.os, h.tape, h.output, h.size, fun k hk _ => h.block k hk⟩

set_option maxHeartbeats 1000000 in
/-- The law for a caller. fr: what the assignment to the loop's variables leaves. -/
theorem rangeA {E : Type} {vals : E → Array Value} {g : Operand} {ps : Array Tmp} {assign body : Code} {Q : Exit → Act → World → Prop} {a : Act} {w : World} {n gf : Nat} {lb : Array Value} {X : List Nat} {L : List E} {w0 : World}
    (hg : a.eval g = .func (.func gf) #[] lb) (eg : ∀ args w, (callFunc gf args).run Try.prog w = .ok (.enter gf args) w)
    (hseq : SeqA vals (n - 1) gf lb X L w0) (hb0 : Below w0.heap.size w0 w) (hps : ∀ x, (vals x).size = ps.size)
    (I : List E → World → Prop) (Ix : Code → List E → World → Prop) (hI : OwnFrom w.heap.size I) (hIx : ∀ c, OwnFrom w.heap.size (Ix c)) (h0 : I [] w)
    (fr : E → Act)
    (hassign : ∀ (l : Nat) (x : E) (W : World) (K : Act → World → Prop), K (fr x) W →
      assign.wpIn (Fence.wide.inRound l) (n - 1 - 1) Try.prog (Exit.then K (fun _ _ _ => False)) { tmps := (ps.zip (vals x)).foldl (fun t (p, v) => t.setIfInBounds p v) a.tmps, defers := [] } W)
    (hbody : ∀ (l : Nat) (pre : List E) (x : E) (r : List E) (W : World), I pre W → L = pre ++ x :: r →
      body.wpIn (Fence.wide.inRound l) (n - 1 - 1) Try.prog (postA w.heap.size X I Ix (pre ++ [x]) W) (fr x) W)
    (hdone : ∀ (D : Nat) (W : World), w.heap.size ≤ D → I L W → W.heap[D]? = some (.deferred (some [])) → Q .normal { a with defers := { target := .collected D, args := #[] } :: a.defers } W)
    (hstop : ∀ (D : Nat) (c : Code) (pre : List E) (x : E) (r : List E) (W : World), w.heap.size ≤ D → L = pre ++ x :: r → Ix c (pre ++ [x]) W → W.heap[D]? = some (.deferred (some [])) → c.wpIn Fence.wide n Try.prog Q { a with defers := { target := .collected D, args := #[] } :: a.defers } W) :
    (Code.rangeFunc g ps assign body).wpIn Fence.wide n Try.prog Q a w := by
  refine wpIn_rangeFunc fun fn hfn => ?_
  obtain ⟨D, hD⟩ : ∃ D, D = w.heap.size := ⟨_, rfl⟩
  obtain ⟨rc, hrc⟩ : ∃ rc : LoopState → Option Code → Loop, rc = fun st pe => { state := st, pending := pe, fn, tmps := a.tmps, params := ps, assign, body, defers := D } := ⟨_, rfl⟩
  obtain ⟨V, hV⟩ : ∃ V, (w.alloc (.deferred (some []))).alloc (.loop (rc .ready none)) = V := ⟨_, rfl⟩
  have hV2 : Two D (rc .ready none) V := by
    rw [← hV, hD]
    refine ⟨(Below.heap_alloc _ _ _ (by simp)).trans (World.alloc_heap_new w _), ?_⟩
    have := World.alloc_heap_new (w.alloc (.deferred (some []))) (.loop (rc .ready none))
    rwa [World.size_alloc] at this
  have hVI : I [] V := by rw [← hV]; exact hI.alloc _ (hI.alloc _ h0)
  have hVb : Below w.heap.size w V := by
    rw [← hV]
    exact (((Below.refl _ w).alloc (Nat.le_refl _) _).alloc (by simp) _)
  have put : ∀ {pre : List E} {W : World} {r : Loop} (r' : Loop), I pre W → Two D r W → I pre (W.putObj (D + 1) (.loop r')) := fun r' hi h2 => hI.putObj _ hi (by omega) h2.l rfl
  have putx : ∀ {c : Code} {pre : List E} {W : World} {r : Loop} (r' : Loop), Ix c pre W → Two D r W → Ix c pre (W.putObj (D + 1) (.loop r')) := fun r' hi h2 => (hIx _).putObj _ hi (by omega) h2.l rfl
  refine ⟨D + 1, [{ target := .collected D, args := #[] }], V, { target := .fn (.func gf) lb, args := #[.func (.yield (D + 1)) #[] #[]] }, V, gf, #[.func (.yield (D + 1)) #[] #[]] ++ lb, V, ?_, ?_, ?_, ?_, ?_, ?_⟩
  · rw [← hV, hrc, hD]; exact run_enterLoop_outer _ _ _ _ _
  · simp only [resolve, hg]
    simp [go_sem]
  · intro f' _; trivial
  · simp [invoke, go_sem, eg]
  · intro h; cases h
  · refine (hseq (D + 1) (fun pre W => I pre W ∧ Two D (rc .ready none) W) (fun pre W => ∃ c, Ix c pre W ∧ Two D (rc .done (some c)) W) V (hb0.trans (hVb.mono hb0.size))
      (fun s X Z hs hk => ⟨hI s X Z none hs.1 (grown_below hk) (by simp), hs.2.later hk⟩)
      ?_ ⟨hVI, hV2⟩).mono ?_
    · rintro pre x r W ⟨hi, h2⟩ hL
      have hy := run_yield (P := Try.prog) (args := vals x) h2.l (by rw [hrc]; exact hps x)
      rw [hrc] at hy
      refine ⟨fn, _, assign, body, hy, roundIn_of_wpIn trivial (hassign _ x W _ ?_)⟩
      clear hy
      refine ⟨_, run_beginRound h2.l (by rw [hrc]), ?_⟩
      have h2b := h2.put { rc .ready none with state := .busy }
      have kc := KeepC.put (X := X) (.loop { rc .ready none with state := .busy }) h2.l rfl
      refine wpIn_mono (hbody _ pre x r _ (put _ hi h2) hL) ?_
      generalize W.putObj (D + 1) (.loop { rc .ready none with state := .busy }) = Wb at *
      rw [← hD]
      have fin : ∀ (jump : Option Code) (W3 : World), KeepsFrom D Wb W3 →
          (Instr.endRound (D + 1) jump).run Try.prog W3 = .ok (.bool jump.isNone) (W3.putObj (D + 1) (.loop (rc (if jump.isNone then .ready else .done) jump))) ∧ Two D { rc .ready none with state := .busy } W3 := fun jump W3 hk3 => by
        have h3 := h2b.from hk3
        have := run_endRound (P := Try.prog) jump h3.l
        rw [hrc] at this h3 ⊢
        exact ⟨this, h3⟩
      rintro e a3 W3 hp
      cases e with
      | normal =>
        obtain ⟨hk3, hc3, hi3⟩ := hp
        obtain ⟨hr, h3⟩ := fin none W3 hk3
        exact ⟨_, _, hr, .inl ⟨rfl, ⟨put _ hi3 h3, h3.put _⟩, (kc.trans hc3).trans (KeepC.put _ h3.l rfl)⟩⟩
      | ret =>
        obtain ⟨hk3, hi3⟩ := hp
        obtain ⟨hr, h3⟩ := fin (some .ret) W3 hk3
        exact ⟨_, _, hr, .inr ⟨rfl, ⟨.ret, putx _ hi3 h3, h3.put _⟩⟩⟩
      | exit id =>
        obtain ⟨hk3, hi3⟩ := hp
        obtain ⟨hr, h3⟩ := fin (some (.exit id)) W3 hk3
        exact ⟨_, _, hr, .inr ⟨rfl, ⟨.exit id, putx _ hi3 h3, h3.put _⟩⟩⟩
      | goto t =>
        obtain ⟨hk3, hi3⟩ := hp
        obtain ⟨hr, h3⟩ := fin (some (.goto t)) W3 hk3
        exact ⟨_, _, hr, .inr ⟨rfl, ⟨.goto t, putx _ hi3 h3, h3.put _⟩⟩⟩
      | panic ch => exact hp.elim
      | outgrown => exact hp.elim
    · rintro e W2 ⟨⟨v, rfl⟩, (⟨hi, h2⟩ | ⟨pre, x, r, hL, ⟨c, hi, h2⟩⟩)⟩
      · have he := run_endLoop (P := Try.prog) h2.l (by rw [hrc]; simp)
        rw [hrc] at he
        exact ⟨none, _, he, hdone D _ (Nat.le_of_eq hD.symm) (put _ hi h2) ((World.putObj_heap_other (by omega)).trans h2.d)⟩
      · have he := run_endLoop (P := Try.prog) h2.l (by rw [hrc]; simp)
        rw [hrc] at he
        exact ⟨some c, _, he, hstop D c pre x r _ (Nat.le_of_eq hD.symm) hL (putx _ hi h2) ((World.putObj_heap_other (by omega)).trans h2.d)⟩
theorem KeepC.below {X : List Nat} {A B : World} (h : Below A.heap.size A B) : KeepC X A B := KeepC.kept (Kept.of X h)
theorem KeepC.cell {X : List Nat} {A B : World} (h : KeepC X A B) {b i : Nat} {v : Value} (hc : A.cell? ⟨b, i, none⟩ = some v) (hx : b ∉ X) : B.cell? ⟨b, i, none⟩ = some v := by
  have hl := World.block_lt_of_cell? A _ hc
  cases ho : A.heap[b]? with
  | none => simp [World.cell?, ho] at hc
  | some o =>
    cases o with
    | cells cs T fr => rw [World.cell?_of_block (w := A) (a := ⟨b, i, none⟩) ((h.block b cs T fr hx ho).trans ho.symm)]; exact hc
    | _ => simp [World.cell?, ho] at hc
theorem KeepC.row {X : List Nat} {W W' : World} (h : KeepC X W W') {base e size k : Nat} {v : Value} {xs : List Value} (hr : W.ownsRow base e size v k xs) (hx : ∀ g, v.ownBlock = some g → g ∉ X) : W'.ownsRow base e size v k xs := by
  obtain ⟨h1, h2⟩ := hr
  refine ⟨h1, ?_⟩
  rcases h2 with h2 | ⟨g, cap, cur, hv, hg, hh, r⟩
  · exact .inl h2
  · subst hv
    exact .inr ⟨g, cap, cur, rfl, hg, h.block g _ _ _ (hx g rfl) hh, r⟩
theorem KeepC.box {X : List Nat} {W W' : World} {b : Nat} {t : TypeId} {v : Value} (h : KeepC X W W') (hb : Boxed W b t v) (hx : b ∉ X) : Boxed W' b t v := h.block b _ _ _ hx hb
end Go.Proofs.Ytngmaiiibinkaaa
/- Busy rows: slices.Clone of spans, Busy, its iterator. -/
namespace Go.Proofs.Ytngmaiiibinkaaa
open Go.RowKit Go.Shelf
set_option linter.unusedVariables false
set_option linter.unusedSimpArgs false
abbrev TSl : TypeId := 24
theorem sqC_inv : ∀ (l : List Sq) (j : Nat) (u : Value), (sqC l)[j]? = some u → ∃ i x r, l[i]? = some x ∧ (sqL x)[r]? = some u ∧ j = i * 3 + r
  | [], j, u, h => by simp [sqC] at h
  | a :: l, j, u, h => by
    have e : sqC (a :: l) = sqL a ++ sqC l := rfl
    rw [e] at h
    rcases Nat.lt_or_ge j 3 with hj | hj
    · rw [List.getElem?_append_left (by simp [sqL]; omega)] at h
      exact ⟨0, a, j, rfl, h, by omega⟩
    · rw [List.getElem?_append_right (by simp [sqL]; omega)] at h
      obtain ⟨i, x, r, h1, h2, h3⟩ := sqC_inv l _ u h
      have : (sqL a).length = 3 := rfl
      exact ⟨i + 1, x, r, by simpa using h1, h2, by omega⟩
theorem SqR.flat {w : World} {a : Addr} {cap : Nat} {l : List Sq} (h : SqR w (some a) cap l) : ∀ j u, (sqC l)[j]? = some u → w.cell? (a.add j) = some u := by
  intro j u hu
  obtain ⟨i, x, r, h1, h2, rfl⟩ := sqC_inv l j u hu
  obtain ⟨b, o, e, hr⟩ := h.at_ i x h1
  simp only [Option.some.injEq] at e
  subst e
  rw [add_none, ← Nat.add_assoc]
  exact hr r u h2
theorem sqC_one (l : List Sq) : ∀ u ∈ sqC l, u.oneCell' = true := by
  intro u hu
  obtain ⟨p, -, hp⟩ := List.mem_flatMap.1 hu
  exact sqL_one p u hp
def ClnP (l : List Sq) (w : World) (e : Ending) (w' : World) : Prop := ∃ v, e = .returned v ∧ w'.ownsRow w.heap.size TSp 3 v l.length (sqC l) ∧ Below w.heap.size w w'
section
attribute [local go_sem ↓] Go.wp_at_zero Go.wp_at_succ
set_option maxRecDepth 100000 in
set_option maxHeartbeats 4000000 in
theorem cloneS_any {A : Option Addr} {cap : Nat} {l : List Sq} (w : World) (h : SqR w A cap l) (hl : l.length ≤ 1000000) :
    Calls Try.prog 32 #[.slice A l.length cap] w (ClnP l w) := by
  obtain ⟨i0, hi, hz0, hz1, hz2⟩ := info_parts infoSp
  cases A with
  | none =>
    have hl0 : l = [] := by
      cases l with
      | nil => rfl
      | cons x r =>
        obtain ⟨b, o, e, _⟩ := h.at_ 0 x rfl
        cases e
    subst hl0
    have hne := fun w => Lib.run_eql_slice_nil (P := Try.prog) w TSl _ none 0 cap 0 0 Try.underlying24
    clear h
    go_enter Try.func32, Try.ntmps32
    go_wp2
    go_ret
    exact ⟨_, rfl, World.ownsRow_nil _ _ _ _, Below.refl _ _⟩
  | some a =>
    have hle := h.le
    have hmx := h.mx
    have HC := Lib.hid ((h.later ((Below.refl _ _).alloc (Nat.le_refl _) (.cells #[] TSp))).flat)
    have HL := Lib.hid (sqC_len l)
    have HO := Lib.hid (show (w.alloc (.cells #[] TSp)).ownsRow w.heap.size TSp 3 (.slice (some ⟨w.heap.size, 0, none⟩) 0 0) 0 [] from World.ownsRow_lit w #[] 0 (Nat.le_refl _) (by unfold maxLen; omega) rfl)
    have HA := Lib.hid (show Below w.heap.size w (w.alloc (.cells #[] TSp)) from (Below.refl _ _).alloc (Nat.le_refl _) _)
    have H1 := Lib.hid (sqC_one l)
    have PP := Lib.hid (fun v w' (h1 : w'.ownsRow w.heap.size TSp 3 v l.length (sqC l)) (h2 : Below w.heap.size w w') => show ClnP l w (.returned v) w' from ⟨v, rfl, h1, h2⟩)
    generalize sqC l = cs at *
    generalize hn : l.length = n at *
    have hne := fun w => Lib.run_eql_slice_nil (P := Try.prog) w TSl _ (some a) n cap 0 0 Try.underlying24
    clear h hn
    go_enter Try.func32, Try.ntmps32
    go_wp2_with (at_builtin; go_loud (refine wpList_append_own _ rfl _ _ TSl rfl w.heap.size TSp i0 _ 3 24 Try.underlying24 hi hz0 hz1 hz2 rfl (by decide) (.slice (some ⟨w.heap.size, 0, none⟩) 0 0) 0 [] rfl HO.out a n cap cs rfl HL.out HC.out H1.out (by unfold maxLen; omega) (by omega) (by simp) ?_; intro v' w1 hown hgrow hnil; have hB1 : Below w.heap.size w w1 := HA.out.grown hgrow (by simp) (fun k e => by simp [Value.ownBlock] at e; omega)))
    go_ret
    exact PP.out _ _ (by simpa using hown) hB1
/-- Busy: its iterator holds a copy. -/
def BusP (l : List Sq) (w : World) (e : Ending) (w' : World) : Prop := ∃ B v, e = .returned (.func (.func 33) #[] #[.pointer (some ⟨B, 0, none⟩)]) ∧ Boxed w' B TSl v ∧ w.heap.size ≤ B ∧ w'.ownsRow w.heap.size TSp 3 v l.length (sqC l) ∧ Below w.heap.size w w'
set_option maxRecDepth 100000 in
set_option maxHeartbeats 4000000 in
theorem busy_any {A : Option Addr} {cap : Nat} {l : List Sq} (w : World) (h : SqR w A cap l) (hl : l.length ≤ 1000000) : Calls Try.prog 11 #[.slice A l.length cap] w (BusP l w) := by
  have KC := Lib.hid (cloneS_any w h hl)
  clear h
  go_enter Try.func11, Try.ntmps11
  go_wp2_with (go_at_call 32; (with_reducible refine KC.out.mono ?_); rintro e w2 ⟨v, rfl, ho, hb⟩; obtain ⟨A', c', rfl, -, -⟩ := own_len ho; have HO := Lib.hid ho; have HB := Lib.hid hb; clear ho hb)
  go_ret
  have ba : Below w2.heap.size w2 (w2.alloc (.cells #[.slice A' l.length c'] TSl)) := (Below.refl _ _).alloc (Nat.le_refl _) _
  exact ⟨_, _, rfl, Boxed.new _ _ _, HB.out.size, (Kept.of [] ba).row HO.out (by simp), HB.out.trans (ba.mono HB.out.size)⟩
end
theorem run_eql_seq2 (fn : Fn) (a b : Array Value) (w : World) : (binOp .eql 41 (.func fn a b) .nilFunc).run Try.prog w = .ok (.bool false) w := by
  have h : ∀ d, (Op.equalIn (d + 1) 41 (.func fn a b) .nilFunc).run Try.prog w = .ok false w := fun d => by simp [Op.equalIn, run_underlying Try.underlying41]
  simp only [binOp]
  simp [Op.equal, Op.maxDepth, h 9999]
/-- What the iterator holds. -/
structure BuS (X : List Nat) (B Bn : Nat) (v : Value) (l : List Sq) (W : World) : Prop where
  box : Boxed W Bn TSl v
  row : W.ownsRow B TSp 3 v l.length (sqC l)
  nx : Bn ∉ X
  ng : ∀ g, v.ownBlock = some g → g ∉ X
theorem BuS.keep {X : List Nat} {B Bn : Nat} {v : Value} {l : List Sq} {W W' : World} (h : BuS X B Bn v l W) (hk : KeepC X W W') : BuS X B Bn v l W' := ⟨hk.box h.box h.nx, hk.row h.row h.ng, h.nx, h.ng⟩
theorem BuS.later {X : List Nat} {B Bn : Nat} {v : Value} {l : List Sq} {W W' : World} (h : BuS X B Bn v l W) (hb : Below W.heap.size W W') : BuS X B Bn v l W' := h.keep (KeepC.below hb)
theorem BuS.get {X : List Nat} {B Bn : Nat} {v : Value} {l : List Sq} {W : World} (h : BuS X B Bn v l W) {A : Option Addr} {m c : Nat} (hv : v = .slice A m c) {k : Nat} {x : Sq} (hx : l[k]? = some x) : ∃ g, A = some ⟨g, 0, none⟩ ∧ W.cell? ⟨g, k * 3 + 1, none⟩ = some (.int .i64 x.f) ∧ W.cell? ⟨g, k * 3 + 2, none⟩ = some (.int .i64 x.t) := by
  have hk := (List.getElem?_eq_some_iff.1 hx).1
  obtain ⟨g, cap, e, -, -, -, -, -⟩ := own_form h.row (by omega)
  rw [hv] at e
  simp only [Value.slice.injEq] at e
  obtain ⟨rfl, _, rfl⟩ := e
  refine ⟨g, rfl, ?_, ?_⟩
  · exact own_cell h.row (g := g) (by rw [hv]; rfl) (sqC_get l k x hx 1 _ rfl)
  · exact own_cell h.row (g := g) (by rw [hv]; rfl) (sqC_get l k x hx 2 _ rfl)
theorem drop_sq {l : List Sq} {k : Nat} {x : Sq} (h : l[k]? = some x) : l.drop k = x :: l.drop (k + 1) := by
  have hk := (List.getElem?_eq_some_iff.1 h).1
  rw [List.drop_eq_getElem_cons hk, (List.getElem?_eq_some_iff.1 h).2]
attribute [local go_sem] Oper.semAt_some
set_option maxRecDepth 100000 in
set_option maxHeartbeats 8000000 in
theorem busy_seq (n : Nat) (hn1 : 1 ≤ n) (X : List Nat) (B Bn : Nat) (v : Value) (l : List Sq) (w0 : World) (hl : l.length ≤ 1000000) (hS : BuS X B Bn v l w0) :
    SeqA (fun x : Int × Int => #[.int .i64 x.1, .int .i64 x.2]) n 33 #[.pointer (some ⟨Bn, 0, none⟩)] X (busyQ l) w0 := by
  intro lp J Jx W hW hJB hY hJ
  have hS1 : BuS X B Bn v l W := hS.keep ⟨hW.size, fun k cs T fr _ hk => (hW.block k (Array.getElem?_eq_some_iff.1 hk).1).trans hk⟩
  obtain ⟨A, c, hv, hle, hmx⟩ := own_len hS1.row
  obtain ⟨m, hm⟩ : ∃ m, l.length = m := ⟨_, rfl⟩
  rw [hm] at hv hl hle
  have b1 := hS1.box.cell
  rw [hv] at b1
  have HS := Lib.hid hS1
  have HV := Lib.hid hv
  have HY := Lib.hid hY
  have HJ := Lib.hid hJ
  have HB := Lib.hid hJB
  have HM := Lib.hid hm
  clear hW hS hS1 hv hJB hY hJ hm hmx hle
  refine callsIn_of_wp Try.func33 rfl trivial ?_ rfl
  simp only [Try.ntmps33, List.size_toArray, List.length_cons, List.length_nil, Nat.reduceAdd, Nat.reduceSub, Array.replicate_succ, Array.replicate_zero, List.push_toArray, List.append_toArray, List.nil_append, List.cons_append]
  gi_wp2
  gi_loopw [3] (fun i wr => ∃ (k : Nat) (pre : List (Int × Int)), k ≤ m ∧ i = .int .i64 k ∧ Hid (busyQ l = pre ++ busyQ (l.drop k)) ∧ Hid (J pre wr) ∧ Hid (BuS X B Bn v l wr)) (fun i _ => m - (intOf i).toNat)
  case atStart => exact ⟨0, [], by omega, rfl, Lib.hid rfl, HJ, HS⟩
  case round =>
    obtain ⟨k, pre, hk, rfl, hQ, hJ2, hS2⟩ := hrel
    clear HJ HS b1
    have b1 := hS2.out.box.cell
    rw [HV.out] at b1
    by_cases hlt : k < m
    · obtain ⟨x, hx⟩ : ∃ x, l[k]? = some x := ⟨l[k]'(by rw [HM.out]; exact hlt), List.getElem?_eq_getElem _⟩
      obtain ⟨g, rfl, x1, x2⟩ := hS2.out.get HV.out hx
      have hi1 : (k : Int) < (m : Int) := by omega
      have hi0 : (0 : Int) ≤ (k : Int) := by omega
      have HX := Lib.hid hx
      clear hx
      gi_upto_region 2 with (fail)
      refine (wpIn_wide (n := n)).2 ?_
      go_quiet (fail)
      have HS3 := Lib.hid (hS2.out.later (below_drewN2 wr nq))
      have HJ3 := Lib.hid (HB.out _ _ _ hJ2.out (below_drewN2 wr nq))
      have HK0 := Lib.hid hlt
      have hw1 : wrap64 ((k : Int) + 1) = ((k + 1 : Nat) : Int) := by rw [IntWalk.wrap64_in _ (by omega)]; omega
      generalize wr.drewN nq = W2 at *
      clear hJ2 hS2 b1 x1 x2 hi1 hi0 hlt
      gi_wp2
      gi_loopw [3, 5] (fun s3 s5 wr2 => ∃ (k2 : Nat) (t : Int), k < k2 ∧ k2 ≤ m ∧ s3 = .int .i64 k2 ∧ s5 = .int .i64 t ∧ Hid (runQ x.t (l.drop (k + 1)) = runQ t (l.drop k2)) ∧ wr2 = W2) (fun s3 _ _ => m - (intOf s3).toNat)
      case atStart => exact ⟨k + 1, x.t, by omega, by have := HK0.out; omega, by first | rfl | go_num, rfl, Lib.hid rfl, rfl⟩
      case round =>
        obtain ⟨k2, t, hk1, hk2, rfl, rfl, hR, rfl⟩ := hrel
        by_cases hc : ∃ y, l[k2]? = some y ∧ y.f = t
        · obtain ⟨y, hy, hyt⟩ := hc
          obtain ⟨g', hg', y1, y2⟩ := HS3.out.get HV.out hy
          have b1 := HS3.out.box.cell
          rw [HV.out] at b1
          cases hg'
          have hlt2 : k2 < m := by rw [← HM.out]; exact (List.getElem?_eq_some_iff.1 hy).1
          have hi1 : (k2 : Int) < (m : Int) := by omega
          have hi0 : (0 : Int) ≤ (k2 : Int) := by omega
          have hw2 : wrap64 ((k2 : Int) + 1) = ((k2 + 1 : Nat) : Int) := by rw [IntWalk.wrap64_in _ (by omega)]; omega
          have hR2 : Hid (runQ x.t (l.drop (k + 1)) = runQ y.t (l.drop (k2 + 1))) := Lib.hid (by rw [hR.out, drop_sq hy, runQ, if_pos hyt])
          have ht : (y.f == t) = true := by rw [hyt]; simp
          obtain ⟨yf, hyf⟩ : ∃ a, y.f = a := ⟨_, rfl⟩
          obtain ⟨yt, hyt2⟩ : ∃ a, y.t = a := ⟨_, rfl⟩
          rw [hyf] at y1 ht
          rw [hyt2] at y2 hR2
          clear hyt hy hyf hyt2
          gi_wp2
          go_roundw
          case rel => exact ⟨k2 + 1, yt, by omega, by omega, by go_num, rfl, hR2, trivial⟩
          case measure => simp [intOf]; omega
        · have hEnd : Hid (runQ x.t (l.drop (k + 1)) = (t, l.drop k2)) := Lib.hid (by
            rw [hR.out]
            cases hd : l[k2]? with
            | none => rw [List.drop_of_length_le (List.getElem?_eq_none_iff.1 hd), runQ]
            | some y => rw [drop_sq hd, runQ, if_neg (fun e => hc ⟨y, hd, e⟩)])
          have hQ2 : Hid (busyQ l = pre ++ (x.f, t) :: busyQ (l.drop k2)) := Lib.hid (by rw [hQ.out, drop_sq HX.out, busyQ, hEnd.out])
          have b1 := HS3.out.box.cell
          rw [HV.out] at b1
          obtain ⟨fn, tmps, assign, body, hy, hRd⟩ := HY.out pre (x.f, t) _ _ HJ3.out hQ2.out
          dsimp only at hy
          have HQ2 : Hid (busyQ l = (pre ++ [(x.f, t)]) ++ busyQ (l.drop k2)) := Lib.hid (by rw [hQ2.out]; simp)
          rcases (by omega : k2 = m ∨ k2 < m) with rfl | hlt2
          · clear hR hEnd hQ hc
            gi_wp2
            refine hRd.mono ?_
            rintro e W3 (⟨rfl, hJ4, hk4⟩ | ⟨rfl, hJx4⟩)
            · have HS4 := Lib.hid (HS3.out.keep hk4)
              have HJ4 := Lib.hid hJ4
              clear hJ4 hk4 hRd hy HS3 HJ3
              gi_wp2
              go_roundw
              case rel => exact ⟨k2, _, by omega, rfl, HQ2, HJ4, HS4⟩
              case measure => simp [intOf]; omega
            · gi_wp2
              refine bodyPost_ret (results_none rfl _ _ _) rfl ?_
              exact ⟨⟨_, rfl⟩, .inr ⟨pre, (x.f, t), _, hQ2.out, hJx4⟩⟩
          · obtain ⟨y, hy'⟩ : ∃ y, l[k2]? = some y := ⟨l[k2]'(by rw [HM.out]; exact hlt2), List.getElem?_eq_getElem _⟩
            obtain ⟨g', hg', y1, y2⟩ := HS3.out.get HV.out hy'
            cases hg'
            have hi1 : (k2 : Int) < (m : Int) := by omega
            have hi0 : (0 : Int) ≤ (k2 : Int) := by omega
            have ht : (y.f == t) = false := by
              rw [beq_eq_false_iff_ne]; exact fun e => hc ⟨y, hy', e⟩
            obtain ⟨yf, hyf⟩ : ∃ a, y.f = a := ⟨_, rfl⟩
            rw [hyf] at y1 ht
            clear hR hEnd hQ hc hy' hyf y2
            gi_wp2
            refine hRd.mono ?_
            rintro e W3 (⟨rfl, hJ4, hk4⟩ | ⟨rfl, hJx4⟩)
            · have HS4 := Lib.hid (HS3.out.keep hk4)
              have HJ4 := Lib.hid hJ4
              clear hJ4 hk4 hRd hy HS3 HJ3
              gi_wp2
              go_roundw
              case rel => exact ⟨k2, _, by omega, rfl, HQ2, HJ4, HS4⟩
              case measure => simp [intOf]; omega
            · gi_wp2
              refine bodyPost_ret (results_none rfl _ _ _) rfl ?_
              exact ⟨⟨_, rfl⟩, .inr ⟨pre, (x.f, t), _, hQ2.out, hJx4⟩⟩
    · obtain rfl : k = m := by omega
      gi_wp2
      go_end0
      refine ⟨⟨_, rfl⟩, .inl ?_⟩
      have := hQ.out
      rw [List.drop_of_length_le (by rw [HM.out]; exact Nat.le_refl _), show busyQ [] = [] by rw [busyQ], List.append_nil] at this
      rw [this]
      exact hJ2.out
end Go.Proofs.Ytngmaiiibinkaaa
/- Spans made by appends. -/
namespace Go.Proofs.Ytngmaiiibinkaaa
open Go.RowKit Go.Shelf
set_option linter.unusedVariables false
set_option linter.unusedSimpArgs false
theorem sqC_set : ∀ (l : List Sq) (i : Nat) (x y : Sq), l[i]? = some x → ∀ (r : Nat) (u : Value), r < 3 → sqL y = (sqL x).set r u → sqC (l.set i y) = (sqC l).set (i * 3 + r) u
  | [], i, x, y, h, r, u, hr, he => by simp at h
  | a :: l, 0, x, y, h, r, u, hr, he => by
    simp at h
    subst h
    have hl : r < (sqL a).length := by simp [sqL]; omega
    simp only [List.set_cons_zero, sqC, List.flatMap_cons, he, Nat.zero_mul, Nat.zero_add]
    rw [List.set_append, if_pos hl]
  | a :: l, i + 1, x, y, h, r, u, hr, he => by
    simp only [List.getElem?_cons_succ] at h
    have ih := sqC_set l i x y h r u hr he
    have hl : (sqL a).length = 3 := rfl
    simp only [List.set_cons_succ, sqC, List.flatMap_cons] at ih ⊢
    rw [ih, List.set_append, if_neg (by rw [hl]; omega)]
    congr 2
    rw [hl]
    omega
def QW (l : List Sq) : Prop := ∀ x ∈ l, in64 x.j ∧ in64 x.f ∧ in64 x.t
/-- The law's own spans. -/
structure XsS (w0 : World) (v : Value) (l : List Sq) (w : World) : Prop where
  own : w.ownsRow w0.heap.size TSp 3 v l.length (sqC l)
  wf : QW l
  bel : Below w0.heap.size w0 w
section
variable {w0 w w' : World} {v : Value} {l : List Sq} {g m cap i : Nat} {x y : Sq}
theorem XsS.later (h : XsS w0 v l w) (hb : Below w.heap.size w w') : XsS w0 v l w' := ⟨(Kept.of [] hb).row h.own (by simp), h.wf, h.bel.trans (hb.mono h.bel.size)⟩
theorem XsS.set (h : XsS w0 (.slice (some ⟨g, 0, none⟩) m cap) l w) (hx : l[i]? = some x) (r : Nat) (hr : r < 3) (u : Value) (he : sqL y = (sqL x).set r u) (hy : in64 y.j ∧ in64 y.f ∧ in64 y.t) : XsS w0 (.slice (some ⟨g, 0, none⟩) m cap) (l.set i y) (w.setCell ⟨g, i * 3 + r, none⟩ u) := by
  have hil := (List.getElem?_eq_some_iff.1 hx).1
  refine ⟨?_, fun z hz => ?_, h.bel.setCell (p := ⟨g, i * 3 + r, none⟩) (h.own.lt g rfl).1 _⟩
  · rw [List.length_set, sqC_set l i x y hx r u hr he]
    exact own_set h.own rfl (by omega) u
  · rcases List.mem_or_eq_of_mem_set hz with hz | rfl
    · exact h.wf z hz
    · exact hy
theorem XsS.cell (h : XsS w0 (.slice (some ⟨g, 0, none⟩) m cap) l w) (hx : l[i]? = some x) : w.cell? ⟨g, i * 3, none⟩ = some (.int .i64 x.j) ∧ w.cell? ⟨g, i * 3 + 1, none⟩ = some (.int .i64 x.f) ∧ w.cell? ⟨g, i * 3 + 2, none⟩ = some (.int .i64 x.t) :=
  ⟨own_cell h.own rfl (sqC_get l i x hx 0 _ rfl), own_cell h.own rfl (sqC_get l i x hx 1 _ rfl), own_cell h.own rfl (sqC_get l i x hx 2 _ rfl)⟩
theorem XsS.fz (h : XsS w0 (.slice (some ⟨g, 0, none⟩) m cap) l w) (hn : 0 < l.length) (j : Nat) : w.frozen? ⟨g, j, none⟩ = false := by
  obtain ⟨g', c', hv, -, -, -, -, hf⟩ := own_form h.own hn
  simp only [Value.slice.injEq, Option.some.injEq, Addr.mk.injEq, and_true] at hv
  obtain ⟨rfl, -⟩ := hv
  exact hf j
/-- One more span. -/
theorem XsS.push {W1 : World} {v' : Value} (h : XsS w0 v l w) (hb : Below w.heap.size w W1) (hy : in64 y.j ∧ in64 y.f ∧ in64 y.t) (ho : w'.ownsRow w0.heap.size TSp 3 v' (l.length + 1) (sqC l ++ sqL y)) (hg : W1.grownBy w' v.ownBlock) : XsS w0 v' (l ++ [y]) w' := by
  have e : sqC (l ++ [y]) = sqC l ++ sqL y := by simp [sqC]
  refine ⟨by rw [e, List.length_append, List.length_singleton]; exact ho, fun z hz => ?_, (h.bel.trans (hb.mono h.bel.size)).grown hg ?_ (fun q hq => (h.own.lt q hq).1)⟩
  · rcases List.mem_append.1 hz with hz | hz
    · exact h.wf z hz
    · rw [List.mem_singleton.1 hz]; exact hy
  · have := h.bel.size
    have := hb.size
    omega
end
theorem XsS.sqr {w0 w : World} {A : Option Addr} {k n c : Nat} {l : List Sq} (h : XsS w0 (.slice A k c) l w) (hn : l.length = n) : SqR w A c l := by
  obtain ⟨A', c', hv, hS⟩ := sqr_own h.own h.wf
  simp only [Value.slice.injEq] at hv
  obtain ⟨rfl, -, rfl⟩ := hv
  exact hS
theorem sqr_one (w : World) (y : Sq) (hy : in64 y.j ∧ in64 y.f ∧ in64 y.t) : SqR (w.alloc (.cells #[.int .i64 y.j, .int .i64 y.f, .int .i64 y.t] TSp)) (some ⟨w.heap.size, 0, none⟩) 1 [y] := by
  have h : (w.alloc (.cells #[.int .i64 y.j, .int .i64 y.f, .int .i64 y.t] TSp)).ownsRow w.heap.size TSp 3 (.slice (some ⟨w.heap.size, 0, none⟩) 1 1) [y].length (sqC [y]) := World.ownsRow_lit w _ 1 (Nat.le_refl _) (by unfold maxLen; omega) rfl
  obtain ⟨A', c', hv, hS⟩ := sqr_own h (fun x hx => by rw [List.mem_singleton.1 hx]; exact hy)
  simp only [List.length_singleton, Value.slice.injEq, true_and] at hv
  obtain ⟨rfl, rfl⟩ := hv
  exact hS
theorem in64_wr (n : Int) : in64 (wrap64 n) := by unfold in64 wrap64; omega
def SpsP (l : List Sq) (w : World) (e : Ending) (w' : World) : Prop := ∃ A c, e = .returned (.slice A l.length c) ∧ SqR w' A c l ∧ Below w.heap.size w w'
theorem XsS.done {w0 w : World} {v : Value} {l : List Sq} (h : XsS w0 v l w) : SpsP l w0 (.returned v) w := by
  obtain ⟨A, c, hv, hS⟩ := sqr_own h.own h.wf
  exact ⟨A, c, by rw [hv], hS, h.bel⟩
theorem XsS.nil (w : World) : XsS w (.slice none 0 0) [] w := ⟨World.ownsRow_nil _ _ _ _, fun x hx => by simp at hx, Below.refl _ _⟩
theorem XsS.form {w0 w : World} {v : Value} {l : List Sq} (h : XsS w0 v l w) : ∃ A c, v = .slice A l.length c ∧ l.length ≤ c ∧ c ≤ maxLen := own_len h.own
theorem cells_sp (W : World) (y : Sq) : ∀ (j : Nat) (u : Value), (sqL y)[j]? = some u → (W.alloc (.cells #[.int .i64 y.j, .int .i64 y.f, .int .i64 y.t] TSp)).cell? ((⟨W.heap.size, 0, none⟩ : Addr).add j) = some u := fun j u hu => by
  rw [Addr.add_lit, Nat.zero_add, cell_of_row _ _ _ _ _ _ (heap_alloc_new W _)]
  simpa [sqL] using hu
theorem wpList_append_run {ops : Array Oper} {rest : List Oper} {o : Oper} {a : Act} {Q : Exit → Act → World → Prop} {w w' : World} {v u v' : Value} (hgd : o.guard = none) (s x : Operand) (ho : o.op = Op.call { callee := Callee.builtin Builtin.append, args := #[s, x], argTypes := #[TSl, TSl] })
    (hv : a.eval s = v) (hx : a.eval x = u) (hrun : ∀ ty, (Builtin.append_ #[TSl, TSl] ty #[v, u]).run Try.prog w = .ok v' w') (hK : wpList Try.prog ops Q rest (a.put o.dst v') w') : wpList Try.prog ops Q (o :: rest) a w := by
  refine wpList_plain hgd fun K hK' => ?_
  unfold Oper.wp
  simp [execOp, ho, resolve, invoke, builtin, hv, hx, hrun, Result.andThen]
  exact hK' _ _ hK
theorem step_append_run {ops : Array Oper} {o : Oper} {a : Act} {w w' : World} {K : Act → World → Prop} {Q : Exit → Act → World → Prop} {E : Prop} {v u v' : Value} (hgd : o.guard = none) (s x : Operand) (ho : o.op = Op.call { callee := Callee.builtin Builtin.append, args := #[s, x], argTypes := #[TSl, TSl] })
    (hv : a.eval s = v) (hx : a.eval x = u) (hrun : ∀ ty, (Builtin.append_ #[TSl, TSl] ty #[v, u]).run Try.prog w = .ok v' w') (hK : K (a.put o.dst v') w') : if Region.wanted o (yielded ops a.tmps) = true then Oper.wp Try.prog o a w K Q else E := by
  have hw : Region.wanted o (yielded ops a.tmps) = true := by simp [Region.wanted, hgd]
  rw [if_pos hw]
  unfold Oper.wp
  simp [execOp, ho, resolve, invoke, builtin, hv, hx, hrun, Result.andThen]
  exact hK
theorem XsS.app {w0 w : World} {v : Value} {l : List Sq} (h : XsS w0 v l w) (hn : l.length ≤ 1000000) (y : Sq) (hy : in64 y.j ∧ in64 y.f ∧ in64 y.t) :
    ∃ v' w', (∀ ty, (Builtin.append_ #[TSl, TSl] ty #[v, .slice (some ⟨w.heap.size, 0, none⟩) 1 1]).run Try.prog (w.alloc (.cells #[.int .i64 y.j, .int .i64 y.f, .int .i64 y.t] TSp)) = .ok v' w') ∧ XsS w0 v' (l ++ [y]) w' := by
  obtain ⟨i0, hi, hz0, hz1, hz2⟩ := info_parts infoSp
  have bb : Below w.heap.size w (w.alloc (.cells #[.int .i64 y.j, .int .i64 y.f, .int .i64 y.t] TSp)) := (Below.refl _ _).alloc (Nat.le_refl _) _
  have hs := h.bel.size
  obtain ⟨v', w', h1, h2, h3, -⟩ := run_append_own (P := Try.prog) (w.alloc (.cells #[.int .i64 y.j, .int .i64 y.f, .int .i64 y.t] TSp)) w0.heap.size TSl 0 TSp i0 _ 3 24 Try.underlying24 hi hz0 hz1 hz2 rfl (by omega) v l.length _ (h.later bb).own ⟨w.heap.size, 0, none⟩ 1 1 (sqL y) rfl (cells_sp w y) (sqL_one y) (by unfold maxLen; omega) (by omega) (by simp; omega)
  exact ⟨v', w', fun ty => by rw [← h1]; rfl, h.push bb hy h2 h3⟩
end Go.Proofs.Ytngmaiiibinkaaa
/- The document's Busy. -/
namespace Go.Proofs.Ytngmaiiibinkaaa
open Go.RowKit Go.Shelf
set_option linter.unusedVariables false
set_option linter.unusedSimpArgs false
attribute [local go_sem ↓] Go.wp_at_zero Go.wp_at_succ
theorem nil_or_snoc {α : Type} (l : List α) : l = [] ∨ ∃ L b, l = L ++ [b] := by
  rcases List.eq_nil_or_concat l with h | ⟨L, b, h⟩
  · exact .inl h
  · exact .inr ⟨L, b, by rw [h, List.concat_eq_append]⟩
def toP (p : Int × Int) : Sq := ⟨0, p.1, p.2⟩
def bstep (o : List Sq) (x : Sq) : List Sq :=
  match o.getLast? with
  | none => o ++ [⟨0, x.f, x.t⟩]
  | some y => if y.t = x.f then o.set (o.length - 1) { y with t := x.t } else o ++ [⟨0, x.f, x.t⟩]
theorem bstep_nil (x : Sq) : bstep [] x = [⟨0, x.f, x.t⟩] := rfl
theorem bstep_snoc (o : List Sq) (y x : Sq) : bstep (o ++ [y]) x = if y.t = x.f then o ++ [{ y with t := x.t }] else o ++ [y] ++ [⟨0, x.f, x.t⟩] := by
  have e : (o ++ [y]).getLast? = some y := List.getLast?_concat
  unfold bstep
  rw [e]
  dsimp only
  by_cases h : y.t = x.f
  · rw [if_pos h, if_pos h, List.length_append, List.length_singleton, Nat.add_sub_cancel, List.set_append, if_neg (by omega), Nat.sub_self]
    rfl
  · rw [if_neg h, if_neg h]
theorem foldl_busy : ∀ (l : List Sq) (o : List Sq) (a b : Int), l.foldl bstep (o ++ [⟨0, a, b⟩]) = o ++ (⟨0, a, (runQ b l).1⟩ :: (busyQ (runQ b l).2).map toP)
  | [], o, a, b => by simp [runQ, busyQ]
  | x :: l, o, a, b => by
    rw [List.foldl_cons, bstep_snoc]
    by_cases h : x.f = b
    · rw [if_pos h.symm, foldl_busy l o a x.t, runQ, if_pos h]
    · rw [if_neg (fun e => h e.symm), foldl_busy l (o ++ [(⟨0, a, b⟩ : Sq)]) x.f x.t, runQ, if_neg h, busyQ]
      simp [toP]
theorem busy_foldl (l : List Sq) : l.foldl bstep [] = (busyQ l).map toP := by
  cases l with
  | nil => simp [busyQ]
  | cons x l =>
    rw [List.foldl_cons, bstep_nil]
    have := foldl_busy l [] x.f x.t
    rw [List.nil_append] at this
    rw [this, busyQ]
    simp [toP]
theorem bstep_len (o : List Sq) (x : Sq) : (bstep o x).length ≤ o.length + 1 := by
  unfold bstep
  split
  · simp
  · split <;> simp
theorem foldl_len : ∀ (l o : List Sq), (l.foldl bstep o).length ≤ o.length + l.length
  | [], o => by simp
  | x :: l, o => by
    have := foldl_len l (bstep o x)
    have := bstep_len o x
    simp only [List.foldl_cons, List.length_cons]
    omega
theorem foldl_succ {l : List Sq} {k : Nat} {x : Sq} (h : l[k]? = some x) : (l.take (k + 1)).foldl bstep [] = bstep ((l.take k).foldl bstep []) x := by
  rw [List.take_add_one, h, List.foldl_append]
  rfl
set_option maxRecDepth 100000 in
set_option maxHeartbeats 8000000 in
theorem rbusy_any {A : Option Addr} {cap : Nat} {l : List Sq} (w : World) (h : SqR w A cap l) (hl : l.length ≤ 1000000) : Calls Try.prog 29 #[.slice A l.length cap] w (SpsP ((busyQ l).map toP) w) := by
  obtain ⟨i0, hi, hz0, hz1, hz2⟩ := info_parts infoSp
  obtain ⟨m, hm⟩ : ∃ m, l.length = m := ⟨_, rfl⟩
  have hle := h.le
  have hmx := h.mx
  have PP := Lib.hid (fun v wr (hx : XsS w v ((l.take m).foldl bstep []) wr) => show SpsP ((busyQ l).map toP) w (.returned v) wr from by
    rw [← hm, List.take_length, busy_foldl] at hx
    exact hx.done)
  rw [hm] at hle hl
  have HS := Lib.hid h
  have HM := Lib.hid hm
  have HLN := Lib.hid (fun (k : Nat) (hk : k ≤ m) => show ((l.take k).foldl bstep []).length ≤ 1000000 from by
    have h1 := foldl_len (l.take k) []
    rw [List.length_take] at h1
    simp only [List.length_nil] at h1
    omega)
  rw [hm]
  clear h hm
  generalize hPP : SpsP ((busyQ l).map toP) w = Post at *
  clear hPP
  go_enter Try.func29, Try.ntmps29
  go_wp2
  go_loopw [3, 4] (fun v i wr => ∃ k : Nat, k ≤ m ∧ i = .int .i64 (k : Int) ∧ Hid (XsS w v ((l.take k).foldl bstep []) wr)) (fun _ i _ => m - (intOf i).toNat)
  case atStart => exact ⟨0, Nat.zero_le _, rfl, Lib.hid (XsS.nil w)⟩
  case round =>
    obtain ⟨k, hk, rfl, hX⟩ := hrel
    by_cases hlt : k < m
    · obtain ⟨b, o, x, rfl, hx, hbl, a0, a1, a2⟩ := (HS.out.later hX.out.bel).get (k := k) (by rw [HM.out]; exact hlt)
      have k0 : (0 : Int) ≤ (k : Int) := by omega
      have k1 : (k : Int) < (m : Int) := by omega
      have hwx := HS.out.wf x (List.mem_of_getElem? hx)
      have HWX := Lib.hid hwx
      have HF := Lib.hid (foldl_succ hx)
      have hpl := HLN.out k hk
      have HKL := Lib.hid hlt
      clear hx hwx hbl
      obtain ⟨O, hO⟩ : ∃ O, (l.take k).foldl bstep [] = O := ⟨_, rfl⟩
      rw [hO] at hX HF hpl
      clear hO
      rcases nil_or_snoc O with rfl | ⟨o', y, rfl⟩
      · obtain ⟨A2, c2, rfl, -⟩ := hX.out.form
        rw [bstep_nil] at HF
        have BD := Lib.hid (show Below wr.heap.size wr wr.drew from ⟨rfl, rfl, rfl, Nat.le_refl _, fun _ _ => rfl⟩)
        go_upto_region 6 with (fail)
        go_quiet (fail)
        have HXN := Lib.hid (hX.out.later (below_drewN2 wr nq))
        have a1 := cells_below (below_drewN2 wr nq) _ _ _ a1
        have a2 := cells_below (below_drewN2 wr nq) _ _ _ a2
        clear hX
        generalize wr.drewN nq = W1 at *
        go_upto_region 8 with (fail)
        have BD := Lib.hid (show Below W1.heap.size W1 W1.drew from ⟨rfl, rfl, rfl, Nat.le_refl _, fun _ _ => rfl⟩)
        obtain ⟨v', w7, hr1, hx7⟩ := (HXN.out.later BD.out).app (by simp) ⟨0, x.f, x.t⟩ ⟨by simp [in64], HWX.out.2.1, HWX.out.2.2⟩
        have HR1 := Lib.hid hr1
        have HX7 := Lib.hid hx7
        have a1 := cells_below BD.out _ _ _ a1
        have a2 := cells_below BD.out _ _ _ a2
        clear hr1 hx7
        go_region_law (refine step_append_run rfl (.tmp 40) (.tmp 52) rfl (by go_simp) (by go_simp) HR1.out ?_)
        all_goals
          go_wp2
          go_roundw
          case rel => exact ⟨k + 1, by omega, by go_num, by rw [HF.out]; exact HX7⟩
          case measure => simp [intOf]; omega
      · obtain ⟨A2, c2, rfl, hc2, hc3⟩ := hX.out.form
        have hy := hX.out.wf y (by simp)
        have HWY := Lib.hid hy
        have hgy : (o' ++ [y])[o'.length]? = some y := by simp
        obtain ⟨g, c', hv, hgB, hgl, hgc, hgm, hgf⟩ := own_form hX.out.own (by simp)
        simp only [Value.slice.injEq, true_and] at hv
        obtain ⟨rfl, rfl⟩ := hv
        obtain ⟨e0, e1, e2⟩ := hX.out.cell hgy
        have hlo : (o' ++ [y]).length = o'.length + 1 := by simp
        rw [bstep_snoc] at HF
        have HGY := Lib.hid hgy
        rw [hlo] at hc2 hpl ⊢
        obtain ⟨r, hr⟩ : ∃ r, o'.length = r := ⟨_, rfl⟩
        rw [hr] at e0 e1 e2 hc2 hpl hlo ⊢
        rw [hlo] at hX
        have HLO := Lib.hid hlo
        have HR := Lib.hid hr
        have r0 : (0 : Int) ≤ (r : Int) := by omega
        have r1 : (r : Int) < (r : Int) + 1 := by omega
        have r2 : decide ((0 : Int) < (r : Int) + 1) = true := decide_eq_true (by omega)
        have r3 : wrap64 ((r : Int) + 1 - 1) = (r : Int) := by rw [IntWalk.wrap64_in _ (by omega)]; omega
        have hmx' : c2 ≤ 9223372036854775807 := by unfold maxLen at hc3; omega
        clear hy hgy hlo hr hgB hc3
        by_cases ht : y.t = x.f
        · rw [if_pos ht] at HF
          have t1 : (y.t == x.f) = true := by simpa using ht
          go_upto_region 6 with (fail)
          go_quiet (fail)
          have HXN := Lib.hid (hX.out.later (below_drewN2 wr nq))
          have a2 := cells_below (below_drewN2 wr nq) _ _ _ a2
          have e2 := cells_below (below_drewN2 wr nq) _ _ _ e2
          clear hX hgf
          generalize wr.drewN nq = W1 at *
          have hgf := HXN.out.fz (by simp)
          have HX7 := Lib.hid (show XsS w (.slice (some ⟨g, 0, none⟩) (r + 1) c2) (o' ++ [{ y with t := x.t }]) (W1.setCell ⟨g, r * 3 + 2, none⟩ (.int .i64 x.t)) from by
            have h1 := HXN.out.set (i := r) (x := y) (y := { y with t := x.t }) (by rw [← HR.out]; exact HGY.out) 2 (by omega) (.int .i64 x.t) rfl ⟨HWY.out.1, HWY.out.2.1, HWX.out.2.2⟩
            have e : (o' ++ [y]).set r { y with t := x.t } = o' ++ [{ y with t := x.t }] := by
              rw [← HR.out, List.set_append, if_neg (by omega), Nat.sub_self]; rfl
            rw [e] at h1
            exact h1)
          go_wp2
          go_roundw
          case rel => exact ⟨k + 1, by omega, by go_num, by rw [HF.out]; exact HX7⟩
          case measure => simp [intOf]; omega
        · rw [if_neg ht] at HF
          have t1 : (y.t == x.f) = false := by simpa using ht
          go_upto_region 6 with (fail)
          go_quiet (fail)
          have HXN := Lib.hid (hX.out.later (below_drewN2 wr nq))
          have a1 := cells_below (below_drewN2 wr nq) _ _ _ a1
          have a2 := cells_below (below_drewN2 wr nq) _ _ _ a2
          clear hX
          generalize wr.drewN nq = W1 at *
          go_upto_region 8 with (fail)
          have BD := Lib.hid (show Below W1.heap.size W1 W1.drew from ⟨rfl, rfl, rfl, Nat.le_refl _, fun _ _ => rfl⟩)
          obtain ⟨v', w7, hr1, hx7⟩ := (HXN.out.later BD.out).app (by rw [HLO.out]; omega) ⟨0, x.f, x.t⟩ ⟨by simp [in64], HWX.out.2.1, HWX.out.2.2⟩
          have HR1 := Lib.hid hr1
          have HX7 := Lib.hid hx7
          have a1 := cells_below BD.out _ _ _ a1
          have a2 := cells_below BD.out _ _ _ a2
          clear hr1 hx7
          go_region_law (refine step_append_run rfl (.tmp 40) (.tmp 52) rfl (by go_simp) (by go_simp) HR1.out ?_)
          all_goals
            go_wp2
            go_roundw
            case rel => exact ⟨k + 1, by omega, by go_num, by rw [HF.out]; exact HX7⟩
            case measure => simp [intOf]; omega
    · obtain rfl : k = m := by omega
      go_wp2
      exact PP.out _ _ hX.out
end Go.Proofs.Ytngmaiiibinkaaa
