/- ScriptMany: the walk. -/
import Derived.Test.YthfiodjhjhpiaaaJSP
import Derived.StillTailTactics
namespace Go.Proofs.Ythfiodjhjhpiaaa
open Go.RowKit
set_option linter.unusedVariables false
set_option linter.unusedSimpArgs false

def zeroV : Fv := ⟨0, 0, 0, 0, []⟩
abbrev zeroC : Array Value := #[.int .i64 0, .int .i64 0, .int .i64 0, .int .i64 0, .slice none 0 0]
theorem gvC_zero : ∀ (n : Nat) (j : Nat), j < n * 5 → (gvC (List.replicate n ⟨zeroV, none, 0⟩))[j]? = some (zeroC[j % 5]!)
  | 0, j, h => by omega
  | n + 1, j, h => by
    rw [List.replicate_succ]
    show (fvL zeroV none 0 ++ gvC (List.replicate n ⟨zeroV, none, 0⟩))[j]? = _
    by_cases h5 : j < 5
    · rw [List.getElem?_append_left (by simpa [fvL] using h5)]
      rcases (by omega : j = 0 ∨ j = 1 ∨ j = 2 ∨ j = 3 ∨ j = 4) with rfl | rfl | rfl | rfl | rfl <;> rfl
    · have hl : (fvL zeroV none 0).length = 5 := rfl
      rw [List.getElem?_append_right (by rw [hl]; omega), hl, gvC_zero n (j - 5) (by omega)]
      have : (j - 5) % 5 = j % 5 := by omega
      rw [this]
theorem made_zero (n : Nat) : (madeCells zeroC (n * 5)).toList = gvC (List.replicate n ⟨zeroV, none, 0⟩) := by
  apply List.ext_getElem?
  intro j
  by_cases h : j < n * 5
  · rw [gvC_zero n j h]
    simp [madeCells, h]
  · have h1 : (madeCells zeroC (n * 5)).toList.length = n * 5 := by rw [Array.length_toList, size_madeCells]
    have h2 := gvC_length (List.replicate n (⟨zeroV, none, 0⟩ : Gv))
    rw [List.length_replicate] at h2
    rw [List.getElem?_eq_none (by omega), List.getElem?_eq_none (by omega)]
theorem FOwn.made {e : TypeId} {B n c : Nat} {w : World} {v : Value} (h : w.ownsRow B e 5 v n (madeCells zeroC (n * 5)).toList) : FOwn e B w v (List.replicate n ⟨zeroV, none, 0⟩) := by
  refine ⟨by rw [List.length_replicate, ← made_zero]; exact h, fun g hg => ?_⟩
  obtain ⟨_, rfl⟩ := List.mem_replicate.1 hg
  refine ⟨⟨by unfold in64 zeroV; decide, by unfold in64 zeroV; decide, by unfold in64 zeroV; decide, by unfold in64 zeroV; decide⟩, ⟨by simp [zeroV], by simp, by simp [zeroV], fun i x hx => by simp [zeroV] at hx⟩, fun hn a ha => by simp at ha⟩
theorem index_first (sb so n c : Nat) (hn : 0 < n) (W : World) : (Instr.indexAt 24 (.slice (some ⟨sb, so, none⟩) n c) (.int .i64 0)).run Try.prog W = .ok (.pointer (some ⟨sb, so, none⟩)) W := by
  have hs : (sizeOf (Try.prog.elem 24)).run Try.prog W = .ok 7 W := by kernel_rfl
  have h := run_indexAt_slice (P := Try.prog) (w := W) 24 ⟨sb, so, none⟩ n c .i64 0 (by kernel_rfl)
  rw [if_pos ⟨by omega, by omega⟩, hs] at h
  rw [h]
  simp [Result.andThen, Addr.add]
def lenV (v : Value) : Nat := match v with | .slice _ l _ => l | _ => 0
set_option maxRecDepth 100000 in
set_option maxHeartbeats 16000000 in
theorem sm_walk (A0 : Option Addr) (cap0 : Nat) (l0 : List Sp) (x0 : Int) (w : World) (h0 : SRow w A0 cap0 l0) (i0 : in64 x0) :
    Calls Try.prog 7 #[.slice A0 l0.length cap0, .int .i64 x0] w fun e w' => e = .returned (.bool true) ∧ Below w.heap.size w w' := by
  obtain ⟨t0, hi, hz0, hz1, hz2⟩ := info_parts infoRs
  obtain ⟨j0, hj, hy0, hy1, hy2⟩ := info_parts infoJs
  have AW := Lib.hid (awake_any w)
  have KS := Lib.hid (fun (W : World) (hb : Below w.heap.size w W) => set_any 3 (by omega) (by omega) A0 cap0 l0 x0 W (h0.later hb) i0)
  obtain ⟨r, hr⟩ : ∃ r, x0 % (11 : Int) = r := ⟨_, rfl⟩
  have hrb := emod_bd x0 11 (by omega)
  have K3 := fun W => lrest_any x0 11 W i0 (by omega) (by omega)
  rw [hr] at K3 hrb
  have K3 := Lib.hid K3
  obtain ⟨n, hn⟩ : ∃ n : Nat, 4090 + r = (n : Int) := ⟨(4090 + r).toNat, by omega⟩
  have hn1 : 4090 ≤ n := by omega
  have hn2 : n ≤ 4100 := by omega
  have HN := Lib.hid hn
  clear h0 i0 hr hn
  go_enter Try.func7, Try.ntmps7
  go_upto_region 2 with (go_at_call 10; (with_reducible refine AW.out.mono ?_); rintro e w1 ⟨rfl, hb1⟩; have B1 := Lib.hid hb1; clear hb1)
  go_upto_region 3 with (go_at_call 12; (with_reducible refine (KS.out _ B1.out).mono ?_); rintro e w2 ⟨As, cs, ss, rfl, hRs, hs1, hs5, hsd, hsf, hsp, h2⟩; have RS := Lib.hid hRs; have HOK := Lib.hid (set_ok hs1 (by omega) hsd hsf hsp); have B2 := Lib.hid (B1.out.trans (h2.mono B1.out.size)); have HS1 := Lib.hid hs1; clear hRs hs1 hs5 hsd hsf hsp h2)
  go_upto_region 4 with (go_at_call 21; (with_reducible refine (K3.out _).mono ?_); rintro e wx ⟨rfl, rfl⟩)
  have KD := Lib.hid (fun (A : Option Addr) (c : Nat) (W : World) (hT : Row W As cs ss) (hR : FRow W A c (List.replicate n zeroV)) => decode_len As A cs c ss (List.replicate n zeroV) ss.length n W rfl (by simp) hT hR)
  rw [HN.out]
  clear hrb
  go_upto_region 5 with (first
    | (at_make; refine wpList_make_full _ rfl _ _ 23 rfl w2.heap.size 49 t0 _ 5 Try.underlying23 hi hz0 hz1 .i64 .i64 _ _ n rfl rfl rfl rfl (by rw [hz2]; omega) (by unfold maxLen; omega) (Nat.le_refl _) ?_; intro w3 hown hgrow; have HM := Lib.hid (FOwn.made (c := 0) hown); have H3 : Hid (Below w2.heap.size w2 w3) := Lib.hid ((Below.refl _ _).grown hgrow (Nat.le_refl _) (fun q hq => by cases hq)); clear hown hgrow)
    | (go_at_call 14; (with_reducible refine (KD.out _ _ _ (RS.out.later H3.out) (by have := HM.out.frow; obtain ⟨A, c, hv, hF⟩ := this; simp only [Value.slice.injEq] at hv; obtain ⟨rfl, _, rfl⟩ := hv; rw [List.map_replicate] at hF; exact hF)).mono ?_); rintro e w4 ⟨v4, g4, rfl, hG4, hg4, h4⟩; have HG4 := Lib.hid hG4; have HGX4 := Lib.hid hg4; have H34 := Lib.hid h4; have H4 := Lib.hid (bel_step H3.out h4); clear hG4 hg4 h4))
  obtain ⟨A4, c4, rfl, F4⟩ := HG4.out.frow
  have hleg : legS ss (g4.map (·.x)) = true := by rw [HGX4.out, decR, if_pos HOK.out]; exact decS_legal HOK.out _
  have hgl : g4.length = min n 4096 := by
    have := congrArg List.length HGX4.out
    rw [List.length_map, decR, if_pos HOK.out, decS, decF_len, List.length_take, List.length_replicate, List.length_nil] at this
    omega
  have B4 := Lib.hid (B2.out.trans (H4.out.mono B2.out.size))
  have RS4 := Lib.hid (RS.out.later H4.out)
  have F4h := Lib.hid F4
  have KL := Lib.hid (fun (W : World) (h : Below w4.heap.size w4 W) => legal_len As A4 cs c4 ss _ ss.length g4.length true W rfl (List.length_map _) hleg (RS4.out.later h) (F4h.out.later h))
  have HGL := Lib.hid hgl
  have hc4 := F4.le
  have hm4 := F4.mx
  rw [List.length_map] at hc4
  have H3b := H3
  clear F4 hleg KD HM H3
  by_cases hsm : n ≤ 4096
  · have hg : g4.length = n := by omega
    have hmin : min (n : Int) 4096 = (n : Int) := by omega
    rw [hg] at KL hc4 ⊢
    have KL := KL
    have gle : decide ((n : Int) ≤ 4096) = true := decide_eq_true (by omega)
    have gle' : decide (n ≤ 4096) = true := decide_eq_true hsm
    have gll : decide ((n : Int) < (n : Int)) = false := decide_eq_false (by omega)
    have hnn : ((n : Int) != (n : Int)) = false := by simp
    clear hgl hg
    go_upto_region 7 with (go_at_call 17; (with_reducible refine (KL.out _ (Below.refl _ _)).mono ?_); rintro e w5 ⟨rfl, h5⟩; have H5 := Lib.hid h5; clear h5)
    have HS5 : Hid (Below w4.heap.size w4 w5) := H5
    go_loopw [8] (fun v wr => v = .slice A4 n c4 ∧ Hid (Below w4.heap.size w4 wr)) (fun _ _ => 0)
    case atStart => exact ⟨rfl, HS5⟩
    case round =>
      obtain ⟨rfl, hB⟩ := hrel
      go_wp2_with (go_at_call 17; (with_reducible refine (KL.out _ hB.out).mono ?_); rintro e w6 ⟨rfl, h6⟩; have H6 := Lib.hid (bel_step hB.out h6); clear h6)
      go_ret
      exact ⟨rfl, B4.out.trans (H6.out.mono B4.out.size)⟩
  · have hg : g4.length = 4096 := by omega
    have hmin : min (n : Int) 4096 = 4096 := by omega
    rw [hg] at KL hc4 ⊢
    have hnn : ((4096 : Int) != 4096) = false := rfl
    have gle : decide ((n : Int) ≤ 4096) = false := decide_eq_false (by omega)
    have gle' : decide (n ≤ 4096) = false := decide_eq_false hsm
    have HG0 : Hid (∃ gs, FOwn 40 w3.heap.size w4 (.slice A4 4096 c4) gs ∧ gs.length = 4096) := Lib.hid ⟨g4, by have := HG4.out; rwa [hg] at this, hg⟩
    clear hgl hg
    go_upto_region 7 with (go_at_call 17; (with_reducible refine (KL.out _ (Below.refl _ _)).mono ?_); rintro e w5 ⟨rfl, h5⟩; have H5 := Lib.hid h5; clear h5)
    have HG5 : Hid (∃ gs, FOwn 40 w3.heap.size w5 (.slice A4 4096 c4) gs ∧ gs.length = 4096) := Lib.hid (by obtain ⟨gs, h1, h2⟩ := HG0.out; exact ⟨gs, h1.later H5.out, h2⟩)
    have HB5 : Hid (Below w3.heap.size w3 w5) := Lib.hid (bel_step H34.out H5.out)
    have RS3 : Hid (Row w3 As cs ss) := Lib.hid (RS.out.later H3b.out)
    have B3 : Hid (Below w.heap.size w w3) := Lib.hid (B2.out.trans (H3b.out.mono B2.out.size))
    clear KL HG0 HG4 HGX4 F4h RS4 B4 H4 H5 H34
    obtain ⟨BB, hBB⟩ : ∃ BB, w3.heap.size = BB := ⟨_, rfl⟩
    rw [hBB] at HG5
    have HB5 : Hid (Below BB w3 w5) := by rw [← hBB]; exact HB5
    have HBB := Lib.hid hBB
    clear hBB
    go_loopw [8] (fun v wr => ∃ (m : Nat) (A : Option Addr) (c : Nat), 4096 ≤ m ∧ m ≤ n ∧ v = .slice A m c ∧ Hid (∃ gs, FOwn 40 BB wr (.slice A m c) gs ∧ gs.length = m) ∧ Hid (Below BB w3 wr)) (fun v _ => n - lenV v)
    case atStart => exact ⟨4096, A4, c4, Nat.le_refl _, by omega, rfl, HG5, HB5⟩
    case round =>
      obtain ⟨m, A, c, hm0, hm, rfl, hG, hB⟩ := hrel
      obtain ⟨gs, hGs, hgl⟩ := hG.out
      have hB' : Below w3.heap.size w3 wr := by rw [HBB.out]; exact hB.out
      by_cases hlt : m < n
      · obtain ⟨i, hi0⟩ : ∃ i, m = i + 1 := ⟨m - 1, by omega⟩
        have hsub : (m : Int) - 1 = (i : Int) := by omega
        have him : i < m := by omega
        obtain ⟨q, cq, hq, hqB, hql, hmc, hcm, hfz⟩ := own_form hGs.row (by omega)
        simp only [Value.slice.injEq] at hq
        obtain ⟨rfl, hqm, rfl⟩ := hq
        clear hqm
        obtain ⟨g, hg⟩ : ∃ g, gs[i]? = some g := ⟨gs[i]'(by omega), List.getElem?_eq_getElem _⟩
        have hcell := hGs.at_ hg
        have z0 := hcell 0 _ rfl
        have z1 := hcell 1 _ rfl
        have z2 := hcell 2 _ rfl
        have z3 := hcell 3 _ rfl
        have z4 := hcell 4 _ rfl
        rw [Nat.add_zero] at z0
        have tp0 : (0 : Int) ≤ (i : Int) := by omega
        have tp1 : (i : Int) < (m : Int) := by omega
        have hmi : (0 : Int) ≤ (m : Int) := by omega
        have hmn : (m : Int) < (n : Int) := by omega
        have hm4 : (m : Int) ≤ 4100 := by omega
        have HGO := Lib.hid (hGs.each g (List.mem_of_getElem? hg))
        have HGS := Lib.hid hGs
        have HGL := Lib.hid hgl
        have HI0 := Lib.hid hi0
        obtain ⟨sb, so, t, rfl, hx, hw, hbl, hT⟩ := RS3.out.get (k := 0) (by have := HS1.out; omega)
        have hs1 := HS1.out
        have hss : (0 : Int) < (ss.length : Int) := by omega
        have c2 := (hT.later hB').c2
        have HB' := Lib.hid hB'
        have HB3 := hB
        rw [hgl] at hmc
        clear hcell hfz hg hGs hgl hi0 hx hw hT hB' hql hqB
        go_upto_region 9 with (fail)
        obtain ⟨⟨xt, xa, xr, xk, xc⟩, gA, gcap⟩ := g
        simp only at z0 z1 z2 z3 z4 HGO ⊢
        have F1 := FB.new wr 40 (.int .i64 xt) (.int .i64 xa) (.int .i64 xr) (.int .i64 xk) (.slice gA xc.length gcap)
        have b1 : Below wr.heap.size wr (wr.alloc (.cells #[.int .i64 xt, .int .i64 xa, .int .i64 xr, .int .i64 xk, .slice gA xc.length gcap] 40)) := (Below.refl _ _).alloc (Nat.le_refl _) _
        have c2' := cells_below b1 _ _ _ c2
        simp only [Nat.zero_mul, Nat.add_zero] at c2'
        have hbs : BB ≤ wr.heap.size := by rw [← HBB.out]; exact HB'.out.size
        have HBS := Lib.hid hbs
        generalize (wr.alloc (.cells #[.int .i64 xt, .int .i64 xa, .int .i64 xr, .int .i64 xk, .slice gA xc.length gcap] 40)) = W1 at *
        obtain ⟨bx, hbx⟩ : ∃ bx, bx = wr.heap.size := ⟨_, rfl⟩
        rw [← hbx] at F1 ⊢
        have HBX : Hid (wr.heap.size ≤ bx) := Lib.hid (by rw [hbx]; exact Nat.le_refl _)
        obtain ⟨av, hav⟩ : ∃ av, IntKind.i64.wrap (xa + t.t) = av := ⟨_, rfl⟩
        have HAV : Hid (in64 av) := Lib.hid (by rw [← hav, IntWalk.i64_left]; exact in64_wrap _)
        have b2 := bel_step b1 (below_drew W1)
        have F2 := F1.later (below_drew W1)
        clear z0 z1 z2 z3 z4 c2 hbx hbs
        obtain ⟨z0, z1, z2, z3, z4⟩ := F1.z
        have yf := F2.fz 1
        have F3 := Lib.hid (F2.set (i := 1) (.int .i64 av) rfl)
        have b3 := Lib.hid (b2.setCell (p := ⟨bx, 1, none⟩) HBX.out (.int .i64 av))
        clear b1 b2 F1 F2
        have z1' : W1.drew.cell? ⟨bx, 1, none⟩ = some (.int .i64 xa) := z1
        have c2d : W1.drew.cell? ⟨sb, so + 2, none⟩ = some (.int .i64 t.t) := c2'
        have hix := fun W => index_first sb so ss.length cs (by omega) W
        go_still_tail 8, (by kernel_rfl)
        change wpList _ _ _ _ _ W1.drew
        generalize W1.drew = W2 at *
        clear z0 z1 z2 z3 z4 c2'
        go_upto_region 10 with (fail)
        generalize W2.setCell ⟨bx, 1, none⟩ (.int .i64 av) = W3 at *
        clear yf
        obtain ⟨z0, z1, z2, z3, z4⟩ := F3.out.z
        have yf := F3.out.fz 2
        have F4 := Lib.hid (F3.out.set (i := 2) (.int .i64 av) rfl)
        have b4 := Lib.hid (b3.out.setCell (p := ⟨bx, 2, none⟩) HBX.out (.int .i64 av))
        go_upto_region 11 with (fail)
        generalize W3.setCell ⟨bx, 2, none⟩ (.int .i64 av) = W4 at *
        clear yf z0 z1 z2 z3 z4
        obtain ⟨z0, z1, z2, z3, z4⟩ := F4.out.z
        have hO0 := HGO.out.kept (fun b hl _ => b4.out.block b hl)
        have hO : GOk 40 BB W4 ⟨⟨xt, av, av, xk, xc⟩, gA, gcap⟩ := ⟨⟨hO0.wf.t, HAV.out, HAV.out, hO0.wf.k⟩, hO0.s, hO0.safe⟩
        have HO := Lib.hid hO
        have HFA := Lib.hid (fun j u hu => by
          have := (FAt.new W4 ⟨xt, av, av, xk, xc⟩ gA gcap 40 hO.wf hO.s).r j u hu
          rw [Nat.zero_add] at this
          rw [add_none, Nat.zero_add]
          exact this : ∀ j u, (fvL ⟨xt, av, av, xk, xc⟩ gA gcap)[j]? = some u → (W4.alloc (.cells #[.int .i64 xt, .int .i64 av, .int .i64 av, .int .i64 xk, .slice gA xc.length gcap] 40)).cell? ((⟨W4.heap.size, 0, none⟩ : Addr).add j) = some u)
        have HG2 := Lib.hid (HGS.out.later b4.out)
        clear hO hO0 hav
        go_wp2_with (at_builtin; refine wpList_append_own _ rfl _ _ 29 rfl BB 40 j0 _ 5 56 Try.underlying29 hj hy0 hy1 hy2 rfl (by decide) _ m (gvC gs) rfl (by have h := HG2.out.row; rw [HGL.out] at h; exact h.alloc _) ⟨W4.heap.size, 0, none⟩ 1 1 (fvL ⟨xt, av, av, xk, xc⟩ gA gcap) rfl rfl HFA.out (fvL_one _ _ _) (by unfold maxLen; omega) (by omega) (by have := HBS.out; have := b4.out.size; simp; omega) ?_; intro v8 w8 hown' hgrow hnil'; obtain ⟨A8, c8, hv8, -, -⟩ := own_len hown'; subst hv8; have HOWN := Lib.hid hown'; have HGROW := Lib.hid hgrow; clear hown' hgrow hnil')
        go_roundw
        case rel =>
          have ba : Below W4.heap.size W4 (W4.alloc (.cells #[.int .i64 xt, .int .i64 av, .int .i64 av, .int .i64 xk, .slice gA xc.length gcap] 40)) := (Below.refl _ _).alloc (Nat.le_refl _) _
          have hG8 := (HG2.out.later ba).push (HO.out.kept fun b hl _ => ba.block b hl) (by have h := HOWN.out; rw [← HGL.out] at h; exact h) HGROW.out
          have hb4 : Below BB w3 W4 := HB3.out.trans (b4.out.mono HBS.out)
          have hbs4 : BB ≤ W4.heap.size := by have := HBS.out; have := b4.out.size; omega
          refine ⟨m + 1, A8, c8, by omega, by omega, rfl, Lib.hid ⟨_, by rw [HGL.out] at hG8; exact hG8, by rw [List.length_append, HGL.out]; rfl⟩, Lib.hid ((hb4.trans (ba.mono hbs4)).grown HGROW.out (by simp; omega) (fun q hq => (HG2.out.row.lt q hq).1))⟩
        case measure => simp only [lenV]; omega
      · obtain rfl : m = n := by omega
        obtain ⟨A9, c9, hv9, F9⟩ := hGs.frow
        rw [hgl] at hv9
        simp only [Value.slice.injEq] at hv9
        obtain ⟨rfl, -, rfl⟩ := hv9
        have KL := Lib.hid (legal_len As A cs c ss (gs.map (·.x)) ss.length m false wr rfl (by rw [List.length_map, hgl]) (legS_many (by rw [List.length_map, hgl]; omega)) (RS3.out.later hB') F9)
        have HB' := Lib.hid hB'
        clear hG hGs hgl F9 hB'
        go_wp2_with (go_at_call 17; (with_reducible refine KL.out.mono ?_); rintro e w6 ⟨rfl, h6⟩; have H6 := Lib.hid (bel_step HB'.out h6); clear h6)
        go_ret
        exact ⟨rfl, B3.out.trans (H6.out.mono B3.out.size)⟩
end Go.Proofs.Ythfiodjhjhpiaaa
