/- ScriptBack: the walk. -/
import Derived.Test.YthfiodjhjhpiaaaJBk
namespace Go.Proofs.Ythfiodjhjhpiaaa
open Go.RowKit
set_option linter.unusedVariables false
set_option linter.unusedSimpArgs false

theorem back_len (A R : Option Addr) (cap rc : Nat) (ts : List Ts) (js : List Fv) (n m : Nat) (w : World) (hn : ts.length = n) (hm : js.length = m) (hT : Row w A cap ts) (hR : FRow w R rc js) :
    Calls Try.prog 19 #[.slice A n cap, .slice R m rc] w fun e w' => e = .returned (.bool true) ∧ Below w.heap.size w w' := by
  subst hn hm; exact back_any A R cap rc ts js w hT hR
set_option maxRecDepth 100000 in
set_option maxHeartbeats 8000000 in
theorem sb_walk (A0 : Option Addr) (cap0 : Nat) (l0 : List Sp) (A1 : Option Addr) (cap1 : Nat) (l1 : List Fv) (x0 x1 x2 : Int) (w : World) (h0 : SRow w A0 cap0 l0) (h1 : FRow w A1 cap1 l1) (i0 : in64 x0) (i1 : in64 x1) (i2 : in64 x2) :
    Calls Try.prog 5 #[.slice A0 l0.length cap0, .slice A1 l1.length cap1, .agg #[.int .i64 x0, .int .i64 x1, .int .i64 x2]] w fun e w' => e = .returned (.bool true) ∧ Below w.heap.size w w' := by
  have AW := Lib.hid (fun W => awake_any W)
  have KF := Lib.hid (fun (W : World) (hb : Below w.heap.size w W) => few_any A1 cap1 l1 W (h1.later hb))
  have KS := Lib.hid (fun (W : World) (hb : Below w.heap.size w W) => set_any 5 (by omega) (by omega) A0 cap0 l0 x0 W (h0.later hb) i0)
  have t20 : ((20 : Int) == 0) = false := rfl
  have i3 : in64 (x2.tmod 20) := by
    have h1 := Int.lt_tmod_of_pos x2 (show (0 : Int) < 20 by omega)
    have h2 := Int.tmod_lt_of_pos x2 (show (0 : Int) < 20 by omega)
    unfold in64; omega
  have I0 := Lib.hid i0
  have I1 := Lib.hid i1
  have I2 := Lib.hid i2
  have I3 := Lib.hid i3
  clear h0 h1 i0 i1 i2 i3
  go_enter Try.func5, Try.ntmps5
  go_upto_region 2 with (go_at_call 10; (with_reducible refine (AW.out _).mono ?_); rintro e w1 ⟨rfl, hb1⟩)
  obtain ⟨hq1, hB1⟩ := arr3 hb1
  obtain ⟨k0, k1, k2⟩ := hq1
  have HQ1 : Hid (Q3 w.heap.size x0 x1 x2 w1) := Lib.hid ⟨k0, k1, k2⟩
  have B1 := Lib.hid hB1
  clear hb1 hB1
  go_upto_region 3 with (go_at_call 12; (with_reducible refine (KS.out _ B1.out).mono ?_); rintro e w2 ⟨As, cs, ss, rfl, hRs, hs1, hs5, hsd, hsf, hsp, h2⟩; have RS := Lib.hid hRs; have HOK := Lib.hid (set_ok hs1 (by omega) hsd hsf hsp); have B2 := Lib.hid (B1.out.trans (h2.mono B1.out.size)); have HQ2 := Lib.hid (HQ1.out.step h2); clear hRs hs1 hs5 hsd hsf hsp h2)
  clear k0 k1 k2
  go_upto_region 4 with (first
    | (go_at_call 11; (with_reducible refine (KF.out _ B2.out).mono ?_); rintro e w3 ⟨vr, gr, rfl, hGr, hgr, h3⟩; obtain ⟨Ar, cr, rfl, FR⟩ := hGr.frow; rw [hgr] at FR; have hgl : (fewS l1).length = gr.length := (by rw [← hgr, List.length_map]); have KD := Lib.hid (rdecode_len As Ar cs cr ss (fewS l1) ss.length gr.length _ rfl hgl (RS.out.later h3) FR); have H3 := Lib.hid h3; clear hGr hgr h3 FR hgl)
    | (go_at_call 15; (with_reducible refine KD.out.mono ?_); rintro e w4 ⟨v4, g4, rfl, hG4, hg4, h4⟩; have HG4 := Lib.hid hG4; have HGX4 := Lib.hid hg4; have H24 := Lib.hid (H3.out.trans (h4.mono H3.out.size)); clear hG4 hg4 h4 KD))
  obtain ⟨A4, c4, rfl, F4⟩ := HG4.out.frow
  have hgl4 : (g4.map (·.x)).length = g4.length := List.length_map _
  have B4 := Lib.hid (B2.out.trans (H24.out.mono B2.out.size))
  have HQ4 := Lib.hid (HQ2.out.step H24.out)
  have RS4 := Lib.hid (RS.out.later H24.out)
  have hg12 : g4.length ≤ 4096 := by
    have h1 := congrArg List.length HGX4.out
    rw [List.length_map] at h1
    have h2 := decR_len ss l1
    omega
  have hgc : ∀ g ∈ g4, g.x.c.length ≤ 1000000 := fun g hg => by
    have := decR_cut ss l1 g.x (by rw [← HGX4.out]; exact List.mem_map_of_mem hg)
    omega
  have KB := Lib.hid (back_len As A4 cs c4 ss (g4.map (·.x)) ss.length g4.length w4 rfl hgl4 RS4.out F4)
  have KT := Lib.hid (fun (n : Int) (hn : in64 n) (W : World) (hb : Below w4.heap.size w4 W) => turned_any _ _ g4 x0 x1 n W (HG4.out.later hb) hg12 hgc I0.out I1.out hn)
  have KX := Lib.hid (fun (A : Option Addr) (c : Nat) (gs : List Gv) (W : World) (hb : Below w4.heap.size w4 W) (hF : FRow W A c (gs.map (·.x))) => back_len As A cs c ss (gs.map (·.x)) ss.length gs.length W rfl (List.length_map _) (RS4.out.later hb) hF)
  clear hgl4 hg12 hgc F4 HGX4 H24 HQ2 HQ1 RS H3 AW KF KS
  go_wp2_with (first
    | (go_at_call 19; (with_reducible refine KB.out.mono ?_); rintro e w5 ⟨rfl, h5⟩; have H5 := Lib.hid h5; obtain ⟨k0, k1, k2⟩ := HQ4.out.step h5; clear h5)
    | (go_at_call 16; (with_reducible refine (KT.out (x2.tmod 20) I3.out _ H5.out).mono ?_); rintro e w6 ⟨v6, g6, rfl, hG6, hg6, h6⟩; obtain ⟨A6, c6, rfl, F6⟩ := hG6.frow; have H6 := Lib.hid (bel_step H5.out h6); have K6 := Lib.hid (KX.out A6 c6 g6 _ H6.out F6); clear hG6 hg6 h6 F6 k0 k1 k2)
    | (go_at_call 19; (with_reducible refine K6.out.mono ?_); rintro e w7 ⟨rfl, h7⟩; have H7 := Lib.hid (bel_step H6.out h7); obtain ⟨k0, k1, k2⟩ := HQ4.out.step H7.out; clear h7)
    | (go_at_call 16; (with_reducible refine (KT.out x2 I2.out _ H7.out).mono ?_); rintro e w8 ⟨v8, g8, rfl, hG8, hg8, h8⟩; obtain ⟨A8, c8, rfl, F8⟩ := hG8.frow; have H8 := Lib.hid (bel_step H7.out h8); have K8 := Lib.hid (KX.out A8 c8 g8 _ H8.out F8); clear hG8 hg8 h8 F8)
    | (go_at_call 19; (with_reducible refine K8.out.mono ?_); rintro e w9 ⟨rfl, h9⟩; have H9 := Lib.hid (bel_step H8.out h9); clear h9))
  go_ret
  exact ⟨rfl, B4.out.trans (H9.out.mono B4.out.size)⟩
end Go.Proofs.Ythfiodjhjhpiaaa
