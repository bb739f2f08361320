/- ScriptLegal: the walk. -/
import Derived.Test.YthfiodjhjhpiaaaJAwk
import Derived.Test.YthfiodjhjhpiaaaJTurn
import Derived.Test.YthfiodjhjhpiaaaJLeg
import Derived.Test.YthfiodjhjhpiaaaRLeg
namespace Go.Proofs.Ythfiodjhjhpiaaa
open Go.RowKit
set_option linter.unusedVariables false
set_option linter.unusedSimpArgs false

theorem decode_len (A R : Option Addr) (cap rc : Nat) (ts : List Ts) (rs : List Fv) (n m : Nat) (w : World) (hn : ts.length = n) (hm : rs.length = m) (hT : Row w A cap ts) (hR : FRow w R rc rs) :
    Calls Try.prog 14 #[.slice A n cap, .slice R m rc] w (DecodePost (decR ts rs) w) := by
  subst hn hm; exact decode_any A R cap rc ts rs w hT hR
theorem rdecode_len (A R : Option Addr) (cap rc : Nat) (ts : List Ts) (rs : List Fv) (n m : Nat) (w : World) (hn : ts.length = n) (hm : rs.length = m) (hT : Row w A cap ts) (hR : FRow w R rc rs) :
    Calls Try.prog 15 #[.slice A n cap, .slice R m rc] w (DecodePost (decR ts rs) w) := by
  subst hn hm; exact rdecode_any A R cap rc ts rs w hT hR
theorem legal_len (A R : Option Addr) (cap rc : Nat) (ts : List Ts) (js : List Fv) (n m : Nat) (b : Bool) (w : World) (hn : ts.length = n) (hm : js.length = m) (hb : legS ts js = b) (hT : Row w A cap ts) (hR : FRow w R rc js) :
    Calls Try.prog 17 #[.slice A n cap, .slice R m rc] w fun e w' => e = .returned (.bool b) ∧ Below w.heap.size w w' := by
  subst hn hm hb; exact legal_any A R cap rc ts js w hT hR
theorem rlegal_len (A R : Option Addr) (cap rc : Nat) (ts : List Ts) (js : List Fv) (n m : Nat) (b : Bool) (w : World) (hn : ts.length = n) (hm : js.length = m) (hb : legS ts js = b) (hT : Row w A cap ts) (hR : FRow w R rc js) :
    Calls Try.prog 18 #[.slice A n cap, .slice R m rc] w fun e w' => e = .returned (.bool b) ∧ Below w.heap.size w w' := by
  subst hn hm hb; exact rlegal_any A R cap rc ts js w hT hR
theorem turned_any (B : Nat) (v : Value) (gs : List Gv) (at_ h n : Int) (w : World) (hG : FOwn 40 B w v gs) (hl : gs.length ≤ 4096) (hcl : ∀ g ∈ gs, g.x.c.length ≤ 1000000) (ha : in64 at_) (hh : in64 h) (hn : in64 n) :
    Calls Try.prog 16 #[v, .int .i64 at_, .int .i64 h, .int .i64 n] w (TurnPost (turnS (gs.map (·.x)) at_ h n) w) := by
  rcases hG.row.2 with ⟨hv, h0⟩ | ⟨g, cap, cur, hv, _, _, _, _⟩
  · have hgs : gs = [] := List.length_eq_zero_iff.1 h0
    subst hgs
    rw [hv]
    have ht : turnS (([] : List Gv).map (·.x)) at_ h n = [] := by simp [turnS]
    rw [ht]
    exact turned_nil at_ h n w
  · rw [hv] at hG ⊢
    exact turned_some B g cap gs at_ h n w hG hl hcl ha hh hn
theorem turnS_len (js : List Fv) (at_ h n : Int) : (turnS js at_ h n).length = js.length := by rw [turnS, List.length_modify]
theorem fewS_len (rs : List Fv) : (fewS rs).length ≤ 12 := by rw [fewS, List.length_map, List.length_take]; omega
theorem fewS_cut (rs : List Fv) : ∀ x ∈ fewS rs, x.c.length ≤ 6 := fun x hx => by
  obtain ⟨y, _, rfl⟩ := List.mem_map.1 hx
  simp only [fewS1, List.length_take]
  omega
theorem secs_len (q : Int) : ∀ (l : List Int) (left : Int), (secs q left l).length ≤ l.length
  | [], left => by simp [secs]
  | c :: r, left => by
    rw [secs]
    split
    · simp
    · have := secs_len q r (left - (1 + c % min q left)); simp only [List.length_cons]; omega
theorem decF_cut (ts : List Ts) (M : Nat) : ∀ (rs js : List Fv), (∀ x ∈ rs, x.c.length ≤ M) → (∀ x ∈ js, x.c.length ≤ M) → ∀ x ∈ decF ts js rs, x.c.length ≤ M
  | [], js, _, h => by rw [decF]; exact h
  | r :: rs, js, hr, h => by
    rw [decF]
    refine decF_cut ts M rs _ (fun x hx => hr x (by simp [hx])) (fun x hx => ?_)
    rcases List.mem_append.1 hx with hx | hx
    · exact h x hx
    · obtain rfl := List.mem_singleton.1 hx
      have := hr r (by simp)
      refine Nat.le_trans (secs_len _ _ _) this
theorem decR_cut (ts : List Ts) (rs : List Fv) : ∀ x ∈ decR ts (fewS rs), x.c.length ≤ 6 := by
  rw [decR]
  split
  · exact decF_cut ts 6 _ [] (fun x hx => fewS_cut rs x (List.mem_of_mem_take hx)) (by simp)
  · simp
theorem decR_len (ts : List Ts) (rs : List Fv) : (decR ts (fewS rs)).length ≤ 12 := by
  rw [decR]
  split
  · rw [decS, decF_len, List.length_take]; have := fewS_len rs; simp; omega
  · simp
abbrev Q3 (N : Nat) (a b c : Int) (W : World) : Prop := W.cell? ⟨N, 0, none⟩ = some (.int .i64 a) ∧ W.cell? ⟨N, 1, none⟩ = some (.int .i64 b) ∧ W.cell? ⟨N, 2, none⟩ = some (.int .i64 c)
theorem Q3.step {N : Nat} {a b c : Int} {W W' : World} (h : Q3 N a b c W) (hb : Below W.heap.size W W') : Q3 N a b c W' := ⟨cells_below hb _ _ _ h.1, cells_below hb _ _ _ h.2.1, cells_below hb _ _ _ h.2.2⟩
theorem arr3 {w w1 : World} {t : TypeId} {v0 v1 v2 : Int} (h : Below (w.alloc (.cells #[.int .i64 v0, .int .i64 v1, .int .i64 v2] t)).heap.size (w.alloc (.cells #[.int .i64 v0, .int .i64 v1, .int .i64 v2] t)) w1) :
    Q3 w.heap.size v0 v1 v2 w1 ∧ Below w.heap.size w w1 := by
  have hs := h.size
  simp only [World.size_alloc] at hs
  have hc : ∀ i, w1.cell? ⟨w.heap.size, i, none⟩ = (#[.int .i64 v0, .int .i64 v1, .int .i64 v2] : Array Value)[i]? := fun i => by
    rw [h.cell (p := ⟨w.heap.size, i, none⟩) (by simp), cell_of_row _ _ i _ _ _ (heap_alloc_new w _)]
  exact ⟨⟨hc 0, hc 1, hc 2⟩, ((Below.refl w.heap.size w).alloc (Nat.le_refl _) _).trans (h.mono (by simp))⟩
theorem bel_step {W w w' : World} (h : Below W.heap.size W w) (hb : Below w.heap.size w w') : Below W.heap.size W w' := h.trans (hb.mono h.size)
set_option maxRecDepth 100000 in
set_option maxHeartbeats 8000000 in
theorem sl_walk (A0 : Option Addr) (cap0 : Nat) (l0 : List Sp) (A1 : Option Addr) (cap1 : Nat) (l1 : List Fv) (x0 x1 x2 : Int) (w : World) (h0 : SRow w A0 cap0 l0) (h1 : FRow w A1 cap1 l1) (i0 : in64 x0) (i1 : in64 x1) (i2 : in64 x2) :
    Calls Try.prog 4 #[.slice A0 l0.length cap0, .slice A1 l1.length cap1, .agg #[.int .i64 x0, .int .i64 x1, .int .i64 x2]] w fun e w' => e = .returned (.bool true) ∧ Below w.heap.size w w' := by
  have AW := Lib.hid (fun W => awake_any W)
  have KF := Lib.hid (fun (W : World) (hb : Below w.heap.size w W) => few_any A1 cap1 l1 W (h1.later hb))
  have KS := Lib.hid (fun (W : World) (hb : Below w.heap.size w W) => set_any 5 (by omega) (by omega) A0 cap0 l0 x0 W (h0.later hb) i0)
  have t20 : ((20 : Int) == 0) = false := rfl
  have i3 : in64 (x2.tmod 20) := by
    have h1 := Int.lt_tmod_of_pos x2 (show (0 : Int) < 20 by omega)
    have h2 := Int.tmod_lt_of_pos x2 (show (0 : Int) < 20 by omega)
    unfold in64; omega
  have I0 := Lib.hid i0
  have I1 := Lib.hid i1
  have I3 := Lib.hid i3
  clear h0 h1 i0 i1 i2 i3
  go_enter Try.func4, Try.ntmps4
  go_upto_region 2 with (go_at_call 10; (with_reducible refine (AW.out _).mono ?_); rintro e w1 ⟨rfl, hb1⟩)
  obtain ⟨hq1, hB1⟩ := arr3 hb1
  obtain ⟨k0, k1, k2⟩ := hq1
  have HQ1 : Hid (Q3 w.heap.size x0 x1 x2 w1) := Lib.hid ⟨k0, k1, k2⟩
  have B1 := Lib.hid hB1
  clear hb1 hB1
  go_upto_region 3 with (go_at_call 12; (with_reducible refine (KS.out _ B1.out).mono ?_); rintro e w2 ⟨As, cs, ss, rfl, hRs, hs1, hs5, hsd, hsf, hsp, h2⟩; have RS := Lib.hid hRs; have HOK := Lib.hid (set_ok hs1 (by omega) hsd hsf hsp); have B2 := Lib.hid (B1.out.trans (h2.mono B1.out.size)); have HQ2 := Lib.hid (HQ1.out.step h2); clear hRs hs1 hs5 hsd hsf hsp h2)
  clear k0 k1 k2
  go_upto_region 4 with (first
    | (go_at_call 11; (with_reducible refine (KF.out _ B2.out).mono ?_); rintro e w3 ⟨vr, gr, rfl, hGr, hgr, h3⟩; obtain ⟨Ar, cr, rfl, FR⟩ := hGr.frow; rw [hgr] at FR; have hgl : (fewS l1).length = gr.length := (by rw [← hgr, List.length_map]); have KD := Lib.hid (decode_len As Ar cs cr ss (fewS l1) ss.length gr.length _ rfl hgl (RS.out.later h3) FR); have H3 := Lib.hid h3; clear hGr hgr h3 FR hgl)
    | (go_at_call 14; (with_reducible refine KD.out.mono ?_); rintro e w4 ⟨v4, g4, rfl, hG4, hg4, h4⟩; obtain ⟨A4, c4, rfl, F4⟩ := hG4.frow; rw [hg4] at F4; have hgl4 : (decR ss (fewS l1)).length = g4.length := (by rw [← hg4, List.length_map]); have HGL4 := Lib.hid hgl4; have FJ := Lib.hid F4; have H24 := Lib.hid (H3.out.trans (h4.mono H3.out.size)); clear hG4 hg4 h4 F4 hgl4 KD))
  have B4 := Lib.hid (B2.out.trans (H24.out.mono B2.out.size))
  have HQ4 := Lib.hid (HQ2.out.step H24.out)
  have RS4 := Lib.hid (RS.out.later H24.out)
  clear H24 HQ2 HQ1 RS
  have HQ := HQ4.out
  have HQ4 := Lib.hid (HQ4.out.step (below_drew w4))
  have B4 := Lib.hid (B4.out.trans ((below_drew w4).mono B4.out.size))
  have RS4 := Lib.hid (RS4.out.later (below_drew w4))
  have FJ := Lib.hid (FJ.out.later (below_drew w4))
  go_region_held_law (fun W => Q3 w.heap.size x0 x1 x2 W)
    (first | (with_reducible assumption) | (with_reducible exact HQ4.out) | (with_reducible exact HQ7.out) | (with_reducible exact HQ6.out) | (with_reducible exact HQ5.out) | fail)
    (first
    | (go_at_call 11; (with_reducible refine (KF.out _ B4.out).mono ?_); rintro e w5 ⟨vr5, gr5, rfl, hGr, hgr, h5⟩; obtain ⟨Ar5, cr5, rfl, FR⟩ := hGr.frow; rw [hgr] at FR; have hgl : (fewS l1).length = gr5.length := (by rw [← hgr, List.length_map]); have KD := Lib.hid (rdecode_len As Ar5 cs cr5 ss (fewS l1) ss.length gr5.length _ rfl hgl (RS4.out.later h5) FR); have H5 := Lib.hid h5; have HQ5 := Lib.hid (HQ4.out.step h5); clear hGr hgr h5 FR hgl)
    | (go_at_call 15; (with_reducible refine KD.out.mono ?_); rintro e w6 ⟨v6, g6, rfl, hG6, hg6, h6⟩; have HQ6 := Lib.hid (HQ5.out.step h6); have H46 := Lib.hid (H5.out.trans (h6.mono H5.out.size)); have KT := Lib.hid (turned_any _ v6 g6 x0 x1 (x2.tmod 20) _ hG6 (by have := congrArg List.length hg6; rw [List.length_map] at this; have := decR_len ss l1; omega) (fun g hg => by have := decR_cut ss l1 g.x (by rw [← hg6]; exact List.mem_map_of_mem hg); omega) I0.out I1.out I3.out); clear hG6 hg6 h6)
    | (go_at_call 16; (with_reducible refine KT.out.mono ?_); rintro e w7 ⟨v7, g7, rfl, hG7, hg7, h7⟩; have HQ7 := Lib.hid (HQ6.out.step h7); have H47 := Lib.hid (H46.out.trans (h7.mono H46.out.size)); have HG7 := Lib.hid hG7; clear hG7 hg7 h7)
    | fail)
  obtain ⟨A7, c7, rfl, F7⟩ := HG7.out.frow
  have e7 : (g7.map (·.x)).length = g7.length := List.length_map _
  have HB7 := Lib.hid (B4.out.trans (H47.out.mono B4.out.size))
  have RS7 := RS4.out.later H47.out
  have FJ7 := FJ.out.later H47.out
  obtain ⟨b, hb⟩ : ∃ b, legS ss (g7.map (·.x)) = b := ⟨_, rfl⟩
  have K1 := Lib.hid (fun (W : World) (h : Below w7.heap.size w7 W) => legal_len As A4 cs c4 ss (decR ss (fewS l1)) ss.length g4.length true W rfl HGL4.out (by rw [decR, if_pos HOK.out]; exact decS_legal HOK.out _) (RS7.later h) (FJ7.later h))
  have K2 := Lib.hid (fun (W : World) (h : Below w7.heap.size w7 W) => legal_len As A7 cs c7 ss _ ss.length g7.length b W rfl e7 hb (RS7.later h) (F7.later h))
  have K3 := Lib.hid (fun (W : World) (h : Below w7.heap.size w7 W) => rlegal_len As A7 cs c7 ss _ ss.length g7.length b W rfl e7 hb (RS7.later h) (F7.later h))
  have K4 := Lib.hid (fun (W : World) (h : Below w7.heap.size w7 W) => legal_len As none cs 0 ss [] ss.length 0 true W rfl rfl (by rw [legS_good HOK.out (by simp)]; rfl) (RS7.later h) (FRow.nil none 0 (by omega)))
  have K5 := Lib.hid (fun (W : World) (h : Below w7.heap.size w7 W) => legal_len none none 0 0 [] [] 0 0 false W rfl rfl (legS_bad (by simp [chkAll])) (Row.nil none 0 (by omega)) (FRow.nil none 0 (by omega)))
  have K6 := Lib.hid (fun (W : World) (h : Below w7.heap.size w7 W) => legal_len none A4 0 c4 [] (decR ss (fewS l1)) 0 g4.length false W rfl HGL4.out (legS_bad (by simp [chkAll])) (Row.nil none 0 (by omega)) (FJ7.later h))
  have H0 : Hid (Below w7.heap.size w7 w7) := Lib.hid (Below.refl _ _)
  clear F7 e7 RS7 FJ7 hb HG7 KT H46 HQ7 HQ6 HQ5 HQ4 HQ RS4 FJ B4 H47 H5 KD HGL4 HOK
  cases b <;> (
    go_wp2_with (first
      | (go_at_call 17; (with_reducible refine (K1.out _ H0.out).mono ?_); rintro e w8 ⟨rfl, h8⟩; have H8 := Lib.hid h8; clear h8)
      | (go_at_call 17; (with_reducible refine (K2.out _ H8.out).mono ?_); rintro e w9 ⟨rfl, h9⟩; have H9 := Lib.hid (bel_step H8.out h9); clear h9)
      | (go_at_call 18; (with_reducible refine (K3.out _ H9.out).mono ?_); rintro e wa ⟨rfl, ha⟩; have HA := Lib.hid (bel_step H9.out ha); clear ha)
      | (go_at_call 17; (with_reducible refine (K4.out _ HA.out).mono ?_); rintro e wb ⟨rfl, hb⟩; have HB := Lib.hid (bel_step HA.out hb); clear hb)
      | (go_at_call 17; (with_reducible refine (K5.out _ HB.out).mono ?_); rintro e wc ⟨rfl, hc⟩; have HC := Lib.hid (bel_step HB.out hc); clear hc)
      | (go_at_call 17; (with_reducible refine (K6.out _ HC.out).mono ?_); rintro e wd ⟨rfl, hd⟩; have HD := Lib.hid (bel_step HC.out hd); clear hd))
    go_ret
    exact ⟨rfl, HB7.out.trans (HD.out.mono HB7.out.size)⟩)
end Go.Proofs.Ythfiodjhjhpiaaa
