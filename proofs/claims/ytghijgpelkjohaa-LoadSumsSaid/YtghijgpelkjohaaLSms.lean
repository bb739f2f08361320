/- sums: what the program tells is what the document tells. -/
import Derived.Test.YtghijgpelkjohaaLOvr
import Derived.Test.YtghijgpelkjohaaLRpe
namespace Go.Proofs.Ytghijgpelkjohaa
open Go.RowKit
set_option linter.unusedVariables false
set_option linter.unusedSimpArgs false
/-- A block that holds what the document tells of a sum. -/
def GB (w : World) (b : Nat) (x : Fr) (e : Int) : Prop := w.heap[b]? = some (.cells #[.int .u64 x.n, .int .u64 x.d, .int .i64 e] TGot (0, 0))
theorem GB.lt {W : World} {b : Nat} {x : Fr} {e : Int} (h : GB W b x e) : b < W.heap.size := (Array.getElem?_eq_some_iff.1 h).1
theorem GB.later {W W' : World} {b : Nat} {x : Fr} {e : Int} (h : GB W b x e) (hb : Below W.heap.size W W') : GB W' b x e := (hb.block b h.lt).trans h
theorem GB.cells {W : World} {b : Nat} {x : Fr} {e : Int} (h : GB W b x e) : W.cell? ⟨b, 0, none⟩ = some (.int .u64 x.n) ∧ W.cell? ⟨b, 1, none⟩ = some (.int .u64 x.d) ∧ W.cell? ⟨b, 2, none⟩ = some (.int .i64 e) := ⟨row_c h 0, row_c h 1, row_c h 2⟩
/-- The boxes that sums makes. -/
structure SB (w0 : World) (b3 b5 b10 : Nat) (sf : Fr) (se pn : Int) (pb : Bool) (W : World) : Prop where
  f : FB W b3 sf
  g : GB W b5 sf se
  p : NB W b10 pn pb
  l : Lt w0 W
theorem SB.later {w0 W W' : World} {b3 b5 b10 : Nat} {sf : Fr} {se pn : Int} {pb : Bool} (h : SB w0 b3 b5 b10 sf se pn pb W) (hb : Below W.heap.size W W') : SB w0 b3 b5 b10 sf se pn pb W' :=
  ⟨h.f.later hb, h.g.later hb, h.p.later hb, lt_step _ _ h.l hb⟩
theorem over_parts {se sn sd : Int} {ob : Bool} (h : ob = (decide (se = 0) && decide (sn > sd))) : (se = 0 ∧ sn > sd ∧ ob = true) ∨ (se = 0 ∧ ¬ sn > sd ∧ ob = false) ∨ (se ≠ 0 ∧ ob = false) := by
  by_cases h1 : se = 0
  · by_cases h2 : sn > sd
    · exact .inl ⟨h1, h2, by rw [h, decide_eq_true h1, decide_eq_true h2]; rfl⟩
    · exact .inr (.inl ⟨h1, h2, by rw [h, decide_eq_true h1, decide_eq_false h2]; rfl⟩)
  · exact .inr (.inr ⟨h1, by rw [h, decide_eq_false h1]; rfl⟩)
set_option maxRecDepth 100000 in
set_option maxHeartbeats 8000000 in
theorem sums_any (A : Option Addr) (cap : Nat) (l : List Ts) (w : World) (hR : Row w A cap l) :
    Calls Try.prog 10 #[.slice A l.length cap] w fun e w' => e = .returned (.bool true) ∧ Below w.heap.size w w' := by
  have hle := hR.le
  have hmx := hR.mx
  have ROW := Lib.hid hR
  have KS := Lib.hid (fun W (h : Lt w W) => sum_any A cap l W (hR.later h))
  have KR := Lib.hid (fun W (h : Lt w W) => rsum_any A cap l W (hR.later h))
  have KO := Lib.hid (fun W (h : Lt w W) => over_any A cap l W (hR.later h))
  have KP := Lib.hid (fun W (h : Lt w W) => period_any A cap l W (hR.later h))
  have KQ := Lib.hid (fun W (h : Lt w W) => rperiod_any A cap l W (hR.later h))
  have HOP := Lib.hid (over_parts (over_is l hR.wf))
  have HL0 : Hid (Lt w w) := Lib.hid (Below.refl _ _)
  clear hR
  generalize overB l = ob at *
  generalize sumE l = se at *
  generalize sumF l = sf at *
  generalize pdN 1 l = pn at *
  generalize pdB 1 l = pb at *
  generalize hN : l.length = N at *
  have HN := Lib.hid hN
  clear hN
  go_enter Try.func10, Try.ntmps10
  go_upto_region 2 with (go_at_call 17; (with_reducible refine (KS.out _ HL0.out).mono ?_); rintro e w1 ⟨rfl, h1⟩)
  obtain ⟨V1, hV1, F1, L1⟩ : ∃ V1, w1.alloc (.cells #[.int .u64 sf.n, .int .u64 sf.d] 32) = V1 ∧ Hid (FB V1 w1.heap.size sf) ∧ Hid (Lt w V1) := ⟨_, rfl, Lib.hid (FB.new w1 sf), Lib.hid (lt_step _ _ h1 ((Below.refl _ _).alloc (Nat.le_refl _) _))⟩
  rw [hV1]
  clear hV1 h1
  generalize w1.heap.size = b3 at *
  go_upto_region 3 with (go_at_call 20; (with_reducible refine (KR.out _ L1.out).mono ?_); rintro e w2 ⟨rfl, h2⟩)
  obtain ⟨V2, hV2, F2, G2, L2⟩ : ∃ V2, w2.alloc (.cells #[.int .u64 sf.n, .int .u64 sf.d, .int .i64 se] TGot) = V2 ∧ Hid (FB V2 b3 sf) ∧ Hid (GB V2 w2.heap.size sf se) ∧ Hid (Lt w V2) :=
    ⟨_, rfl, Lib.hid ((F1.out.later h2).later ((Below.refl _ _).alloc (Nat.le_refl _) _)), Lib.hid (heap_alloc_new _ _), Lib.hid (lt_step _ _ (lt_step _ _ L1.out h2) ((Below.refl _ _).alloc (Nat.le_refl _) _))⟩
  rw [hV2]
  clear hV2 h2 F1 L1
  generalize w2.heap.size = b5 at *
  go_upto_region 4 with (go_at_call 21; (with_reducible refine (KO.out _ L2.out).mono ?_); rintro e w3 ⟨rfl, h3⟩; have F3 := Lib.hid (F2.out.later h3); have G3 := Lib.hid (G2.out.later h3); have L3 := Lib.hid (lt_step _ _ L2.out h3))
  clear h3 F2 G2 L2
  go_upto_region 5 with (go_at_call 19; (with_reducible refine (KP.out _ L3.out).mono ?_); rintro e w4 ⟨rfl, h4⟩; have F4 := Lib.hid (F3.out.later h4); have G4 := Lib.hid (G3.out.later h4); have L4 := Lib.hid (lt_step _ _ L3.out h4))
  clear h4 F3 G3 L3
  go_upto_region 6 with (go_at_call 22; (with_reducible refine (KQ.out _ L4.out).mono ?_); rintro e w5 ⟨rfl, h5⟩)
  obtain ⟨V5, hV5, S5⟩ : ∃ V5, w5.alloc (.cells #[.int .u64 pn, .bool pb] 56) = V5 ∧ Hid (SB w b3 b5 w5.heap.size sf se pn pb V5) :=
    ⟨_, rfl, Lib.hid ⟨(F4.out.later h5).later (boxN _ _ _), (G4.out.later h5).later (boxN _ _ _), NB.new _ _ _, lt_step _ _ (lt_step _ _ L4.out h5) (boxN _ _ _)⟩⟩
  rw [hV5]
  clear hV5 h5 F4 G4 L4
  generalize w5.heap.size = b10 at *
  obtain ⟨sn, sd⟩ := sf
  simp only at HOP ⊢
  go_wp2
  go_loopw [11] (fun i wr => ∃ k : Nat, k ≤ N ∧ i = .int .i64 k ∧ Hid (SB w b3 b5 b10 ⟨sn, sd⟩ se pn pb wr)) (fun i _ => N - (intOf i).toNat)
  case atStart => exact ⟨0, Nat.zero_le _, rfl, S5⟩
  case round =>
    clear S5
    obtain ⟨k, hk, rfl, HS⟩ := hrel
    by_cases hlt : k < N
    · obtain ⟨b', o, x, rfl, hx, hxw, hbl, hT⟩ := ROW.out.get (k := k) (by rw [HN.out]; exact hlt)
      have hTr := hT.later HS.out.l
      have HTR := Lib.hid hTr
      have c0 := hTr.c0
      have c1 := hTr.c1
      have c2 := hTr.c2
      have c3 := hTr.c3
      have c4 := hTr.c4
      have c5 := hTr.c5
      have c6 := hTr.c6
      have hi0 : (0 : Int) ≤ (k : Int) := by omega
      have hi1 : (k : Int) < ((N : Nat) : Int) := by omega
      have K1 := Lib.hid (fun W => of_any x hxw W)
      have K2 := Lib.hid (fun W => rof_any x hxw W)
      generalize ofF x.c x.t = f at *
      obtain ⟨fn, fd⟩ := f
      clear hT hTr hx hxw
      go_upto_region 9 with (fail)
      go_region_law (first
        | (go_simp; go_at_call 18; (with_reducible refine (K1.out _).mono ?_); rintro e wa ⟨rfl, ha⟩; have HA := Lib.hid (show Below wr.heap.size wr wa from by first | exact ha | exact Below.trans (below_drew wr) ha); have HTA := HTR.out.later HA.out; have a0 := HTA.c0; have a1 := HTA.c1; have a2 := HTA.c2; have a3 := HTA.c3; have a4 := HTA.c4; have a5 := HTA.c5; have a6 := HTA.c6; clear ha HTA)
        | (go_simp; go_at_call 23; (with_reducible refine (K2.out _).mono ?_); rintro e wb ⟨rfl, hb⟩; have HB := Lib.hid (show Below wa.heap.size wa wb from by first | exact hb | exact Below.trans (below_drew wa) hb); clear hb)
        | fail)
      all_goals
        go_wp2
        go_roundw
        case rel => exact ⟨k + 1, by omega, by go_num, Lib.hid ((HS.out.later HA.out).later HB.out)⟩
        case measure => simp [intOf]; omega
    · obtain rfl : k = N := by omega
      have f0 := HS.out.f.c0
      have f1 := HS.out.f.c1
      obtain ⟨g0, g1, g2⟩ := HS.out.g.cells
      have p0 := HS.out.p.c0
      have p1 := HS.out.p.c1
      simp only at f0 f1 g0 g1
      have HLL := Lib.hid HS.out.l
      clear HS
      rcases HOP.out with ⟨rfl, ho, rfl⟩ | ⟨rfl, ho, rfl⟩ | ⟨he, rfl⟩
      · have u1 : decide (sn > sd) = true := decide_eq_true ho
        have u2 : decide (sd < sn) = true := decide_eq_true ho
        clear ho HOP
        go_wp2
        go_ret
        exact ⟨rfl, HLL.out⟩
      · have u1 : decide (sn > sd) = false := decide_eq_false (by omega)
        have u2 : decide (sd < sn) = false := decide_eq_false (by omega)
        clear ho HOP
        go_wp2
        go_ret
        exact ⟨rfl, HLL.out⟩
      · have u1 : (se == 0) = false := by simpa using he
        clear he HOP
        go_wp2
        go_ret
        exact ⟨rfl, HLL.out⟩
end Go.Proofs.Ytghijgpelkjohaa
