/- The law ELo: its walk. -/
import Derived.Test.YtkpackbbahodcaaGreatG15
import Derived.Test.YtkpackbbahodcaaGreatG16
import Derived.Deep.CutRange
namespace Go.Proofs.YtkpackbbahodcaaGreat
open Go.RowKit
set_option linter.unusedVariables false
set_option linter.unusedSimpArgs false
attribute [local go_sem ↓] Go.wp_at_zero Go.wp_at_succ
theorem les_snoc (js : List Fv) (x : Fv) (low : Int) : lesJ (js ++ [x]) low = lesJ js low ++ (if x.t ≠ low then [x] else []) := by
  unfold lesJ
  rw [List.filter_append]
  congr 1
  by_cases h : x.t ≠ low <;> simp [h]
theorem lowJ_t (low : Int) (j : Fv) : (lowJ low j).t = j.t ∧ (lowJ low j).a = j.a ∧ (lowJ low j).r = j.r ∧ (lowJ low j).k = j.k := by unfold lowJ; split <;> exact ⟨rfl, rfl, rfl, rfl⟩
theorem les_low (js : List Fv) (low : Int) : lesJ (js.map (lowJ low)) low = lesJ js low := by
  unfold lesJ
  rw [List.filter_map]
  have e : ((fun j : Fv => decide (j.t ≠ low)) ∘ lowJ low) = fun j => decide (j.t ≠ low) := by
    funext j
    simp only [Function.comp, (lowJ_t low j).1]
  rw [e]
  conv => rhs; rw [← List.map_id (List.filter (fun j : Fv => decide (j.t ≠ low)) js)]
  refine List.map_congr_left fun j hj => ?_
  have := (List.mem_filter.1 hj).2
  have h : j.t ≠ low := by simpa using this
  unfold lowJ
  rw [if_neg h]
  rfl
/-- How many jobs of other tasks stand ahead. -/
def ctL (js : List Fv) (low : Int) (i : Nat) : Nat := ((List.range i).filter fun j => decide ((jb js j).t ≠ low)).length
theorem ct_succ {js : List Fv} {low : Int} (i : Nat) : ctL js low (i + 1) = ctL js low i + (if (jb js i).t ≠ low then 1 else 0) := by
  unfold ctL
  rw [List.range_succ, List.filter_append, List.length_append]
  congr 1
  by_cases h : (jb js i).t ≠ low
  · rw [if_pos h, List.filter_cons_of_pos (by simpa using h)]; rfl
  · rw [if_neg h, List.filter_cons_of_neg (by simpa using h)]; rfl
theorem ct_em {js : List Fv} {low : Int} {i : Nat} (hi : i < js.length) (ht : (jb js i).t ≠ low) : ctL js low i < (lesJ js low).length ∧ em js low (ctL js low i) = i := by
  have e : List.range js.length = List.range i ++ i :: (List.range (js.length - i - 1)).map (fun x => i + 1 + x) := by
    have h1 : js.length = i + (1 + (js.length - i - 1)) := by omega
    conv => lhs; rw [h1, List.range_add, List.range_add]
    simp [List.range_one, Nat.add_assoc]
  have h2 : othL js low = ((List.range i).filter fun j => decide ((jb js j).t ≠ low)) ++ i :: (((List.range (js.length - i - 1)).map (fun x => i + 1 + x)).filter fun j => decide ((jb js j).t ≠ low)) := by
    unfold othL
    rw [e, List.filter_append, List.filter_cons_of_pos (by simpa using ht)]
  have h3 : (othL js low)[ctL js low i]? = some i := by
    rw [h2, ctL, List.getElem?_append_right (Nat.le_refl _)]
    simp
  refine ⟨by rw [les_len]; exact (List.getElem?_eq_some_iff.1 h3).1, ?_⟩
  unfold em
  rw [h3]
  rfl
/-- Two rows while they are made: all jobs, of which the least urgent task's lose their sections, and those of other tasks. -/
structure LoI (w3 w4 wr : World) (Aj : Option Addr) (cj n : Nat) (js : List Fv) (low : Int) (v : Value) (k : Nat) : Prop where
  jo : ∃ gs, FOwn 46 w3.heap.size wr (.slice Aj n cj) gs ∧ gs.map (·.x) = (js.take k).map (lowJ low) ++ js.drop k
  le : ∃ gs, wr.ownsRow w4.heap.size 46 5 v gs.length (gvC gs) ∧ (∀ g ∈ gs, GOk 46 w3.heap.size wr g) ∧ gs.map (·.x) = lesJ (js.take k) low
  bel : Below w3.heap.size w3 wr
theorem FOwn.side {e : TypeId} {B B' n : Nat} {w w' : World} {v u : Value} {gs : List Gv} {xs : List Value} (h : FOwn e B w v gs) (hu : w.ownsRow B' e 5 u n xs) (hB : B ≤ B') (hne : ∀ q, v.ownBlock = some q → q < B') (hgr : w.grownBy w' u.ownBlock) : FOwn e B w' v gs := by
  have hk : Kept u.ownBlock.toList w w' := kept_grown hgr (fun k hk => by simp [hk])
  refine ⟨hk.row h.row (fun g hg hm => ?_), fun g hg => (h.each g hg).kept fun b hb hs => hgr.block b hb (fun hx => ?_)⟩
  · have h1 := (hu.lt g (by simpa using hm)).1
    have := hne g hg
    omega
  · rcases hs with hs | ⟨cs, T, fr, hs, hT⟩
    · have := (hu.lt b hx.symm).1; omega
    · exact own_ne hu hs hT hx.symm
theorem LoI.frow {w3 w4 wr : World} {Aj : Option Addr} {cj n : Nat} {js : List Fv} {low : Int} {v : Value} {k : Nat} (h : LoI w3 w4 wr Aj cj n js low v k) (h34 : w3.heap.size ≤ w4.heap.size) : FRow wr Aj cj ((js.take k).map (lowJ low) ++ js.drop k) ∧ ∃ A c, v = .slice A (lesJ (js.take k) low).length c ∧ FRow wr A c (lesJ (js.take k) low) := by
  obtain ⟨gs, h1, h2⟩ := h.jo
  obtain ⟨gs2, h3, h4, h5⟩ := h.le
  obtain ⟨A, c, hv, F⟩ := h1.frow
  simp only [Value.slice.injEq] at hv
  obtain ⟨rfl, -, rfl⟩ := hv
  rw [h2] at F
  obtain ⟨A2, c2, hv2, F2⟩ := FOwn.frow (⟨own_mono h3 h34, h4⟩ : FOwn 46 w3.heap.size wr v gs2)
  rw [h5] at F2
  exact ⟨F, A2, c2, by rw [hv2, ← h5, List.length_map], F2⟩
/-- A job of the least urgent task. -/
theorem LoI.cut {w3 w4 wr : World} {q cj n : Nat} {js : List Fv} {low : Int} {v : Value} {k : Nat} {x : Fv} (h : LoI w3 w4 wr (some ⟨q, 0, none⟩) cj n js low v k) (hq : w3.heap.size ≤ q) (hq4 : q < w4.heap.size) (hx : js[k]? = some x) (ht : x.t = low) : LoI w3 w4 (wr.setCell ⟨q, k * 5 + 4, none⟩ (.slice none 0 0)) (some ⟨q, 0, none⟩) cj n js low v (k + 1) := by
  obtain ⟨gs, h1, h2⟩ := h.jo
  obtain ⟨gs2, h3, h4, h5⟩ := h.le
  have hkl := (List.getElem?_eq_some_iff.1 hx).1
  have hdr : js.drop k = x :: js.drop (k + 1) := by
    rw [List.drop_eq_getElem_cons hkl]
    congr 1
    have := List.getElem?_eq_getElem hkl
    rw [hx] at this
    simpa using this.symm
  have hlen : ((js.take k).map (lowJ low)).length = k := by rw [List.length_map, List.length_take]; omega
  have hgk : (gs.map (·.x))[k]? = some x := by rw [h2, hdr, List.getElem?_append_right (by omega), hlen]; simp
  obtain ⟨g, hg, hgx⟩ : ∃ g, gs[k]? = some g ∧ g.x = x := by
    rw [List.getElem?_map] at hgk
    cases hgi : gs[k]? with
    | none => rw [hgi] at hgk; cases hgk
    | some g => rw [hgi] at hgk; exact ⟨g, rfl, by simpa using hgk⟩
  have hgo := h1.each g (List.mem_of_getElem? hg)
  have st := h1.setI (g' := ⟨{ g.x with c := [] }, none, 0⟩) hg 4 (by omega) (.slice none 0 0) rfl ⟨⟨hgo.wf.t, hgo.wf.a, hgo.wf.r, hgo.wf.k⟩, CRow.nil none 0 (by omega), fun hne a ha => by cases ha⟩
  refine ⟨⟨_, st, ?_⟩, ⟨gs2, ?_, fun y hy => (h4 y hy).kept fun b hb hs => Below.heap_setCell _ _ _ _ (fun hbq => ?_), ?_⟩, h.bel.setCell (p := ⟨q, k * 5 + 4, none⟩) hq _⟩
  · rw [List.map_set, h2, hdr, take_one hx, List.map_append, List.set_append, if_neg (by omega), hlen, Nat.sub_self, hgx]
    simp [lowJ, ht]
  · exact ((Kept.refl [q] wr).set q _ _ (by simp)).row h3 (fun g hg hm => by
      have := (h3.lt g hg).1
      rw [List.mem_singleton] at hm
      omega)
  · have hbq' : b = q := hbq
    subst hbq'
    rcases hs with hs | ⟨cs, T, fr, hs, hT⟩
    · omega
    · exact own_ne h1.row hs hT rfl
  · rw [take_one hx, les_snoc, if_neg (by simpa using ht), List.append_nil, h5]
/-- One of another task. -/
theorem LoI.oth {w3 w4 wr W2 w8 : World} {q cj n : Nat} {js : List Fv} {low : Int} {v v' : Value} {k : Nat} {x : Fv} {C : Option Addr} {cc : Nat} {gs2 : List Gv} (h : LoI w3 w4 wr (some ⟨q, 0, none⟩) cj n js low v k) (h34 : w3.heap.size ≤ w4.heap.size) (hq4 : q < w4.heap.size) (hr : w4.heap.size ≤ wr.heap.size) (hx : js[k]? = some x) (ht : x.t ≠ low) (hg : GOk 46 w3.heap.size wr ⟨x, C, cc⟩)
    (h3 : wr.ownsRow w4.heap.size 46 5 v gs2.length (gvC gs2)) (h4 : ∀ g ∈ gs2, GOk 46 w3.heap.size wr g) (h5 : gs2.map (·.x) = lesJ (js.take k) low)
    (ba : Below wr.heap.size wr W2) (hown : w8.ownsRow w4.heap.size 46 5 v' (gs2.length + 1) (gvC gs2 ++ fvL x C cc)) (hgr : W2.grownBy w8 v.ownBlock) : LoI w3 w4 w8 (some ⟨q, 0, none⟩) cj n js low v' (k + 1) := by
  obtain ⟨gs, h1, h2⟩ := h.jo
  have hkl := (List.getElem?_eq_some_iff.1 hx).1
  have hdr : js.drop k = x :: js.drop (k + 1) := by
    rw [List.drop_eq_getElem_cons hkl]
    congr 1
    have := List.getElem?_eq_getElem hkl
    rw [hx] at this
    simpa using this.symm
  have h3' := (Kept.of [] ba).row h3 (by simp)
  have kp : ∀ g, GOk 46 w3.heap.size wr g → GOk 46 w3.heap.size w8 g := fun g hg =>
    (hg.kept fun b hb _ => ba.block b hb).kept fun b hb hs => hgr.block b hb (fun hx => by
      rcases hs with hs | ⟨cs, T, fr, hs, hT⟩
      · have := (h3'.lt b hx.symm).1; omega
      · exact own_ne h3' hs hT hx.symm)
  refine ⟨⟨gs, (h1.later ba).side h3' h34 (fun p hp => by simp [Value.ownBlock] at hp; omega) hgr, ?_⟩, ⟨gs2 ++ [⟨x, C, cc⟩], by rw [List.length_append, gvC_snoc]; exact hown, fun y hy => ?_, ?_⟩, (h.bel.trans (ba.mono h.bel.size)).grown hgr (by have := h.bel.size; have := ba.size; omega) (fun p hp => by have := (h3'.lt p hp).1; omega)⟩
  · rw [h2, hdr, take_one hx, List.map_append, List.append_assoc]
    simp [lowJ, ht]
  · rcases List.mem_append.1 hy with hy | hy
    · exact kp y (h4 y hy)
    · rw [List.mem_singleton.1 hy]; exact kp _ hg
  · rw [List.map_append, h5, take_one hx, les_snoc, if_pos ht]
    rfl
/-- What the law asks. -/
structure LoF (js : List Fv) (low : Int) (es es2 : List Int) : Prop where
  l1 : es.length = js.length
  l2 : es2.length = (lesJ js low).length
  eq : ∀ i, i < js.length → (jb js i).t ≠ low → ctL js low i < (lesJ js low).length ∧ kO es2 (ctL js low i) = kO es i
theorem lo_fact {ss : List Ts} {js : List Fv} {M n u : Nat} (h : Sm ss js M n) (hu : u < ss.length) (hp : ∀ v : Nat, v < ss.length → (tk ss (v : Int)).p ≤ (tk ss (u : Int)).p) (T : Nat) : LoF (js.map (lowJ (u : Int))) (u : Int) (tst ss (js.map (lowJ (u : Int))) T).en (tst ss (lesJ js (u : Int)) T).en := by
  have hleg := low_leg (low := (u : Int)) h.lg
  obtain ⟨a1, a2, a3⟩ := legS_parts hleg
  have L := ljs_of (vs_of a1) _ a3
  have hl := lg_of L
  have hL : Lowest ss (js.map (lowJ (u : Int))) (u : Int) := by
    refine ⟨fun i j hi hj hti htj => ?_, fun i hi ht => ?_⟩
    · have l := jb_lj L hi
      obtain ⟨v, hv⟩ : ∃ v : Nat, (jb (js.map (lowJ (u : Int))) i).t = (v : Int) := ⟨(jb (js.map (lowJ (u : Int))) i).t.toNat, by have := l.t0; omega⟩
      have hvl : v < ss.length := by have := l.t1; omega
      unfold prO
      rw [htj, hv]
      have h1 := hp v hvl
      have e1 : ss[v]? = some ss[v] := List.getElem?_eq_getElem hvl
      have e2 : ss[u]? = some ss[u] := List.getElem?_eq_getElem hu
      rw [tk_get e1, tk_get e2] at h1 ⊢
      rcases Int.lt_or_le ss[v].p ss[u].p with h2 | h2
      · exact h2
      · exfalso
        have := h.di v u _ _ e1 e2 (by omega)
        subst this
        exact hti hv
    · rw [List.length_map] at hi
      rw [jb_map hi] at ht ⊢
      rw [(lowJ_t _ _).1] at ht
      unfold lowJ
      rw [if_pos ht]
  have hA := low_all (ts := ss) hL hl T
  have hI := ti_all (ts := ss) hl T
  have hI2 := ti_all (ts := ss) (les_lg (low := (u : Int)) hl) T
  rw [les_low] at hA hI2
  refine ⟨hI.le, by rw [les_low]; exact hI2.le, fun i hi ht => ?_⟩
  obtain ⟨c1, c2⟩ := ct_em hi ht
  refine ⟨c1, ?_⟩
  have := hA.en (ctL (js.map (lowJ (u : Int))) (u : Int) i) c1
  rw [this, c2]
set_option maxRecDepth 100000 in
set_option maxHeartbeats 16000000 in
theorem llo_walk (A0 : Option Addr) (cap0 : Nat) (l0 : List Sp) (A1 : Option Addr) (cap1 : Nat) (l1 : List Fv) (a2 : Int) (w : World) (h0 : SRow w A0 cap0 l0) (h1 : FRow w A1 cap1 l1) (i2 : in64 a2) :
    Calls Tryz.prog 11 #[.slice A0 l0.length cap0, .slice A1 l1.length cap1, .int .i64 a2] w fun e w' => e = .returned (.bool true) ∧ Below w.heap.size w w' := by
  have AW := Lib.hid (fun W => awake_any W)
  have hle1 := h1.le
  have hmx1 := h1.mx
  have KF0 := fun (W : World) (hb : Below w.heap.size w W) => fewT_row A1 cap1 l1 W (h1.later hb)
  have KS := Lib.hid (fun (W : World) (hb : Below w.heap.size w W) => set_any 5 (by omega) (by omega) A0 cap0 l0 a2 W (h0.later hb) i2)
  have FB0 := fewT_bd l1
  obtain ⟨fs, hfs⟩ : ∃ fs, fewTS l1 = fs := ⟨_, rfl⟩
  rw [hfs] at KF0 FB0
  have KF := Lib.hid KF0
  have FB := Lib.hid FB0
  have I2 := Lib.hid i2
  clear h0 h1 i2 hfs KF0 FB0
  go_enter Tryz.func11, Tryz.ntmps11
  go_upto_region 2 with (go_at_call 12; (with_reducible refine (AW.out _).mono ?_); rintro e w1 ⟨rfl, hb1⟩; have B1 := Lib.hid hb1; clear hb1)
  go_upto_region 3 with (go_at_call 13; (with_reducible refine (KS.out _ B1.out).mono ?_); rintro e w2 ⟨As, cs, ss, rfl, hRs, hs1, hs5, hsd, hsf, hsp, h2⟩; have RS2 := Lib.hid hRs; have HS1 := Lib.hid hs1; have HS5 := Lib.hid hs5; have HSD := Lib.hid hsd; have HSF := Lib.hid hsf; have HSP := Lib.hid hsp; have B12 := Lib.hid h2; have B2 := Lib.hid (B1.out.trans (h2.mono B1.out.size)); clear hRs hs1 hs5 hsd hsf hsp h2)
  have OK := Lib.hid (set_ok HS1.out (by have := HS5.out; omega) HSD.out HSF.out HSP.out)
  have SM0 := sm_of (M := 5) (n := 10) HS1.out (by have := HS5.out; omega) (by omega) HSD.out HSF.out HSP.out FB.out.1 (by omega) FB.out.2
  obtain ⟨tb, tq, hAs, htb, TP⟩ := RS2.out.pin (by have := HS1.out; omega)
  subst hAs
  have HTP := Lib.hid TP
  have tle := RS2.out.le
  have tmx := RS2.out.mx
  clear TP
  go_wp2
  go_loopw [9, 10] (fun lo i wr => ∃ k u : Nat, k ≤ ss.length ∧ u < ss.length ∧ i = .int .i64 (k : Int) ∧ lo = .int .i64 (u : Int) ∧ Hid (∀ v : Nat, v < k → (tk ss (v : Int)).p ≤ (tk ss (u : Int)).p) ∧ Hid (Below w2.heap.size w2 wr)) (fun _ i _ => ss.length - (intOf i).toNat)
  case atStart => exact ⟨0, 0, Nat.zero_le _, by have := HS1.out; omega, rfl, rfl, Lib.hid (fun v hv => absurd hv (by omega)), Lib.hid (Below.refl _ _)⟩
  case round =>
    obtain ⟨k, u, hk, hu, rfl, rfl, hP, hB⟩ := hrel
    by_cases hlt : k < ss.length
    · obtain ⟨-, -, z6⟩ := (HTP.out.later hB.out) k hlt
      obtain ⟨-, -, y6⟩ := (HTP.out.later hB.out) u hu
      have hj0 : (0 : Int) ≤ (k : Int) := by omega
      have hj1 : (k : Int) < (ss.length : Int) := by omega
      have hu0 : (0 : Int) ≤ (u : Int) := by omega
      have hu1 : (u : Int) < (ss.length : Int) := by omega
      obtain ⟨pk, hpk⟩ : ∃ p, (tk ss (k : Int)).p = p := ⟨_, rfl⟩
      obtain ⟨pu, hpu⟩ : ∃ p, (tk ss (u : Int)).p = p := ⟨_, rfl⟩
      rw [hpk] at z6
      rw [hpu] at y6
      have HPK := Lib.hid hpk
      have HPU := Lib.hid hpu
      clear hpk hpu
      by_cases hg : pk > pu
      · have g1 : decide (pk > pu) = true := decide_eq_true hg
        have g1' : decide (pu < pk) = true := decide_eq_true hg
        go_upto_region 7 with (fail)
        go_quiet (fail)
        go_wp2
        go_roundw
        case rel => exact ⟨k + 1, k, by omega, hlt, by go_num, rfl, Lib.hid (fun v hv => by
          rcases Nat.lt_or_ge v k with h | h
          · have := hP.out v h
            rw [HPK.out]; rw [HPU.out] at this; omega
          · obtain rfl : v = k := by omega
            exact Int.le_refl _), Lib.hid (hB.out.trans ((below_drewN2 _ _).mono hB.out.size))⟩
        case measure => simp [intOf]; omega
      · have g1 : decide (pk > pu) = false := decide_eq_false hg
        have g1' : decide (pu < pk) = false := decide_eq_false hg
        go_upto_region 7 with (fail)
        go_quiet (fail)
        go_wp2
        go_roundw
        case rel => exact ⟨k + 1, u, by omega, hu, by go_num, rfl, Lib.hid (fun v hv => by
          rcases Nat.lt_or_ge v k with h | h
          · exact hP.out v h
          · obtain rfl : v = k := by omega
            rw [HPK.out, HPU.out]; omega), Lib.hid (hB.out.trans ((below_drewN2 _ _).mono hB.out.size))⟩
        case measure => simp [intOf]; omega
    · obtain rfl : k = ss.length := by omega
      have HP := Lib.hid hP.out
      have B2 := Lib.hid (B2.out.trans (hB.out.mono B2.out.size))
      have RS2 := Lib.hid (RS2.out.later hB.out)
      clear hP hB HTP
      obtain ⟨js, hjs⟩ : ∃ js, decS ss fs = js := ⟨_, rfl⟩
      rw [hjs] at SM0
      have SM := Lib.hid SM0
      have HJS := Lib.hid hjs
      clear SM0 hjs
      go_upto_region 10 with (first
        | (go_at_call 15; (with_reducible refine (KF.out _ B2.out).mono ?_); rintro e w3 ⟨Ar, cr, rfl, hFR, h3⟩; have KD0 := dec_row _ _ _ _ ss fs _ (RS2.out.later h3) hFR OK.out; rw [HJS.out] at KD0; have KD := Lib.hid KD0; have H3 := Lib.hid h3; have RS3 := Lib.hid (RS2.out.later h3); have B3 := Lib.hid (B2.out.trans (h3.mono B2.out.size)); clear hFR h3 KD0)
        | (go_at_call 14; (with_reducible refine KD.out.mono ?_); rintro e w4 ⟨Aj, cj, gj, rfl, hFJ, hOJ, hXJ, h4⟩; have H24 := Lib.hid (H3.out.trans (h4.mono H3.out.size)); have H34 := Lib.hid h4; have FJ := Lib.hid hFJ; have OJ := Lib.hid hOJ; have XJ := Lib.hid hXJ; have B4 := Lib.hid (B2.out.trans (H24.out.mono B2.out.size)); have RS := Lib.hid (RS2.out.later H24.out); clear hFJ hOJ hXJ h4 KD))
      clear RS2 KF KS AW FB HJS H3
      obtain ⟨n, hn⟩ : ∃ n, js.length = n := ⟨_, rfl⟩
      have HN := Lib.hid hn
      have hn10 := SM.out.le
      have hfr := lo_fact SM.out hu (fun v hv => HP.out v hv) 9223372036854775807
      obtain ⟨jl, hjl⟩ : ∃ jl, js.map (lowJ (u : Int)) = jl := ⟨_, rfl⟩
      obtain ⟨ls, hls⟩ : ∃ ls, lesJ js (u : Int) = ls := ⟨_, rfl⟩
      obtain ⟨p, hp⟩ : ∃ p, ls.length = p := ⟨_, rfl⟩
      have hjll : jl.length = n := by rw [← hjl, List.length_map]; exact hn
      have hpn : p ≤ 10 := by
        rw [← hp, ← hls]
        have := List.length_filter_le (fun j : Fv => decide (j.t ≠ (u : Int))) js
        unfold lesJ
        omega
      have hjr := hfr
      rw [hjl] at hjr
      obtain ⟨es, hes⟩ : ∃ es, (tst ss jl 9223372036854775807).en = es := ⟨_, rfl⟩
      obtain ⟨es2, hes2⟩ : ∃ es, (tst ss ls 9223372036854775807).en = es := ⟨_, rfl⟩
      rw [hls, hes, hes2] at hjr
      have hlsl : (lesJ jl (u : Int)).length = p := by rw [← hjl, les_low, hls, hp]
      have hel : es.length = n := by rw [hjr.l1, hjll]
      have hel2 : es2.length = p := by rw [hjr.l2, hlsl]
      have KR := Lib.hid (fun W (hT : Row W (some ⟨tb, tq, none⟩) cs ss) (hF : FRow W Aj cj jl) => runk_leg (k := n) (n := n) W hT hF hjll SM.out.di (by have := SM.out.sM; omega) (by omega) (by
        have := SM.out.tot (by omega)
        have e : (js.map (lowJ (u : Int))).map (·.k) = js.map (·.k) := by
          rw [List.map_map]
          exact List.map_congr_left fun j _ => (lowJ_t (u : Int) j).2.2.2
        rw [← hjl, e]
        omega) (by rw [← hjl]; exact low_leg SM.out.lg) rfl hes rfl hel)
      have KQ := Lib.hid (fun (A : Option Addr) (c : Nat) W (hT : Row W (some ⟨tb, tq, none⟩) cs ss) (hF : FRow W A c ls) => runk_leg (k := p) (n := p) W hT hF hp SM.out.di (by have := SM.out.sM; omega) (by omega) (by
        have := sum_bd (·.k) 4 ls (fun j hj => by rw [← hls] at hj; exact (SM.out.ar (by omega) j (List.mem_filter.1 hj).1).2.2.2.2.2)
        omega) (by rw [← hls]; exact les_leg SM.out.lg) rfl hes2 rfl hel2)
      have HFR := Lib.hid hjr
      have HJL := Lib.hid hjl
      have HLS := Lib.hid hls
      have HP2 := Lib.hid hp
      have HJLL := Lib.hid hjll
      have HLSL := Lib.hid hlsl
      have HEL := Lib.hid hel
      have HEL2 := Lib.hid hel2
      have HU := Lib.hid hu
      rw [hn] at hn10
      rw [hn]
      have h34 := H34.out.size
      have LI0 : Hid (LoI w3 w4 w4 Aj cj n js (u : Int) (.slice none 0 0) 0) := Lib.hid ⟨⟨gj, by rw [← HN.out]; exact OJ.out, by simp [XJ.out]⟩, ⟨[], World.ownsRow_nil _ _ _ _, by simp, rfl⟩, H34.out⟩
      have HO4 : Hid (FOwn 46 w3.heap.size w4 (.slice Aj n cj) gj) := Lib.hid (by rw [← HN.out]; exact OJ.out)
      have HGJ : Hid (gj.length = n) := Lib.hid (by rw [← HN.out, ← XJ.out, List.length_map])
      have H34s := Lib.hid h34
      obtain ⟨low, hlow⟩ : ∃ low : Int, (u : Int) = low := ⟨_, rfl⟩
      rw [hlow] at HJL HLS HFR HLSL LI0 ⊢
      clear hfr hjr hjl hls hp hjll hlsl hel hel2 hes hes2 hn hu h34 hlow
      obtain ⟨i0, hi, hz0, hz1, hz2⟩ := info_parts infoJs
      go_wp2
      go_loopw [12, 13] (fun v i wr => ∃ k : Nat, k ≤ n ∧ i = .int .i64 (k : Int) ∧ Hid (w4.heap.size ≤ wr.heap.size) ∧ Hid (LoI w3 w4 wr Aj cj n js low v k)) (fun _ i _ => n - (intOf i).toNat)
      case atStart => exact ⟨0, Nat.zero_le _, rfl, Lib.hid (Nat.le_refl _), LI0⟩
      case round =>
        obtain ⟨k, hk, rfl, hsz, hI⟩ := hrel
        by_cases hlt : k < n
        · obtain ⟨q, cq, hqv, hq3, hq4, -, hqm, -⟩ := own_form HO4.out.row (by rw [HGJ.out]; omega)
          simp only [Value.slice.injEq] at hqv
          obtain ⟨rfl, -, rfl⟩ := hqv
          obtain ⟨gs, h1, h2⟩ := hI.out.jo
          obtain ⟨x, hx⟩ : ∃ x, js[k]? = some x := ⟨js[k]'(by rw [HN.out]; exact hlt), List.getElem?_eq_getElem _⟩
          have hkl := (List.getElem?_eq_some_iff.1 hx).1
          have hgk : (gs.map (·.x))[k]? = some x := by
            have hlen : ((js.take k).map (lowJ low)).length = k := by rw [List.length_map, List.length_take]; omega
            rw [h2, List.getElem?_append_right (by omega), hlen, Nat.sub_self, List.getElem?_drop, Nat.add_zero, hx]
          obtain ⟨g, hg, hgx⟩ : ∃ g, gs[k]? = some g ∧ g.x = x := by
            rw [List.getElem?_map] at hgk
            cases hgi : gs[k]? with
            | none => rw [hgi] at hgk; cases hgk
            | some g => rw [hgi] at hgk; exact ⟨g, rfl, by simpa using hgk⟩
          subst hgx
          have hcell := h1.at_ hg
          have z0 := hcell 0 _ rfl
          have z1 := hcell 1 _ rfl
          have z2 := hcell 2 _ rfl
          have z3 := hcell 3 _ rfl
          have z4 := hcell 4 _ rfl
          rw [Nat.add_zero] at z0
          obtain ⟨q', cq', hqv', -, -, -, -, hfz⟩ := own_form h1.row (by have := (List.getElem?_eq_some_iff.1 hg).1; omega)
          simp only [Value.slice.injEq, Option.some.injEq, Addr.mk.injEq, and_true] at hqv'
          obtain ⟨rfl, -, rfl⟩ := hqv'
          have hgo := h1.each g (List.mem_of_getElem? hg)
          have HX := Lib.hid hx
          have HGO := Lib.hid hgo
          have hj0 : (0 : Int) ≤ (k : Int) := by omega
          have hj1 : (k : Int) < (n : Int) := by omega
          have HQ3 := Lib.hid hq3
          have HQ4 := Lib.hid hq4
          unfold maxLen at hqm
          clear hcell h1 h2 hg hgk hgo hx hkl hq3 hq4
          by_cases ht : g.x.t = low
          · have hbt : (g.x.t == low) = true := by simp [ht]
            have HT := Lib.hid ht
            have LN := Lib.hid (hI.out.cut HQ3.out HQ4.out HX.out HT.out)
            have y4 := hfz (k * 5 + 4)
            clear ht hI hfz
            go_wp2
            go_roundw
            case rel => exact ⟨k + 1, by omega, by go_num, Lib.hid (by have := hsz.out; simpa using this), LN⟩
            case measure => simp [intOf]; omega
          · have hbt : (g.x.t == low) = false := by simp [ht]
            have HT := Lib.hid ht
            obtain ⟨gs2, h3, h4, h5⟩ := hI.out.le
            have hgl : gs2.length ≤ n := by
              have e1 := congrArg List.length h5
              rw [List.length_map] at e1
              have e2 := List.length_filter_le (fun j : Fv => decide (j.t ≠ low)) (js.take k)
              have e3 : (lesJ (js.take k) low).length ≤ (js.take k).length := e2
              rw [List.length_take] at e3
              omega
            have HFA := Lib.hid (fun j u hu => by
              have := (FAt.new wr g.x g.A g.cap 46 HGO.out.wf HGO.out.s).r j u hu
              rw [Nat.zero_add] at this
              rw [add_none, Nat.zero_add]
              exact this : ∀ j u, (fvL g.x g.A g.cap)[j]? = some u → (wr.alloc (.cells #[.int .i64 g.x.t, .int .i64 g.x.a, .int .i64 g.x.r, .int .i64 g.x.k, .slice g.A g.x.c.length g.cap] 46)).cell? ((⟨wr.heap.size, 0, none⟩ : Addr).add j) = some u)
            have H3 := Lib.hid h3
            have H4 := Lib.hid h4
            have H5 := Lib.hid h5
            have HGL := Lib.hid hgl
            have HI := Lib.hid hI.out
            clear ht hI hfz h3 h4 h5 hgl
            go_wp2_with (refine wpList_append_own _ rfl _ _ 27 rfl w4.heap.size 46 i0 _ 5 56 Tryz.underlying27 hi hz0 hz1 hz2 rfl (by decide) _ gs2.length (gvC gs2) rfl (H3.out.alloc _) ⟨wr.heap.size, 0, none⟩ 1 1 (fvL g.x g.A g.cap) rfl rfl HFA.out (fvL_one _ _ _) (by have := HGL.out; unfold maxLen; omega) (by have := HGL.out; omega) (by have := hsz.out; simp; omega) ?_; intro v' w8 hown' hgrow hnil')
            go_roundw
            case rel =>
              have ba : Below wr.heap.size wr (wr.alloc (.cells #[.int .i64 g.x.t, .int .i64 g.x.a, .int .i64 g.x.r, .int .i64 g.x.k, .slice g.A g.x.c.length g.cap] 46)) := (Below.refl _ _).alloc (Nat.le_refl _) _
              have LN := HI.out.oth H34s.out HQ4.out hsz.out HX.out HT.out HGO.out H3.out H4.out H5.out ba hown' hgrow
              exact ⟨k + 1, by omega, by go_num, Lib.hid (by have h1 := hgrow.size; have h2 := ba.size; have h3 := hsz.out; omega), Lib.hid LN⟩
            case measure => simp [intOf]; omega
        · obtain rfl : k = n := by omega
          obtain ⟨hFJ, A2, c2, hv, hFL⟩ := hI.out.frow H34s.out
          have et : js.take k = js := List.take_of_length_le (by rw [HN.out]; exact Nat.le_refl _)
          have ed : js.drop k = [] := List.drop_of_length_le (by rw [HN.out]; exact Nat.le_refl _)
          rw [et, ed, List.append_nil, HJL.out] at hFJ
          rw [et, HLS.out] at hv hFL
          rw [HP2.out] at hv
          subst hv
          have RSW := Lib.hid (RS3.out.later hI.out.bel)
          have BW := Lib.hid (B3.out.trans (hI.out.bel.mono B3.out.size))
          have FJW := Lib.hid hFJ
          have FLW := Lib.hid hFL
          have KR2 := Lib.hid (KR.out _ RSW.out hFJ)
          clear hFJ hFL hI et ed KR
          go_upto_region 18 with (go_at_call 16; (with_reducible refine KR2.out.mono ?_); rintro e w5 ⟨A5, c5, B5', d5, rfl, hS, hE, hb1⟩; have HE := Lib.hid hE; have HB5 := Lib.hid hb1; clear hS hE hb1)
          have KQ2 := Lib.hid (KQ.out A2 c2 _ (RSW.out.later HB5.out) (FLW.out.later HB5.out))
          clear KQ
          go_upto_region 19 with (go_at_call 16; (with_reducible refine KQ2.out.mono ?_); rintro e w6 ⟨A6, c6, B6', d6, rfl, hS, hE, hb1⟩; have HE2 := Lib.hid hE; have HB6 := Lib.hid hb1; clear hS hE hb1)
          have HE := Lib.hid (HE.out.later HB6.out)
          have FJ6 := Lib.hid (FJW.out.later (bel_step HB5.out HB6.out))
          have BB := Lib.hid (BW.out.trans ((bel_step HB5.out HB6.out).mono BW.out.size))
          have e1 := HE.out.le
          have e2 := HE.out.mx
          have e3 := HE2.out.le
          have e4 := HE2.out.mx
          have e5 := FJ6.out.le
          have e6 := FJ6.out.mx
          rw [HEL.out] at e1
          rw [HEL2.out] at e3
          rw [HJLL.out] at e5
          have hnn : ((k : Int) != (k : Int)) = false := by simp
          have hpp : ((p : Int) != (p : Int)) = false := by simp
          clear KR2 KQ2
          go_upto_region 20 with (fail)
          go_wp2
          go_loopw [18, 19] (fun c i wr2 => ∃ q : Nat, q ≤ k ∧ i = .int .i64 (q : Int) ∧ c = .int .i64 (ctL jl low q : Int) ∧ Hid (Below w6.heap.size w6 wr2)) (fun _ i _ => k - (intOf i).toNat)
          case atStart => exact ⟨0, Nat.zero_le _, rfl, rfl, Lib.hid (Below.refl _ _)⟩
          case round =>
            obtain ⟨q, hq, rfl, rfl, hB⟩ := hrel
            by_cases hlq : q < k
            · have hqj : q < jl.length := by rw [HJLL.out]; exact hlq
              obtain ⟨jb', jq, rfl, hjb, JP⟩ := FJ6.out.pin (by omega)
              obtain ⟨z0, -⟩ := (JP.later hB.out) q hqj
              have hct := Lib.hid (ct_succ (js := jl) (low := low) q)
              have HFQ := Lib.hid (HFR.out.eq q hqj)
              have hj0 : (0 : Int) ≤ (q : Int) := by omega
              have hj1 : (q : Int) < (k : Int) := by omega
              obtain ⟨tt, htt⟩ : ∃ tt, (jb jl q).t = tt := ⟨_, rfl⟩
              rw [htt] at z0 hct HFQ
              clear JP htt
              by_cases ht : tt = low
              · have hbt : (tt != low) = false := by simp [ht]
                have HC := Lib.hid (show ctL jl low (q + 1) = ctL jl low q by rw [hct.out, if_neg (by simpa using ht), Nat.add_zero])
                clear ht hct HFQ
                go_wp2
                go_roundw
                case rel => exact ⟨q + 1, by omega, by go_num, by rw [HC.out], hB⟩
                case measure => simp [intOf]; omega
              · have hbt : (tt != low) = true := by simp [ht]
                have HC := Lib.hid (show ctL jl low (q + 1) = ctL jl low q + 1 by rw [hct.out, if_pos ht])
                obtain ⟨c1, c2'⟩ := HFQ.out ht
                rw [HLSL.out] at c1
                obtain ⟨sb, sq, rfl, hsb, SP⟩ := HE.out.pin (by rw [HEL.out]; omega)
                obtain ⟨tb', tq', rfl, htb', TP⟩ := HE2.out.pin (by rw [HEL2.out]; omega)
                have y0 := (SP.later hB.out) q (by rw [HEL.out]; exact hlq)
                have y1 := (TP.later hB.out) (ctL jl low q) (by rw [HEL2.out]; exact c1)
                rw [c2'] at y1
                generalize ctL jl low q = ct at *
                generalize kO es q = eq' at *
                have hc0 : (0 : Int) ≤ (ct : Int) := by omega
                have hc1 : (ct : Int) < (p : Int) := by omega
                have hee : (eq' != eq') = false := by simp
                clear ht hct HFQ SP TP c2'
                go_upto_region 26 with (fail)
                go_quiet (fail)
                go_wp2
                go_roundw
                case rel => exact ⟨q + 1, by omega, by go_num, by rw [HC.out]; go_num, Lib.hid (hB.out.trans ((below_drewN2 _ _).mono hB.out.size))⟩
                case measure => simp [intOf]; omega
            · obtain rfl : q = k := by omega
              go_wp2
              go_ret
              exact ⟨rfl, BB.out.trans (hB.out.mono BB.out.size)⟩
end Go.Proofs.YtkpackbbahodcaaGreat
