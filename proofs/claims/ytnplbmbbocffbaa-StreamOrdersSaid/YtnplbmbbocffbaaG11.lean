/- Texts about the program, one after the other: StW, PcO, PcN, Of, Of2, Few. -/
import Derived.Test.YtnplbmbbocffbaaG10
import Derived.Sort.CutIn
import Derived.Test.YtnplbmbbocffbaaG8
import Derived.Test.YtnplbmbbocffbaaG7
import Derived.RangeFuncKeeps
import Derived.Test.YtnplbmbbocffbaaG9
/- StreamStops: the walk. -/
namespace Go.Proofs.Ytnplbmbbocffbaa
open Go.RowKit Go.Shelf
set_option linter.unusedVariables false
set_option linter.unusedSimpArgs false
attribute [local go_sem] Oper.semAt_some
/-- While things are gathered. -/
structure St1 (w u : World) (c4 c8 : Nat) (pre : List (Int × Int)) (V : World) : Prop where
  b4 : Boxed V c4 4 (.bool false)
  ex : ∃ v, Boxed V c8 56 v ∧ V.ownsRow c8 54 2 v pre.length (cLM pre)
  low : Below c8 u V
  bel : Below w.heap.size w V
theorem kept_cells {W W' : World} {row : Option Nat} {base e size k : Nat} {v : Value} {xs : List Value} (h : W.ownsRow base e size v k xs) (hg : W.grownBy W' row) (hr : ∀ r, row = some r → ∃ o : Obj, W.heap[r]? = some o ∧ o.isCells = false) : W'.ownsRow base e size v k xs :=
  (kept_grown (X := row.toList) hg (fun q e => by rw [Option.mem_toList]; exact e)).row h (fun g hgo hm => by
    rw [Option.mem_toList] at hm
    obtain ⟨o, ho, hc⟩ := hr g hm
    rcases h.2 with ⟨h1, _⟩ | ⟨g', cp, cur, h1, _, hh, _⟩
    · rw [h1] at hgo; simp [Value.ownBlock] at hgo
    · rw [h1] at hgo
      simp only [Value.ownBlock, Option.some.injEq] at hgo
      subst hgo
      rw [hh] at ho
      cases ho
      simp [Obj.isCells] at hc)
theorem St1.own {w u : World} {c4 c8 : Nat} {pre : List (Int × Int)} {W W' : World} {row : Option Nat} {B : Nat} (h : St1 w u c4 c8 pre W) (hB : w.heap.size ≤ B) (h8 : c8 < B) (hg : W.grownBy W' row) (hr : ∀ r, row = some r → B ≤ r ∧ ∃ o : Obj, W.heap[r]? = some o ∧ o.isCells = false) : St1 w u c4 c8 pre W' := by
  obtain ⟨v, h1, h2⟩ := h.ex
  exact ⟨boxed_kept h.b4 hg (fun r e => (hr r e).2), ⟨v, boxed_kept h1 hg (fun r e => (hr r e).2), kept_cells h2 hg (fun r e => (hr r e).2)⟩, h.low.grown hg (Nat.le_of_lt h1.lt) (fun q e => by have := (hr q e).1; omega), h.bel.grown hg h.bel.size (fun q e => by have := (hr q e).1; omega)⟩
theorem St1.keptT {w u : World} {c4 c8 : Nat} {pre : List (Int × Int)} {W W' : World} {B : Nat} (h : St1 w u c4 c8 pre W) (hk : KeptT 56 B W W') (hB : w.heap.size ≤ B) (h8 : c8 < B) : St1 w u c4 c8 pre W' := by
  obtain ⟨v, h1, h2⟩ := h.ex
  exact ⟨hk.box h.b4 (by decide), ⟨v, hk.old h1 h8, hk.row h2 (by decide)⟩, h.low.trans ((hk.mono (Nat.le_of_lt h8)).bel (Nat.le_of_lt h1.lt)), h.bel.trans ((hk.mono hB).bel h.bel.size)⟩
theorem MgM.low {N b1 b2 : Nat} {w w' : World} {rs : List (List (Int × Int))} (h : MgM N w b1 b2 rs) (hb : Below N w w') : MgM N w' b1 b2 rs := by
  obtain ⟨w1, v, vs, h1, h2, h3⟩ := h.ex
  exact ⟨⟨w1, v, vs, h1, h2.trans hb, h3⟩, h.ne, h.few⟩
/-- While things are looked at again. -/
structure St2 (w : World) (c4 c8 c10 c11 D : Nat) (A : Option Addr) (cap n : Nat) (L : List (Int × Int)) (kq k : Nat) (V : World) : Prop where
  b4 : Boxed V c4 4 (.bool false)
  b8 : Boxed V c8 56 (.slice A n cap)
  b10 : Boxed V c10 3 (.int .i64 (kq : Int))
  b11 : Boxed V c11 3 (.int .i64 (k : Int))
  row : V.ownsRow c8 54 2 (.slice A n cap) n (cLM L)
  d : V.heap[D]? = some (.deferred (some []))
  bel : Below w.heap.size w V
section
variable {w : World} {c4 c8 c10 c11 D : Nat} {A : Option Addr} {cap n : Nat} {L : List (Int × Int)} {kq k : Nat} {W W' : World} {row : Option Nat} {B : Nat}
theorem St2.own (h : St2 w c4 c8 c10 c11 D A cap n L kq k W) (hB : w.heap.size ≤ B) (hD : D < B) (hg : W.grownBy W' row) (hr : ∀ r, row = some r → B ≤ r ∧ ∃ o : Obj, W.heap[r]? = some o ∧ o.isCells = false) : St2 w c4 c8 c10 c11 D A cap n L kq k W' :=
  ⟨boxed_kept h.b4 hg (fun r e => (hr r e).2), boxed_kept h.b8 hg (fun r e => (hr r e).2), boxed_kept h.b10 hg (fun r e => (hr r e).2), boxed_kept h.b11 hg (fun r e => (hr r e).2), kept_cells h.row hg (fun r e => (hr r e).2),
    (hg.block D (Array.getElem?_eq_some_iff.1 h.d).1 (fun e => by have := (hr D e.symm).1; omega)).trans h.d, h.bel.grown hg h.bel.size (fun q e => by have := (hr q e).1; omega)⟩
theorem St2.keptT (h : St2 w c4 c8 c10 c11 D A cap n L kq k W) (hk : KeptT 56 B W W') (hB : w.heap.size ≤ B) (h8 : c8 < B) : St2 w c4 c8 c10 c11 D A cap n L kq k W' :=
  ⟨hk.box h.b4 (by decide), hk.old h.b8 h8, hk.box h.b10 (by decide), hk.box h.b11 (by decide), hk.row h.row (by decide), (hk.block D (Array.getElem?_eq_some_iff.1 h.d).1 (fun cs fr hc => by rw [h.d] at hc; cases hc)).trans h.d, h.bel.trans ((hk.mono hB).bel h.bel.size)⟩
theorem St2.count (h : St2 w c4 c8 c10 c11 D A cap n L kq k W) (h4 : c4 ≠ c11) (h8 : c8 ≠ c11) (h10 : c10 ≠ c11) (hD : D ≠ c11) (h11 : w.heap.size ≤ c11) : St2 w c4 c8 c10 c11 D A cap n L kq (k + 1) (W.setCell ⟨c11, 0, none⟩ (.int .i64 ((k : Int) + 1))) :=
  ⟨box_set h.b4 h4 _ _, box_set h.b8 h8 _ _, box_set h.b10 h10 _ _, Boxed.set _ h.b11, ((Kept.refl [c11] W).set c11 0 _ (by simp)).row h.row (fun g hg hm => by
    simp only [List.mem_singleton] at hm
    subst hm
    exact own_ne h.row h.b11 (by decide) hg), (Below.heap_setCell _ _ _ _ hD).trans h.d, h.bel.setCell (p := ⟨c11, 0, none⟩) h11 _⟩
end
set_option maxRecDepth 100000 in
set_option maxHeartbeats 8000000 in
theorem st_walk (A0 : Option Addr) (cap0 : Nat) (l0 : List (List Int)) (a1 : Int) (w : World) (h : RowRd w A0 cap0 l0) (ha : in64 a1) : Calls Try.prog 8 #[.slice A0 l0.length cap0, .int .i64 a1] w fun e w' => e = .returned (.bool true) ∧ Below w.heap.size w w' := by
  have hfn := run_eql_nilM
  obtain ⟨n0, hn0⟩ : ∃ n, l0.length = n := ⟨_, rfl⟩
  have HI := Lib.hid (items_w l0 A0 cap0 n0 w hn0 h)
  have HA := Lib.hid awake_any
  have HKR := Lib.hid (fun W => lrest_any a1 20 W ha (by omega) (by omega))
  have hq0 : 0 ≤ a1 % 20 := Int.emod_nonneg _ (by omega)
  have hq1 : a1 % 20 < 20 := Int.emod_lt_of_pos _ (by omega)
  have HLEN := Lib.hid (mrg_len keyM _ (itS false l0) (Nat.le_refl _))
  have HTT : Hid (tot (itS false l0) ≤ 800) := Lib.hid (by
    have h1 := tot_le (itS false l0) (fun l hl => by have := itR_in false l0 l hl; omega)
    rw [itS_len] at h1
    omega)
  have HMF := Lib.hid (mrg_fil keyM (itS false l0))
  have HL8 : Hid ((itS false l0).length ≤ 8 ∧ ∀ l ∈ itS false l0, l.length ≤ 8) := Lib.hid ⟨by rw [itS_len]; omega, itR_in false l0⟩
  rw [hn0]
  obtain ⟨kq, hkq⟩ : ∃ kq : Nat, a1 % 20 = (kq : Int) := ⟨(a1 % 20).toNat, by omega⟩
  rw [hkq] at HKR
  have hk20 : kq < 20 := by omega
  clear h hn0 hkq hq0 hq1 ha
  have hb0 : Below w.heap.size w (w.alloc (.cells #[.bool false] 4)) := (Below.refl _ _).alloc (Nat.le_refl _) _
  have HX0 := Lib.hid (Boxed.new w 4 (.bool false))
  generalize hW0 : w.alloc (.cells #[.bool false] 4) = W0 at *
  have HB0 := Lib.hid hb0
  clear hb0
  refine (callsIn_wide (n := 9)).1 ?_
  refine callsIn_of_wp_marks Try.func8 rfl trivial ?_ rfl
  simp only [Try.ntmps8, List.size_toArray, List.length_cons, List.length_nil, Nat.reduceAdd, Nat.reduceSub, Array.replicate_succ, Array.replicate_zero, List.push_toArray, List.append_toArray, List.nil_append, List.cons_append]
  gi_upto_region 3 with (first
    | (refine ⟨trivial, ?_⟩; gi_at_call 9; (with_reducible refine (callsIn_wide.2 (HA.out _)).mono ?_); rintro e w1 ⟨rfl, hB1⟩; have HB1 := Lib.hid (HB0.out.trans (hB1.mono HB0.out.size)); have HX1 : Hid (Boxed w1 w.heap.size 4 (.bool false)) := (Lib.hid ((hB1.block _ HX0.out.lt).trans HX0.out)); clear hB1)
    | (refine ⟨trivial, ?_⟩; gi_at_call 19; (with_reducible refine (callsIn_wide.2 (HI.out false _ HB1.out)).mono ?_); rintro e w2 ⟨v, vs, rfl, hO, hB2⟩; have HB2 := Lib.hid (HB1.out.trans (hB2.mono HB1.out.size)); have HX2 : Hid (Boxed w2 w.heap.size 4 (.bool false)) := (Lib.hid ((hB2.block _ HX1.out.lt).trans HX1.out)); have HO := Lib.hid hO; obtain ⟨Ai, ci, rfl, hRI⟩ := hO.rin; have HRI := Lib.hid hRI; clear hB2 hO hRI))
  obtain ⟨rs, hrs⟩ : ∃ rs, itS false l0 = rs := ⟨_, rfl⟩
  rw [hrs] at HLEN HTT HMF HRI HL8 ⊢
  have MM := Lib.hid (mergeM w2 HRI.out (by have := HL8.out.1; omega) (fun l hl => by have := HL8.out.2 l hl; omega))
  obtain ⟨nr, hnr⟩ : ∃ nr, rs.length = nr := ⟨_, rfl⟩
  rw [hnr] at MM ⊢
  clear hrs hnr HO
  gi_upto_region 7 with (refine ⟨trivial, ?_⟩; gi_at_call 20; go_loud (refine (callsIn_wide.2 MM.out).mono ?_; rintro e w3 ⟨b1, b2, rfl, hM, hB3⟩; have HM := Lib.hid hM; have HB3 := Lib.hid hB3; clear hM hB3))
  gi_wp2
  clear hfn
  obtain ⟨L, hL⟩ : ∃ L, mrg keyM rs = L := ⟨_, rfl⟩
  rw [hL] at HMF HLEN
  obtain ⟨W3, hW3, hc8, hb3⟩ : ∃ W3, w3.alloc (.cells #[.slice none 0 0] 56) = W3 ∧ Boxed W3 w3.heap.size 56 (.slice none 0 0) ∧ Below w3.heap.size w3 W3 := ⟨_, rfl, Boxed.new _ _ _, (Below.refl _ _).alloc (Nat.le_refl _) _⟩
  rw [hW3]
  have hb23 : Below w2.heap.size w2 W3 := HB3.out.trans (hb3.mono HB3.out.size)
  have hBW : Below w.heap.size w W3 := HB2.out.trans (hb23.mono HB2.out.size)
  have I0 : St1 w w3 w.heap.size w3.heap.size [] W3 := ⟨(hb23.block _ HX2.out.lt).trans HX2.out, ⟨_, hc8, World.ownsRow_nil _ _ _ _⟩, hb3, hBW⟩
  have hs8 := hc8.lt
  have hw2r : w.heap.size < w3.heap.size := Nat.lt_of_lt_of_le HX2.out.lt HB3.out.size
  have hM3 := HM.out.later hb3
  have SQ := seqnM (9 - 1) (by omega) hM3
  rw [HMF.out] at SQ
  clear hW3 hc8 hb3 hb23 hM3 HB2 HB3 HB1 HX2 HX1 MM HX0 hW0 HB0 HRI HI HA HL8 hL
  generalize w3.heap.size = c8 at *
  have hW3 := hBW.size
  have HLB : Hid (L.length ≤ 800) := Lib.hid (by rw [HLEN.out]; exact HTT.out)
  clear HLEN HTT
  refine wpIn_named fun frm hfr => ?_
  refine rangeN (vals := fun x : Int × Int => #[.agg #[.int .i64 x.1, .int .i64 x.2]]) (gf := 43) (lb := #[.pointer (some ⟨b1, 0, none⟩), .pointer (some ⟨b2, 0, none⟩)]) (by rw [hfr]; rfl) (enters_of Try.func43 (by kernel_rfl) rfl) SQ (Below.refl _ _) (fun x => rfl)
    (fun pre V => St1 w w3 w.heap.size c8 pre V) (fun _ _ _ => False)
    (fun pre X Y row h hg hr => h.own hW3 hs8 hg hr) (fun _ _ _ _ _ h _ _ => h) (fun pre W4 W5 h hk => h.keptT hk hW3 hs8) I0
    (fun x a' V => ∃ bx, a' = { tmps := ((frm.tmps.setIfInBounds 21 (.agg #[.int .i64 x.1, .int .i64 x.2])).setIfInBounds 9 (.pointer (some ⟨bx, 0, none⟩))), defers := [] } ∧ V.heap[bx]? = some (.cells #[.int .i64 x.1, .int .i64 x.2] 54 (0, 0)))
    (fun p X Y row h hg hr => by
      obtain ⟨bx, h1, h2⟩ := h
      exact ⟨bx, h1, (grownBy_keeps_cells hg (fun r e => (hr r e).2) h2 rfl).trans h2⟩)
    ?assign ?body ?done ?stop
  case assign =>
    intro l2 pre x V K hI hK
    subst hfr
    gi_wp2
    have hba : Below V.heap.size V (V.alloc (.cells #[.int .i64 x.1, .int .i64 x.2] 54)) := (Below.refl _ _).alloc (Nat.le_refl _) _
    exact hK _ _ (keepsFrom_below _ hba) (KeepN.kept (Kept.of [] hba) (by simp)) (hI.keptT (KeptT.below hba) hW3 hs8) ⟨V.heap.size, rfl, heap_alloc_new _ _⟩
  case body =>
    rintro l2 pre x r a' V hI ⟨bx, rfl, hbx⟩ hL
    subst hfr
    obtain ⟨i0, hi, hz0, hz1, hz2⟩ := info_parts infoEM
    obtain ⟨v, h1, h2⟩ := hI.ex
    obtain ⟨Av, cv, rfl, _, _⟩ := own_len h2
    have c8c := h1.cell
    have c8f := h1.frozen
    have x0 : V.cell? ⟨bx, 0, none⟩ = some (.int .i64 x.1) := by rw [cell_of_row V bx 0 _ _ _ hbx]; rfl
    have x1 : V.cell? ⟨bx, 1, none⟩ = some (.int .i64 x.2) := by rw [cell_of_row V bx 1 _ _ _ hbx]; rfl
    have HPL : Hid (pre.length ≤ 800) := Lib.hid (by
      have e := congrArg List.length hL
      rw [List.length_append, List.length_cons] at e
      have := HLB.out
      omega)
    have HI := Lib.hid hI
    have H1 := Lib.hid h1
    have H2 := Lib.hid h2
    have HP := Lib.hid (pair_new V 54 (.int .i64 x.1) (.int .i64 x.2))
    clear hI h1 h2 hbx hL
    gi_wp2_with (gi_at_builtin; go_loud (refine wpListIn_append_own _ rfl _ _ 56 rfl c8 54 i0 _ 2 16 Try.underlying56 hi hz0 hz1 hz2 rfl (by decide) _ pre.length (cLM pre) rfl (H2.out.alloc _) ⟨V.heap.size, 0, none⟩ 1 1 [.int .i64 x.1, .int .i64 x.2] rfl rfl HP.out (pair_one _ _) (by have := HPL.out; unfold maxLen; omega) (by have := HPL.out; omega) (by have := H1.out.lt; simp; omega) ?_; intro v' w8 hown' hgrow hnil'; obtain ⟨A8, cp8, rfl, _, _⟩ := own_len hown'; have hB8 : Boxed w8 c8 56 (.slice Av pre.length cv) := ((hgrow.block c8 (Nat.lt_of_lt_of_le H1.out.lt (by simp)) (fun e => own_ne (H2.out.alloc _) ((Below.heap_alloc V (.cells #[.int .i64 x.1, .int .i64 x.2] 54) c8 H1.out.lt).trans H1.out) (by decide) e.symm)).trans ((Below.heap_alloc V _ c8 H1.out.lt).trans H1.out)); have HB8 := Lib.hid hB8; have c88 := hB8.cell; have f88 := hB8.frozen; have HO8 := Lib.hid hown'; have HG8 := Lib.hid hgrow; clear hown' hgrow hB8))
    have hba : Below V.heap.size V (V.alloc (.cells #[.int .i64 x.1, .int .i64 x.2] 54)) := (Below.refl _ _).alloc (Nat.le_refl _) _
    have hK8 : Kept ((Value.slice Av pre.length cv).ownBlock.toList ++ [c8]) V w8 := (Kept.of _ hba).trans (kept_grown HG8.out (fun q e => List.mem_append_left _ (by rw [Option.mem_toList]; exact e)))
    have hK9 := hK8.set c8 0 (.slice A8 (pre.length + 1) cp8) (by simp)
    have hY : ∀ k ∈ (Value.slice Av pre.length cv).ownBlock.toList ++ [c8], (c8 ≤ k ∧ ∀ cs fr, V.heap[k]? = some (.cells cs 56 fr) → k < W3.heap.size) ∧ ∃ cs T fr, V.heap[k]? = some (.cells cs T fr) := fun k hk => by
      rcases List.mem_append.1 hk with hk | hk
      · rw [Option.mem_toList] at hk
        have hck := (H2.out.lt k hk).1
        rcases H2.out.2 with ⟨h0, _⟩ | ⟨g', cp', cur, e, _, hh, _⟩
        · rw [h0] at hk; simp [Value.ownBlock] at hk
        · rw [e] at hk
          simp only [Value.ownBlock, Option.some.injEq] at hk
          subst hk
          exact ⟨⟨hck, fun cs fr hc => by rw [hh] at hc; simp only [Option.some.injEq, Obj.cells.injEq] at hc; exact absurd hc.2.1 (by decide)⟩, _, _, _, hh⟩
      · simp only [List.mem_singleton] at hk
        subst hk
        exact ⟨⟨Nat.le_refl _, fun _ _ _ => hs8⟩, _, _, _, H1.out⟩
    refine ⟨keepsFrom_kept _ hK9 (fun k hk => (hY k hk).2), KeepN.kept hK9 (fun k hk => ⟨Nat.not_lt.2 ((hY k hk).1).1, ((hY k hk).1).2⟩), ?_, ?_, ?_, ?_⟩
    · exact (hK9.block _ HI.out.b4.lt (fun hm => by have := ((hY _ hm).1).1; omega)).trans HI.out.b4
    · refine ⟨_, Boxed.set _ HB8.out, ?_⟩
      rw [List.length_append, cLM_snoc]
      exact ((Kept.refl [c8] w8).set c8 0 _ (by simp)).row HO8.out (fun g hg hm => by
        simp only [List.mem_singleton] at hm
        subst hm
        exact own_ne HO8.out HB8.out (by decide) hg)
    · exact HI.out.low.trans (hK9.below (Nat.le_of_lt H1.out.lt) (fun k hk => by have := ((hY k hk).1).1; omega))
    · exact HI.out.bel.trans (hK9.below HI.out.bel.size (fun k hk => by have := ((hY k hk).1).1; omega))
  case done =>
    rintro D V hD hI hKD
    subst hfr
    obtain ⟨v, h1, h2⟩ := hI.ex
    obtain ⟨Av, cv, rfl, _, _⟩ := own_len h2
    have HI := Lib.hid hI
    have H1 := Lib.hid h1
    have H2 := Lib.hid h2
    have HKD := Lib.hid hKD
    clear hI h1 h2 hKD
    obtain ⟨nl, hnl⟩ : ∃ nl, L.length = nl := ⟨_, rfl⟩
    rw [hnl] at H1 H2 HLB
    gi_wp2_with (refine ⟨trivial, ?_⟩; gi_at_call 22; go_loud ((with_reducible refine (callsIn_wide.2 (HKR.out _)).mono ?_); rintro e w5 ⟨rfl, rfl⟩))
    have hkd := (Array.getElem?_eq_some_iff.1 HKD.out).1
    obtain ⟨W5, hW5, d10, d11, hb5⟩ : ∃ W5, (V.alloc (.cells #[.int .i64 (kq : Int)] 3)).alloc (.cells #[.int .i64 0] 3) = W5 ∧ Boxed W5 V.heap.size 3 (.int .i64 (kq : Int)) ∧ Boxed W5 (V.heap.size + 1) 3 (.int .i64 0) ∧ Below V.heap.size V W5 := by
      refine ⟨_, rfl, Boxed.alloc (Boxed.new _ _ _) _, ?_, ((Below.refl _ _).alloc (Nat.le_refl _) _).alloc (by simp) _⟩
      have := Boxed.new (V.alloc (.cells #[.int .i64 (kq : Int)] 3)) 3 (.int .i64 0)
      rwa [World.size_alloc] at this
    rw [hW5]
    have J0 : St2 w w.heap.size c8 V.heap.size (V.heap.size + 1) D Av cv nl L kq 0 W5 :=
      ⟨(hb5.block _ HI.out.b4.lt).trans HI.out.b4, (hb5.block _ H1.out.lt).trans H1.out, d10, d11, (Kept.of [] hb5).row H2.out (by simp), (hb5.block D hkd).trans HKD.out, HI.out.bel.trans (hb5.mono HI.out.bel.size)⟩
    have hs11 := d11.lt
    have h8V := H1.out.lt
    have hwV := HI.out.b4.lt
    have HNL := Lib.hid hnl
    have hw38 : w.heap.size < c8 := hw2r
    have hM5 := HM.out.low (HI.out.low.trans (hb5.mono (Nat.le_of_lt h8V)))
    have SQ2 := seqnM (9 - 1) (by omega) hM5
    rw [HMF.out] at SQ2
    clear hW5 d10 d11 hb5 hM5 SQ hkd
    have HIb := Lib.hid HI.out.bel
    generalize V.heap.size = c10 at *
    have hW5 := J0.bel.size
    have hD5 := (Array.getElem?_eq_some_iff.1 J0.d).1
    have hdne : D ≠ c10 + 1 := fun e => by
      have h1 := J0.d
      rw [e] at h1
      have h2 : W5.heap[c10 + 1]? = some (.cells #[.int .i64 0] 3 (0, 0)) := J0.b11
      rw [h1] at h2
      cases h2
    refine wpIn_named fun fr2 hfr2 => ?_
    refine rangeN (vals := fun x : Int × Int => #[.agg #[.int .i64 x.1, .int .i64 x.2]]) (gf := 43) (lb := #[.pointer (some ⟨b1, 0, none⟩), .pointer (some ⟨b2, 0, none⟩)]) (by rw [hfr2]; rfl) (enters_of Try.func43 (by kernel_rfl) rfl) SQ2 (Below.refl _ _) (fun x => rfl)
      (fun pre V => St2 w w.heap.size c8 c10 (c10 + 1) D Av cv nl L kq pre.length V ∧ pre.length ≤ kq) (fun c xs V => c = .exit 2 ∧ St2 w w.heap.size c8 c10 (c10 + 1) D Av cv nl L kq kq V ∧ kq < nl)
      (fun pre X Y row h hg hr => ⟨h.1.own hW5 hD5 hg hr, h.2⟩) (fun c xs X Y row h hg hr => ⟨h.1, h.2.1.own hW5 hD5 hg hr, h.2.2⟩) (fun pre W6 W7 h hk => ⟨h.1.keptT hk hW5 (by omega), h.2⟩) ⟨J0, Nat.zero_le _⟩
      (fun x a' V => ∃ bx, a' = { tmps := ((fr2.tmps.setIfInBounds 29 (.agg #[.int .i64 x.1, .int .i64 x.2])).setIfInBounds 12 (.pointer (some ⟨bx, 0, none⟩))), defers := [] } ∧ V.heap[bx]? = some (.cells #[.int .i64 x.1, .int .i64 x.2] 54 (0, 0)))
      (fun p X Y row h hg hr => by
        obtain ⟨bx, h1, h2⟩ := h
        exact ⟨bx, h1, (grownBy_keeps_cells hg (fun r e => (hr r e).2) h2 rfl).trans h2⟩)
      ?assign2 ?body2 ?done2 ?stop2
    case assign2 =>
      intro l2 pre x V K hI hK
      subst hfr2
      gi_wp2
      have hba : Below V.heap.size V (V.alloc (.cells #[.int .i64 x.1, .int .i64 x.2] 54)) := (Below.refl _ _).alloc (Nat.le_refl _) _
      exact hK _ _ (keepsFrom_below _ hba) (KeepN.kept (Kept.of [] hba) (by simp)) ⟨hI.1.keptT (KeptT.below hba) hW5 (by omega), hI.2⟩ ⟨V.heap.size, rfl, heap_alloc_new _ _⟩
    case body2 =>
      rintro l2 pre x r a' V ⟨hI, hpk⟩ ⟨bx, rfl, hbx⟩ hL
      subst hfr2
      have c10c := hI.b10.cell
      have c11c := hI.b11.cell
      have c11f := hI.b11.frozen
      have c8c := hI.b8.cell
      have x0 : V.cell? ⟨bx, 0, none⟩ = some (.int .i64 x.1) := by rw [cell_of_row V bx 0 _ _ _ hbx]; rfl
      have x1 : V.cell? ⟨bx, 1, none⟩ = some (.int .i64 x.2) := by rw [cell_of_row V bx 1 _ _ _ hbx]; rfl
      have hLx : L[pre.length]? = some x := by rw [hL]; simp
      have hpl : pre.length < nl := by rw [← HNL.out]; exact (List.getElem?_eq_some_iff.1 hLx).1
      obtain ⟨g, cg, hg, hgB, hgl, hgc, _, _⟩ := own_form hI.row (by omega)
      simp only [Value.slice.injEq] at hg
      obtain ⟨rfl, _, rfl⟩ := hg
      have y0 : V.cell? ⟨g, pre.length * 2, none⟩ = some (.int .i64 x.1) := own_cell hI.row (g := g) rfl (cL_getM L _ x hLx 0 _ rfl)
      have y1 : V.cell? ⟨g, pre.length * 2 + 1, none⟩ = some (.int .i64 x.2) := own_cell hI.row (g := g) rfl (cL_getM L _ x hLx 1 _ rfl)
      have HJ := Lib.hid hI
      have HLx := Lib.hid (show (pre ++ [x]).length = pre.length + 1 by simp)
      have ip0 : (0 : Int) ≤ (pre.length : Int) := by omega
      have ip1 : (pre.length : Int) < (nl : Int) := by omega
      have tp : decide ((pre.length : Int) ≥ (nl : Int)) = false := decide_eq_false (by omega)
      have tp2 : decide (nl ≤ pre.length) = false := decide_eq_false (by omega)
      clear hI hL hLx hbx
      generalize pre.length = m at *
      by_cases hmk : m = kq
      · have tk : ((m : Int) == (kq : Int)) = true := by rw [hmk]; simp
        have HMK := Lib.hid hmk
        clear hmk
        gi_wp2
        refine ⟨keepsFrom_below _ (Below.refl _ _), rfl, ?_, ?_⟩
        · have h9 := HJ.out
          rw [HMK.out] at h9
          exact h9
        · have := HMK.out; omega
      · have tk : ((m : Int) == (kq : Int)) = false := by rw [beq_eq_false_iff_ne]; omega
        have HMK := Lib.hid hmk
        clear hmk
        gi_upto_region 15 with (fail)
        refine region_round (by rintro ⟨_, _, h⟩; exact h) (by kernel_rfl) (by kernel_rfl) (by kernel_rfl) ?_
        repeat (first | go_big_quiet_step (fail) | quiet_step (fail))
        refine wpQuiet_nil ?_
        intro _ hw'
        obtain ⟨nq, hw''⟩ := hw'
        subst hw''
        gi_wp2
        have hbd := below_drewN (Below.refl V.heap.size V) nq
        have hI2 := HJ.out.keptT (KeptT.below hbd) hW5 (by omega)
        have hkk : Kept [c10 + 1] V ((V.drewN nq).setCell ⟨c10 + 1, 0, none⟩ (.int .i64 ((m : Int) + 1))) := (Kept.of [c10 + 1] hbd).set (c10 + 1) 0 _ (by simp)
        refine ⟨keepsFrom_kept _ hkk (fun k hk => by simp only [List.mem_singleton] at hk; subst hk; exact ⟨_, _, _, HJ.out.b11⟩), KeepN.kept hkk (fun k hk => by simp only [List.mem_singleton] at hk; subst hk; exact ⟨by omega, fun _ _ _ => by omega⟩), ?_, by rw [HLx.out]; have := HMK.out; omega⟩
        rw [HLx.out]
        exact hI2.count (by omega) (by omega) (by omega) hdne (by omega)
    case done2 =>
      rintro D2 V hD2 ⟨hJ, hnk⟩ hK2
      subst hfr2
      rw [HNL.out] at hJ hnk
      have hmin : min (kq : Int) (nl : Int) = (nl : Int) := by omega
      have c10c := hJ.b10.cell
      have c11c := hJ.b11.cell
      have c8c := hJ.b8.cell
      have c4c := hJ.b4.cell
      have c4f := hJ.b4.frozen
      gi_wp2
      have hb9 := Boxed.set (.bool true) hJ.b4
      have hB9 := hJ.bel.setCell (p := ⟨w.heap.size, 0, none⟩) (Nat.le_refl _) (.bool true)
      have hK9 : (V.setCell ⟨w.heap.size, 0, none⟩ (.bool true)).heap[D]? = some (.deferred (some [])) := by
        rw [Below.heap_setCell _ _ _ _ (by simp; omega)]
        exact hJ.d
      have hK92 : (V.setCell ⟨w.heap.size, 0, none⟩ (.bool true)).heap[D2]? = some (.deferred (some [])) := by
        rw [Below.heap_setCell _ _ _ _ (by simp; omega)]
        exact hK2
      generalize V.setCell ⟨w.heap.size, 0, none⟩ (.bool true) = V9 at *
      have hk3 : (V9.putObj D2 (.deferred none)).heap[D]? = some (.deferred (some [])) := (World.putObj_heap_other (by omega)).trans hK9
      refine ⟨by simp, .inl ⟨_, _, rfl, run_takeDeferred hK92, ⟨by simp, .inl ⟨_, _, rfl, run_takeDeferred hk3, ?_⟩⟩⟩⟩
      have hc : ((V9.putObj D2 (.deferred none)).putObj D (.deferred none)).cell? ⟨w.heap.size, 0, none⟩ = some (.bool true) := by
        rw [← hb9.cell]; simp [World.cell?, World.putObj_heap_other (show w.heap.size ≠ D by omega), World.putObj_heap_other (show w.heap.size ≠ D2 by omega)]
      exact ⟨.bool true, by simp [results, Try.f8, go_sem, hc], rfl, (hB9.trans (belowK_b (w := w) (Nat.le_refl _) V9 D2 _ _ (by omega) hK92 rfl rfl)).trans (belowK_b (w := w) (Nat.le_refl _) _ D _ _ (by omega) hk3 rfl rfl)⟩
    case stop2 =>
      rintro D2 c pre x r V hD2 hL ⟨rfl, hJ, hnk⟩ hK2
      subst hfr2
      have hmin : min (kq : Int) (nl : Int) = (kq : Int) := by omega
      have c10c := hJ.b10.cell
      have c11c := hJ.b11.cell
      have c8c := hJ.b8.cell
      have c4c := hJ.b4.cell
      have c4f := hJ.b4.frozen
      gi_wp2
      have hb9 := Boxed.set (.bool true) hJ.b4
      have hB9 := hJ.bel.setCell (p := ⟨w.heap.size, 0, none⟩) (Nat.le_refl _) (.bool true)
      have hK9 : (V.setCell ⟨w.heap.size, 0, none⟩ (.bool true)).heap[D]? = some (.deferred (some [])) := by
        rw [Below.heap_setCell _ _ _ _ (by simp; omega)]
        exact hJ.d
      have hK92 : (V.setCell ⟨w.heap.size, 0, none⟩ (.bool true)).heap[D2]? = some (.deferred (some [])) := by
        rw [Below.heap_setCell _ _ _ _ (by simp; omega)]
        exact hK2
      generalize V.setCell ⟨w.heap.size, 0, none⟩ (.bool true) = V9 at *
      have hk3 : (V9.putObj D2 (.deferred none)).heap[D]? = some (.deferred (some [])) := (World.putObj_heap_other (by omega)).trans hK9
      refine ⟨by simp, .inl ⟨_, _, rfl, run_takeDeferred hK92, ⟨by simp, .inl ⟨_, _, rfl, run_takeDeferred hk3, ?_⟩⟩⟩⟩
      have hc : ((V9.putObj D2 (.deferred none)).putObj D (.deferred none)).cell? ⟨w.heap.size, 0, none⟩ = some (.bool true) := by
        rw [← hb9.cell]; simp [World.cell?, World.putObj_heap_other (show w.heap.size ≠ D by omega), World.putObj_heap_other (show w.heap.size ≠ D2 by omega)]
      exact ⟨.bool true, by simp [results, Try.f8, go_sem, hc], rfl, (hB9.trans (belowK_b (w := w) (Nat.le_refl _) V9 D2 _ _ (by omega) hK92 rfl rfl)).trans (belowK_b (w := w) (Nat.le_refl _) _ D _ _ (by omega) hk3 rfl rfl)⟩
  case stop =>
    rintro D c pre x r V hD hL h hK
    exact h.elim
end Go.Proofs.Ytnplbmbbocffbaa
/- Places of jobs, told one by one: O. -/
namespace Go.Proofs.Ytnplbmbbocffbaa
open Go.RowKit Go.Shelf
set_option linter.unusedVariables false
set_option linter.unusedSimpArgs false
attribute [local go_sem] Oper.semAt_some
def prO (c : Int) (x : Fv) : Bool := x.t == c
def plO (c : Int) (js : List Fv) (k : Nat) : List Nat := (List.range k).filter (fun i => ((js[i]?).map (prO c)).getD false)
theorem pl_succO (c : Int) (js : List Fv) (k : Nat) (x : Fv) (h : js[k]? = some x) : plO c js (k + 1) = if prO c x = true then plO c js k ++ [k] else plO c js k := by
  rw [plO, List.range_succ, List.filter_append]
  simp only [List.filter_cons, List.filter_nil, h, Option.map_some, Option.getD_some]
  split
  · rfl
  · rw [List.append_nil]; rfl
theorem pl_splitO (c : Int) (js : List Fv) (k n : Nat) (x : Fv) (h : js[k]? = some x) (hx : prO c x = true) (hk : k < n) : ∃ r, plO c js n = plO c js k ++ k :: r := by
  obtain ⟨m, rfl⟩ : ∃ m, n = k + 1 + m := ⟨n - (k + 1), by omega⟩
  clear hk
  induction m with
  | zero => exact ⟨[], by rw [Nat.add_zero, pl_succO c js k x h, if_pos hx]⟩
  | succ m ih =>
    obtain ⟨r, hr⟩ := ih
    refine ⟨r ++ (List.filter (fun i => ((js[i]?).map (prO c)).getD false) [k + 1 + m]), ?_⟩
    rw [← Nat.add_assoc, plO, List.range_succ, List.filter_append, ← plO, hr]
    simp
section
attribute [local go_sem ↓] Go.wp_at_zero Go.wp_at_succ
set_option maxHeartbeats 1000000 in
theorem soO (x : Fv) (C : Option Addr) (cc b : Nat) (c : Int) (W : World) (hb : W.cell? ⟨b, 0, none⟩ = some (.int .i64 c)) :
    Calls Try.prog 37 #[fvV x C cc, .pointer (some ⟨b, 0, none⟩)] W fun e w' => e = .returned (.bool (prO c x)) ∧ Below W.heap.size W w' := by
  obtain ⟨xt, xa, xr, xk, xc⟩ := x
  have hl := World.block_lt_of_cell? W _ hb
  obtain ⟨W1, hW1, z0, z1, z2, z3, z4, hB, hc⟩ : ∃ W1, W.alloc (.cells #[.int .i64 xt, .int .i64 xa, .int .i64 xr, .int .i64 xk, .slice C xc.length cc] 37) = W1 ∧ W1.cell? ⟨W.heap.size, 0, none⟩ = some (.int .i64 xt) ∧ W1.cell? ⟨W.heap.size, 1, none⟩ = some (.int .i64 xa) ∧ W1.cell? ⟨W.heap.size, 2, none⟩ = some (.int .i64 xr) ∧ W1.cell? ⟨W.heap.size, 3, none⟩ = some (.int .i64 xk) ∧ W1.cell? ⟨W.heap.size, 4, none⟩ = some (.slice C xc.length cc) ∧ Below W.heap.size W W1 ∧ W1.cell? ⟨b, 0, none⟩ = some (.int .i64 c) := by
    have h : ∀ i, (W.alloc (.cells #[.int .i64 xt, .int .i64 xa, .int .i64 xr, .int .i64 xk, .slice C xc.length cc] 37)).cell? ⟨W.heap.size, i, none⟩ = (#[.int .i64 xt, .int .i64 xa, .int .i64 xr, .int .i64 xk, .slice C xc.length cc] : Array Value)[i]? := fun i => cell_of_row _ _ i _ _ _ (heap_alloc_new W _)
    exact ⟨_, rfl, h 0, h 1, h 2, h 3, h 4, (Below.refl _ _).alloc (Nat.le_refl _) _, by rw [World.cell?_alloc_lt _ _ _ hl]; exact hb⟩
  have HB := Lib.hid hB
  have hz := HB.out.size
  have HW := Lib.hid hW1
  obtain ⟨bx, hbx⟩ : ∃ bx, bx = W.heap.size := ⟨_, rfl⟩
  have HBX := Lib.hid hbx
  rw [← hbx] at z0 z1 z2 z3 z4
  unfold prO
  clear hb hl hB hW1 hbx hz
  go_enter Try.func37, Try.ntmps37
  go_upto_region 1 with (fail)
  rw [HW.out, ← HBX.out]
  go_wp2
  go_ret
  exact ⟨rfl, HB.out⟩
set_option maxHeartbeats 1000000 in
theorem places_any (A : Option Addr) (n cap : Nat) (so : Fn) (b a : Array Value) (w : World) :
    Calls Try.prog 36 #[.slice A n cap, .func so b a] w fun e w' => e = .returned (.func (.func 59) #[] #[.pointer (some ⟨w.heap.size, 0, none⟩), .pointer (some ⟨w.heap.size + 1, 0, none⟩)]) ∧ w' = (w.alloc (.cells #[.slice A n cap] 29)).alloc (.cells #[.func so b a] 84) := by
  go_enter Try.func36, Try.ntmps36
  go_wp2
  go_ret
  exact ⟨by simp, rfl⟩
end
/-- What the iterator holds. -/
structure PcO (N : Nat → Prop) (w : World) (b1 b2 b3 : Nat) (c : Int) (js : List Fv) : Prop where
  ex : ∃ w1 A cap, (N b2 ∧ N b3 ∧ (js ≠ [] → ∀ b o, A = some ⟨b, o, none⟩ → N b)) ∧ Below w1.heap.size w1 w ∧ Boxed w1 b1 29 (.slice A js.length cap) ∧ FRow w1 A cap js ∧ Boxed w1 b2 84 (.func (.func 37) #[] #[.pointer (some ⟨b3, 0, none⟩)]) ∧ Boxed w1 b3 3 (.int .i64 c)
/-- Jobs, by their cells. -/
def RJ (N : Nat → Prop) (w : World) (A : Option Addr) (js : List Fv) : Prop := ∀ i x, js[i]? = some x → ∃ b o C cc, A = some ⟨b, o, none⟩ ∧ N b ∧ w.rangeAt b (o + i * 5) (fvL x C cc)
theorem RJ.keepN {N : Nat → Prop} {B : Nat} {T : TypeId} {w w' : World} {A : Option Addr} {js : List Fv} (h : RJ N w A js) (hk : KeepN N T B w w') : RJ N w' A js := fun i x hx => by
  obtain ⟨b, o, C, cc, e, hb, hF⟩ := h i x hx
  exact ⟨b, o, C, cc, e, hb, fun j v hv => hk.cell (hF j v hv) hb⟩
theorem RJ.later {N : Nat → Prop} {w w' : World} {A : Option Addr} {js : List Fv} (h : RJ N w A js) (hk : Below w.heap.size w w') : RJ N w' A js := h.keepN (T := 0) (B := 0) ⟨hk.size, fun k cs T' fr _ hi => (hk.block k (Array.getElem?_eq_some_iff.1 hi).1).trans hi⟩
set_option maxRecDepth 100000 in
set_option maxHeartbeats 8000000 in
theorem pcseqO {T : TypeId} (n : Nat) (hn1 : 1 ≤ n) {N : Nat → Prop} {b1 b2 b3 : Nat} {c : Int} {js : List Fv} {w0 : World} (hM : PcO N w0 b1 b2 b3 c js) (hlen : js.length ≤ 1000) :
    SeqN T (fun k : Nat => #[.int .i64 (k : Int)]) n 59 #[.pointer (some ⟨b1, 0, none⟩), .pointer (some ⟨b2, 0, none⟩)] N (plO c js js.length) w0 := by
  intro l J Jx W hW hJB hY hJ
  obtain ⟨w1, A, cap, ⟨hb2, hb3, hNA⟩, hB1, x1, hR, x2, x3⟩ := hM.ex
  have hB2 : Below w1.heap.size w1 W := hB1.trans (hW.mono hB1.size)
  have y1 : Boxed W b1 29 (.slice A js.length cap) := (hB2.block b1 x1.lt).trans x1
  have y2 : Boxed W b2 84 (.func (.func 37) #[] #[.pointer (some ⟨b3, 0, none⟩)]) := (hB2.block b2 x2.lt).trans x2
  have y3 : Boxed W b3 3 (.int .i64 c) := (hB2.block b3 x3.lt).trans x3
  have hRJ : RJ N W A js := fun i x hx => by
    obtain ⟨b, o, C, cc, e, hF⟩ := hR.at_ i x hx
    exact ⟨b, o, C, cc, e, hNA (fun h => by rw [h] at hx; simp at hx) b o e, (hF.later hB2).r⟩
  have c1 := y1.cell
  obtain ⟨m, hm⟩ : ∃ m, js.length = m := ⟨_, rfl⟩
  have HM := Lib.hid hm
  have HY := Lib.hid hY
  have HJ := Lib.hid hJ
  have HB := Lib.hid hJB
  have HRJ := Lib.hid hRJ
  have HY2 := Lib.hid y2
  have HY3 := Lib.hid y3
  have HB2 := Lib.hid hb2
  have HB3 := Lib.hid hb3
  rw [hm] at c1
  have HML := Lib.hid (show m ≤ 1000 by omega)
  clear hW hJB hY hJ hM hNA hB1 hB2 x1 hR x2 x3 y1 y2 y3 hb2 hb3 hRJ hm hlen
  refine callsIn_of_wp Try.func59 rfl trivial ?_ rfl
  simp only [Try.ntmps59, List.size_toArray, List.length_cons, List.length_nil, Nat.reduceAdd, Nat.reduceSub, Array.replicate_succ, Array.replicate_zero, List.push_toArray, List.append_toArray, List.nil_append, List.cons_append]
  gi_wp2
  gi_loopw [8] (fun i wr => ∃ k : Nat, k ≤ m ∧ i = .int .i64 (k : Int) ∧ Hid (J (plO c js k) wr) ∧ Hid (RJ N wr A js) ∧ Hid (Boxed wr b2 84 (.func (.func 37) #[] #[.pointer (some ⟨b3, 0, none⟩)])) ∧ Hid (Boxed wr b3 3 (.int .i64 c))) (fun i _ => m - (intOf i).toNat)
  case atStart => exact ⟨0, Nat.zero_le _, rfl, HJ, HRJ, HY2, HY3⟩
  case round =>
    obtain ⟨k, hk, rfl, hJ1, hR1, hY2, hY3⟩ := hrel
    have hml := HML.out
    clear HJ HRJ HY2 HY3 c1
    by_cases hlt : k < m
    · obtain ⟨x, hx⟩ : ∃ x, js[k]? = some x := ⟨js[k]'(by rw [HM.out]; exact hlt), List.getElem?_eq_getElem _⟩
      obtain ⟨b, o, C, cc, rfl, hbN, hF⟩ := hR1.out k x hx
      have c0 : wr.cell? ⟨b, o + k * 5, none⟩ = some (.int .i64 x.t) := hF 0 _ rfl
      have c1 : wr.cell? ⟨b, o + k * 5 + 1, none⟩ = some (.int .i64 x.a) := hF 1 _ rfl
      have c2 : wr.cell? ⟨b, o + k * 5 + 2, none⟩ = some (.int .i64 x.r) := hF 2 _ rfl
      have c3 : wr.cell? ⟨b, o + k * 5 + 3, none⟩ = some (.int .i64 x.k) := hF 3 _ rfl
      have c4 : wr.cell? ⟨b, o + k * 5 + 4, none⟩ = some (.slice C x.c.length cc) := hF 4 _ rfl
      have hi0 : (0 : Int) ≤ (k : Int) := by omega
      have hi1 : (k : Int) < (m : Int) := by omega
      have HXK := Lib.hid hx
      clear hx hF
      gi_upto_region 3 with (fail)
      have hbb : Below wr.heap.size wr (wr.alloc (.cells #[.int .i64 x.t, .int .i64 x.a, .int .i64 x.r, .int .i64 x.k, .slice C x.c.length cc] 37)) := (Below.refl _ _).alloc (Nat.le_refl _) _
      have hz : ∀ i, (wr.alloc (.cells #[.int .i64 x.t, .int .i64 x.a, .int .i64 x.r, .int .i64 x.k, .slice C x.c.length cc] 37)).cell? ⟨wr.heap.size, i, none⟩ = (#[.int .i64 x.t, .int .i64 x.a, .int .i64 x.r, .int .i64 x.k, .slice C x.c.length cc] : Array Value)[i]? := fun i => cell_of_row _ _ i _ _ _ (heap_alloc_new wr _)
      have z0 := hz 0
      have z1 := hz 1
      have z2 := hz 2
      have z3 := hz 3
      have z4 := hz 4
      have HBB := Lib.hid hbb
      clear hz hbb c0 c1 c2 c3 c4
      generalize (wr.alloc (.cells #[.int .i64 x.t, .int .i64 x.a, .int .i64 x.r, .int .i64 x.k, .slice C x.c.length cc] 37)) = W2 at *
      simp only [List.getElem?_toArray, List.getElem?_cons_zero, List.getElem?_cons_succ] at z0 z1 z2 z3 z4
      have HY22 : Hid (Boxed W2 b2 84 (.func (.func 37) #[] #[.pointer (some ⟨b3, 0, none⟩)])) := Lib.hid ((HBB.out.block b2 hY2.out.lt).trans hY2.out)
      have HY33 : Hid (Boxed W2 b3 3 (.int .i64 c)) := Lib.hid ((HBB.out.block b3 hY3.out.lt).trans hY3.out)
      have f2 := HY22.out.cell
      have SO := soO x C cc b3 c W2 HY33.out.cell
      have HST := Lib.hid (pl_succO c js k x HXK.out)
      obtain ⟨t, ht⟩ : ∃ t, prO c x = t := ⟨_, rfl⟩
      rw [ht] at SO
      have HT := Lib.hid ht
      have HSO := Lib.hid SO
      clear SO ht
      rcases (Bool.eq_false_or_eq_true t).symm with rfl | rfl
      · gi_wp2_with (refine ⟨trivial, ?_⟩; gi_at_call 37; (with_reducible refine (callsIn_wide.2 HSO.out).mono ?_); rintro e w3 ⟨rfl, hB3⟩; have HB3' := Lib.hid (HBB.out.trans (hB3.mono HBB.out.size)); clear hB3)
        refine ⟨(fun f hf => by cases hf), ?_⟩
        gi_wp2
        go_roundw
        case rel =>
          refine ⟨k + 1, by omega, by go_num, ?_, ?_, ?_, ?_⟩
          · rw [HST.out, if_neg (by rw [HT.out]; simp)]
            exact Lib.hid (HB.out _ _ _ hJ1.out (KeptT.below HB3'.out))
          · exact Lib.hid (hR1.out.later HB3'.out)
          · exact Lib.hid ((HB3'.out.block b2 hY2.out.lt).trans hY2.out)
          · exact Lib.hid ((HB3'.out.block b3 hY3.out.lt).trans hY3.out)
        case measure => first | (simp [intOf]; done) | (simp [intOf]; omega)
      · gi_wp2_with (refine ⟨trivial, ?_⟩; gi_at_call 37; go_loud ((with_reducible refine (callsIn_wide.2 HSO.out).mono ?_); rintro e w3 ⟨rfl, hB3⟩; have HB3' := Lib.hid (HBB.out.trans (hB3.mono HBB.out.size)); have HJ3 := Lib.hid (HB.out _ _ _ hJ1.out (KeptT.below HB3'.out)); have HSP := Lib.hid (pl_splitO c js k js.length x HXK.out HT.out (by rw [HM.out]; exact hlt)).choose_spec; obtain ⟨fn, tmps, assign, body, hy, hRd⟩ := HY.out _ k _ w3 HJ3.out HSP.out; try dsimp only at hy))
        refine hRd.mono ?_
        rintro e W5 (⟨rfl, hJ5, hk5⟩ | ⟨rfl, hJx5⟩)
        · have HR5 := Lib.hid ((hR1.out.later HB3'.out).keepN hk5)
          have HY52 : Hid (Boxed W5 b2 84 (.func (.func 37) #[] #[.pointer (some ⟨b3, 0, none⟩)])) := Lib.hid (hk5.box ((HB3'.out.block b2 hY2.out.lt).trans hY2.out) HB2.out)
          have HY53 : Hid (Boxed W5 b3 3 (.int .i64 c)) := Lib.hid (hk5.box ((HB3'.out.block b3 hY3.out.lt).trans hY3.out) HB3.out)
          have HJ5 := Lib.hid hJ5
          clear hJ5 hk5 hy hRd
          gi_wp2
          go_roundw
          case rel =>
            refine ⟨k + 1, by omega, by go_num, ?_, HR5, HY52, HY53⟩
            rw [HST.out, if_pos HT.out]
            exact HJ5
          case measure => first | (simp [intOf]; done) | (simp [intOf]; omega)
        · clear hy hRd
          gi_wp2
          refine bodyPost_ret (results_none rfl _ _ _) rfl ?_
          exact ⟨⟨_, rfl⟩, .inr ⟨_, k, _, HSP.out, hJx5⟩⟩
    · obtain rfl : k = m := by omega
      gi_wp2
      go_end0
      refine ⟨⟨_, rfl⟩, .inl ?_⟩
      rw [HM.out]
      exact hJ1.out
end Go.Proofs.Ytnplbmbbocffbaa
/- Places of jobs, told one by one: N. -/
namespace Go.Proofs.Ytnplbmbbocffbaa
open Go.RowKit Go.Shelf
set_option linter.unusedVariables false
set_option linter.unusedSimpArgs false
attribute [local go_sem] Oper.semAt_some
def prN (c : Int) (x : Fv) : Bool := decide (x.r > c)
def plN (c : Int) (js : List Fv) (k : Nat) : List Nat := (List.range k).filter (fun i => ((js[i]?).map (prN c)).getD false)
theorem pl_succN (c : Int) (js : List Fv) (k : Nat) (x : Fv) (h : js[k]? = some x) : plN c js (k + 1) = if prN c x = true then plN c js k ++ [k] else plN c js k := by
  rw [plN, List.range_succ, List.filter_append]
  simp only [List.filter_cons, List.filter_nil, h, Option.map_some, Option.getD_some]
  split
  · rfl
  · rw [List.append_nil]; rfl
theorem pl_splitN (c : Int) (js : List Fv) (k n : Nat) (x : Fv) (h : js[k]? = some x) (hx : prN c x = true) (hk : k < n) : ∃ r, plN c js n = plN c js k ++ k :: r := by
  obtain ⟨m, rfl⟩ : ∃ m, n = k + 1 + m := ⟨n - (k + 1), by omega⟩
  clear hk
  induction m with
  | zero => exact ⟨[], by rw [Nat.add_zero, pl_succN c js k x h, if_pos hx]⟩
  | succ m ih =>
    obtain ⟨r, hr⟩ := ih
    refine ⟨r ++ (List.filter (fun i => ((js[i]?).map (prN c)).getD false) [k + 1 + m]), ?_⟩
    rw [← Nat.add_assoc, plN, List.range_succ, List.filter_append, ← plN, hr]
    simp
section
attribute [local go_sem ↓] Go.wp_at_zero Go.wp_at_succ
set_option maxHeartbeats 1000000 in
theorem soN (x : Fv) (C : Option Addr) (cc b : Nat) (c : Int) (W : World) (hb : W.cell? ⟨b, 0, none⟩ = some (.int .i64 c)) :
    Calls Try.prog 40 #[fvV x C cc, .pointer (some ⟨b, 0, none⟩)] W fun e w' => e = .returned (.bool (prN c x)) ∧ Below W.heap.size W w' := by
  obtain ⟨xt, xa, xr, xk, xc⟩ := x
  have hl := World.block_lt_of_cell? W _ hb
  obtain ⟨W1, hW1, z0, z1, z2, z3, z4, hB, hc⟩ : ∃ W1, W.alloc (.cells #[.int .i64 xt, .int .i64 xa, .int .i64 xr, .int .i64 xk, .slice C xc.length cc] 37) = W1 ∧ W1.cell? ⟨W.heap.size, 0, none⟩ = some (.int .i64 xt) ∧ W1.cell? ⟨W.heap.size, 1, none⟩ = some (.int .i64 xa) ∧ W1.cell? ⟨W.heap.size, 2, none⟩ = some (.int .i64 xr) ∧ W1.cell? ⟨W.heap.size, 3, none⟩ = some (.int .i64 xk) ∧ W1.cell? ⟨W.heap.size, 4, none⟩ = some (.slice C xc.length cc) ∧ Below W.heap.size W W1 ∧ W1.cell? ⟨b, 0, none⟩ = some (.int .i64 c) := by
    have h : ∀ i, (W.alloc (.cells #[.int .i64 xt, .int .i64 xa, .int .i64 xr, .int .i64 xk, .slice C xc.length cc] 37)).cell? ⟨W.heap.size, i, none⟩ = (#[.int .i64 xt, .int .i64 xa, .int .i64 xr, .int .i64 xk, .slice C xc.length cc] : Array Value)[i]? := fun i => cell_of_row _ _ i _ _ _ (heap_alloc_new W _)
    exact ⟨_, rfl, h 0, h 1, h 2, h 3, h 4, (Below.refl _ _).alloc (Nat.le_refl _) _, by rw [World.cell?_alloc_lt _ _ _ hl]; exact hb⟩
  have HB := Lib.hid hB
  have hz := HB.out.size
  have HW := Lib.hid hW1
  obtain ⟨bx, hbx⟩ : ∃ bx, bx = W.heap.size := ⟨_, rfl⟩
  have HBX := Lib.hid hbx
  rw [← hbx] at z0 z1 z2 z3 z4
  unfold prN
  clear hb hl hB hW1 hbx hz
  go_enter Try.func40, Try.ntmps40
  go_upto_region 1 with (fail)
  rw [HW.out, ← HBX.out]
  go_wp2
  go_ret
  exact ⟨rfl, HB.out⟩
end
/-- What the iterator holds. -/
structure PcN (N : Nat → Prop) (w : World) (b1 b2 b3 : Nat) (c : Int) (js : List Fv) : Prop where
  ex : ∃ w1 A cap, (N b2 ∧ N b3 ∧ (js ≠ [] → ∀ b o, A = some ⟨b, o, none⟩ → N b)) ∧ Below w1.heap.size w1 w ∧ Boxed w1 b1 29 (.slice A js.length cap) ∧ FRow w1 A cap js ∧ Boxed w1 b2 84 (.func (.func 40) #[] #[.pointer (some ⟨b3, 0, none⟩)]) ∧ Boxed w1 b3 2 (.int .i64 c)
set_option maxRecDepth 100000 in
set_option maxHeartbeats 8000000 in
theorem pcseqN {T : TypeId} (n : Nat) (hn1 : 1 ≤ n) {N : Nat → Prop} {b1 b2 b3 : Nat} {c : Int} {js : List Fv} {w0 : World} (hM : PcN N w0 b1 b2 b3 c js) (hlen : js.length ≤ 1000) :
    SeqN T (fun k : Nat => #[.int .i64 (k : Int)]) n 59 #[.pointer (some ⟨b1, 0, none⟩), .pointer (some ⟨b2, 0, none⟩)] N (plN c js js.length) w0 := by
  intro l J Jx W hW hJB hY hJ
  obtain ⟨w1, A, cap, ⟨hb2, hb3, hNA⟩, hB1, x1, hR, x2, x3⟩ := hM.ex
  have hB2 : Below w1.heap.size w1 W := hB1.trans (hW.mono hB1.size)
  have y1 : Boxed W b1 29 (.slice A js.length cap) := (hB2.block b1 x1.lt).trans x1
  have y2 : Boxed W b2 84 (.func (.func 40) #[] #[.pointer (some ⟨b3, 0, none⟩)]) := (hB2.block b2 x2.lt).trans x2
  have y3 : Boxed W b3 2 (.int .i64 c) := (hB2.block b3 x3.lt).trans x3
  have hRJ : RJ N W A js := fun i x hx => by
    obtain ⟨b, o, C, cc, e, hF⟩ := hR.at_ i x hx
    exact ⟨b, o, C, cc, e, hNA (fun h => by rw [h] at hx; simp at hx) b o e, (hF.later hB2).r⟩
  have c1 := y1.cell
  obtain ⟨m, hm⟩ : ∃ m, js.length = m := ⟨_, rfl⟩
  have HM := Lib.hid hm
  have HY := Lib.hid hY
  have HJ := Lib.hid hJ
  have HB := Lib.hid hJB
  have HRJ := Lib.hid hRJ
  have HY2 := Lib.hid y2
  have HY3 := Lib.hid y3
  have HB2 := Lib.hid hb2
  have HB3 := Lib.hid hb3
  rw [hm] at c1
  have HML := Lib.hid (show m ≤ 1000 by omega)
  clear hW hJB hY hJ hM hNA hB1 hB2 x1 hR x2 x3 y1 y2 y3 hb2 hb3 hRJ hm hlen
  refine callsIn_of_wp Try.func59 rfl trivial ?_ rfl
  simp only [Try.ntmps59, List.size_toArray, List.length_cons, List.length_nil, Nat.reduceAdd, Nat.reduceSub, Array.replicate_succ, Array.replicate_zero, List.push_toArray, List.append_toArray, List.nil_append, List.cons_append]
  gi_wp2
  gi_loopw [8] (fun i wr => ∃ k : Nat, k ≤ m ∧ i = .int .i64 (k : Int) ∧ Hid (J (plN c js k) wr) ∧ Hid (RJ N wr A js) ∧ Hid (Boxed wr b2 84 (.func (.func 40) #[] #[.pointer (some ⟨b3, 0, none⟩)])) ∧ Hid (Boxed wr b3 2 (.int .i64 c))) (fun i _ => m - (intOf i).toNat)
  case atStart => exact ⟨0, Nat.zero_le _, rfl, HJ, HRJ, HY2, HY3⟩
  case round =>
    obtain ⟨k, hk, rfl, hJ1, hR1, hY2, hY3⟩ := hrel
    have hml := HML.out
    clear HJ HRJ HY2 HY3 c1
    by_cases hlt : k < m
    · obtain ⟨x, hx⟩ : ∃ x, js[k]? = some x := ⟨js[k]'(by rw [HM.out]; exact hlt), List.getElem?_eq_getElem _⟩
      obtain ⟨b, o, C, cc, rfl, hbN, hF⟩ := hR1.out k x hx
      have c0 : wr.cell? ⟨b, o + k * 5, none⟩ = some (.int .i64 x.t) := hF 0 _ rfl
      have c1 : wr.cell? ⟨b, o + k * 5 + 1, none⟩ = some (.int .i64 x.a) := hF 1 _ rfl
      have c2 : wr.cell? ⟨b, o + k * 5 + 2, none⟩ = some (.int .i64 x.r) := hF 2 _ rfl
      have c3 : wr.cell? ⟨b, o + k * 5 + 3, none⟩ = some (.int .i64 x.k) := hF 3 _ rfl
      have c4 : wr.cell? ⟨b, o + k * 5 + 4, none⟩ = some (.slice C x.c.length cc) := hF 4 _ rfl
      have hi0 : (0 : Int) ≤ (k : Int) := by omega
      have hi1 : (k : Int) < (m : Int) := by omega
      have HXK := Lib.hid hx
      clear hx hF
      gi_upto_region 3 with (fail)
      have hbb : Below wr.heap.size wr (wr.alloc (.cells #[.int .i64 x.t, .int .i64 x.a, .int .i64 x.r, .int .i64 x.k, .slice C x.c.length cc] 37)) := (Below.refl _ _).alloc (Nat.le_refl _) _
      have hz : ∀ i, (wr.alloc (.cells #[.int .i64 x.t, .int .i64 x.a, .int .i64 x.r, .int .i64 x.k, .slice C x.c.length cc] 37)).cell? ⟨wr.heap.size, i, none⟩ = (#[.int .i64 x.t, .int .i64 x.a, .int .i64 x.r, .int .i64 x.k, .slice C x.c.length cc] : Array Value)[i]? := fun i => cell_of_row _ _ i _ _ _ (heap_alloc_new wr _)
      have z0 := hz 0
      have z1 := hz 1
      have z2 := hz 2
      have z3 := hz 3
      have z4 := hz 4
      have HBB := Lib.hid hbb
      clear hz hbb c0 c1 c2 c3 c4
      generalize (wr.alloc (.cells #[.int .i64 x.t, .int .i64 x.a, .int .i64 x.r, .int .i64 x.k, .slice C x.c.length cc] 37)) = W2 at *
      simp only [List.getElem?_toArray, List.getElem?_cons_zero, List.getElem?_cons_succ] at z0 z1 z2 z3 z4
      have HY22 : Hid (Boxed W2 b2 84 (.func (.func 40) #[] #[.pointer (some ⟨b3, 0, none⟩)])) := Lib.hid ((HBB.out.block b2 hY2.out.lt).trans hY2.out)
      have HY33 : Hid (Boxed W2 b3 2 (.int .i64 c)) := Lib.hid ((HBB.out.block b3 hY3.out.lt).trans hY3.out)
      have f2 := HY22.out.cell
      have SO := soN x C cc b3 c W2 HY33.out.cell
      have HST := Lib.hid (pl_succN c js k x HXK.out)
      obtain ⟨t, ht⟩ : ∃ t, prN c x = t := ⟨_, rfl⟩
      rw [ht] at SO
      have HT := Lib.hid ht
      have HSO := Lib.hid SO
      clear SO ht
      rcases (Bool.eq_false_or_eq_true t).symm with rfl | rfl
      · gi_wp2_with (refine ⟨trivial, ?_⟩; gi_at_call 40; (with_reducible refine (callsIn_wide.2 HSO.out).mono ?_); rintro e w3 ⟨rfl, hB3⟩; have HB3' := Lib.hid (HBB.out.trans (hB3.mono HBB.out.size)); clear hB3)
        refine ⟨(fun f hf => by cases hf), ?_⟩
        gi_wp2
        go_roundw
        case rel =>
          refine ⟨k + 1, by omega, by go_num, ?_, ?_, ?_, ?_⟩
          · rw [HST.out, if_neg (by rw [HT.out]; simp)]
            exact Lib.hid (HB.out _ _ _ hJ1.out (KeptT.below HB3'.out))
          · exact Lib.hid (hR1.out.later HB3'.out)
          · exact Lib.hid ((HB3'.out.block b2 hY2.out.lt).trans hY2.out)
          · exact Lib.hid ((HB3'.out.block b3 hY3.out.lt).trans hY3.out)
        case measure => first | (simp [intOf]; done) | (simp [intOf]; omega)
      · gi_wp2_with (refine ⟨trivial, ?_⟩; gi_at_call 40; go_loud ((with_reducible refine (callsIn_wide.2 HSO.out).mono ?_); rintro e w3 ⟨rfl, hB3⟩; have HB3' := Lib.hid (HBB.out.trans (hB3.mono HBB.out.size)); have HJ3 := Lib.hid (HB.out _ _ _ hJ1.out (KeptT.below HB3'.out)); have HSP := Lib.hid (pl_splitN c js k js.length x HXK.out HT.out (by rw [HM.out]; exact hlt)).choose_spec; obtain ⟨fn, tmps, assign, body, hy, hRd⟩ := HY.out _ k _ w3 HJ3.out HSP.out; try dsimp only at hy))
        refine hRd.mono ?_
        rintro e W5 (⟨rfl, hJ5, hk5⟩ | ⟨rfl, hJx5⟩)
        · have HR5 := Lib.hid ((hR1.out.later HB3'.out).keepN hk5)
          have HY52 : Hid (Boxed W5 b2 84 (.func (.func 40) #[] #[.pointer (some ⟨b3, 0, none⟩)])) := Lib.hid (hk5.box ((HB3'.out.block b2 hY2.out.lt).trans hY2.out) HB2.out)
          have HY53 : Hid (Boxed W5 b3 2 (.int .i64 c)) := Lib.hid (hk5.box ((HB3'.out.block b3 hY3.out.lt).trans hY3.out) HB3.out)
          have HJ5 := Lib.hid hJ5
          clear hJ5 hk5 hy hRd
          gi_wp2
          go_roundw
          case rel =>
            refine ⟨k + 1, by omega, by go_num, ?_, HR5, HY52, HY53⟩
            rw [HST.out, if_pos HT.out]
            exact HJ5
          case measure => first | (simp [intOf]; done) | (simp [intOf]; omega)
        · clear hy hRd
          gi_wp2
          refine bodyPost_ret (results_none rfl _ _ _) rfl ?_
          exact ⟨⟨_, rfl⟩, .inr ⟨_, k, _, HSP.out, hJx5⟩⟩
    · obtain rfl : k = m := by omega
      gi_wp2
      go_end0
      refine ⟨⟨_, rfl⟩, .inl ?_⟩
      rw [HM.out]
      exact hJ1.out
end Go.Proofs.Ytnplbmbbocffbaa
/- Places that are told, gathered: the jobs of a task. -/
namespace Go.Proofs.Ytnplbmbbocffbaa
open Go.RowKit Go.Shelf
set_option linter.unusedVariables false
set_option linter.unusedSimpArgs false
attribute [local go_sem] Oper.semAt_some
theorem numL_push (o : List Nat) (i : Nat) : numL (nL (o ++ [i])) = numL (nL o) ++ [.int .i64 (i : Int)] := by simp [numL, nL]
structure Of1 (w : World) (c2 : Nat) (pre : List Nat) (V : World) : Prop where
  ex : ∃ v, Boxed V c2 34 v ∧ V.ownsRow c2 3 1 v pre.length (numL (nL pre))
  bel : Below w.heap.size w V
theorem Of1.own {w : World} {c2 : Nat} {pre : List Nat} {W W' : World} {row : Option Nat} {B : Nat} (h : Of1 w c2 pre W) (hB : w.heap.size ≤ B) (hg : W.grownBy W' row) (hr : ∀ r, row = some r → B ≤ r ∧ ∃ o : Obj, W.heap[r]? = some o ∧ o.isCells = false) : Of1 w c2 pre W' := by
  obtain ⟨v, h1, h2⟩ := h.ex
  exact ⟨⟨v, boxed_kept h1 hg (fun r e => (hr r e).2), kept_cells h2 hg (fun r e => (hr r e).2)⟩, h.bel.grown hg h.bel.size (fun q e => by have := (hr q e).1; omega)⟩
theorem Of1.keptT {w : World} {c2 : Nat} {pre : List Nat} {W W' : World} {B : Nat} (h : Of1 w c2 pre W) (hk : KeptT 56 B W W') (hB : w.heap.size ≤ B) : Of1 w c2 pre W' := by
  obtain ⟨v, h1, h2⟩ := h.ex
  exact ⟨⟨v, hk.box h1 (by decide), hk.row h2 (by decide)⟩, h.bel.trans ((hk.mono hB).bel h.bel.size)⟩
def OfPost (o : List Nat) (w : World) (e : Ending) (w' : World) : Prop := ∃ v, e = .returned v ∧ w'.ownsRow w.heap.size 3 1 v o.length (numL (nL o)) ∧ Below w.heap.size w w'
set_option maxRecDepth 100000 in
set_option maxHeartbeats 8000000 in
theorem aseq_any {N : Nat → Prop} {b1 b2 b3 : Nat} {c : Int} {js : List Fv} (w : World) (hP : PcO N w b1 b2 b3 c js) (hNw : ∀ k, w.heap.size ≤ k → ¬ N k) (hlen : js.length ≤ 1000) :
    Calls Try.prog 58 #[.slice none 0 0, .func (.func 59) #[] #[.pointer (some ⟨b1, 0, none⟩), .pointer (some ⟨b2, 0, none⟩)]] w (OfPost (plO c js js.length) w) := by
  have HLB : Hid ((plO c js js.length).length ≤ 1000) := Lib.hid (by
    have h1 : (plO c js js.length).length ≤ (List.range js.length).length := List.length_filter_le _ _
    rw [List.length_range] at h1
    omega)
  refine (callsIn_wide (n := 9)).1 ?_
  refine callsIn_of_wp_marks Try.func58 rfl trivial ?_ rfl
  simp only [Try.ntmps58, List.size_toArray, List.length_cons, List.length_nil, Nat.reduceAdd, Nat.reduceSub, Array.replicate_succ, Array.replicate_zero, List.push_toArray, List.append_toArray, List.nil_append, List.cons_append]
  gi_wp2
  obtain ⟨W3, hW3, hc2, hb3⟩ : ∃ W3, w.alloc (.cells #[.slice none 0 0] 34) = W3 ∧ Boxed W3 w.heap.size 34 (.slice none 0 0) ∧ Below w.heap.size w W3 := ⟨_, rfl, Boxed.new _ _ _, (Below.refl _ _).alloc (Nat.le_refl _) _⟩
  rw [hW3]
  have I0 : Of1 w w.heap.size [] W3 := ⟨⟨_, hc2, World.ownsRow_nil _ _ _ _⟩, hb3⟩
  have hP3 : PcO N W3 b1 b2 b3 c js := by
    obtain ⟨w1, A, cap, e1, e2, e3⟩ := hP.ex
    exact ⟨⟨w1, A, cap, e1, e2.trans (hb3.mono e2.size), e3⟩⟩
  have SQ := pcseqO (T := 56) (9 - 1) (by omega) hP3 hlen
  have hs3 := hc2.lt
  clear hW3 hc2 hP3 hP
  have hW3 := hb3.size
  generalize plO c js js.length = L at *
  refine wpIn_named fun frm hfr => ?_
  refine rangeN (vals := fun k : Nat => #[.int .i64 (k : Int)]) (gf := 59) (lb := #[.pointer (some ⟨b1, 0, none⟩), .pointer (some ⟨b2, 0, none⟩)]) (by rw [hfr]; rfl) (enters_of Try.func59 (by kernel_rfl) rfl) SQ (Below.refl _ _) (fun x => rfl)
    (fun pre V => Of1 w w.heap.size pre V) (fun _ _ _ => False)
    (fun pre X Y row h hg hr => h.own hW3 hg hr) (fun _ _ _ _ _ h _ _ => h) (fun pre W4 W5 h hk => h.keptT hk hW3) I0
    (fun x a' V => a' = { tmps := ((frm.tmps.setIfInBounds 7 (.int .i64 (x : Int))).setIfInBounds 5 (.int .i64 (x : Int))), defers := [] })
    (fun p X Y row h hg hr => h)
    ?assign ?body ?done ?stop
  case assign =>
    intro l2 pre x V K hI hK
    subst hfr
    gi_wp2
    exact hK _ _ (KeepsFrom.refl _ _) (KeepN.refl _ _ _ _) hI rfl
  case body =>
    rintro l2 pre x r a' V hI rfl hL
    subst hfr
    obtain ⟨i0, hi, hz0, hz1, hz2⟩ := info_parts infoI
    obtain ⟨v, h1, h2⟩ := hI.ex
    obtain ⟨Av, cv, rfl, _, _⟩ := own_len h2
    have c8c := h1.cell
    have c8f := h1.frozen
    have HPL : Hid (pre.length ≤ 1000) := Lib.hid (by
      have e := congrArg List.length hL
      rw [List.length_append, List.length_cons] at e
      have := HLB.out
      omega)
    have HI := Lib.hid hI
    have H1 := Lib.hid h1
    have H2 := Lib.hid h2
    have HP := Lib.hid (one_new V 3 (.int .i64 (x : Int)))
    clear hI h1 h2 hL
    obtain ⟨c2, hc2⟩ : ∃ c2, w.heap.size = c2 := ⟨_, rfl⟩
    have HC2 := Lib.hid hc2
    rw [hc2] at c8c c8f H1 H2 HI ⊢
    clear hc2
    gi_wp2_with (gi_at_builtin; go_loud (refine wpListIn_append_own _ rfl _ _ 34 rfl c2 3 i0 _ 1 8 Try.underlying34 hi hz0 hz1 hz2 rfl (by decide) _ pre.length (numL (nL pre)) rfl (H2.out.alloc _) ⟨V.heap.size, 0, none⟩ 1 1 [.int .i64 (x : Int)] rfl rfl HP.out (by intro v hv; simp only [List.mem_singleton] at hv; subst hv; rfl) (by have := HPL.out; unfold maxLen; omega) (by have := HPL.out; omega) (by have := H1.out.lt; simp; omega) ?_; intro v' w8 hown' hgrow hnil'; obtain ⟨A8, cp8, rfl, _, _⟩ := own_len hown'; have hB8 : Boxed w8 c2 34 (.slice Av pre.length cv) := ((hgrow.block c2 (Nat.lt_of_lt_of_le H1.out.lt (by simp)) (fun e => own_ne (H2.out.alloc _) ((Below.heap_alloc V (.cells #[.int .i64 (x : Int)] 3) c2 H1.out.lt).trans H1.out) (by decide) e.symm)).trans ((Below.heap_alloc V _ c2 H1.out.lt).trans H1.out)); have HB8 := Lib.hid hB8; have c88 := hB8.cell; have f88 := hB8.frozen; have HO8 := Lib.hid hown'; have HG8 := Lib.hid hgrow; clear hown' hgrow hB8))
    have hba : Below V.heap.size V (V.alloc (.cells #[.int .i64 (x : Int)] 3)) := (Below.refl _ _).alloc (Nat.le_refl _) _
    have hK8 : Kept ((Value.slice Av pre.length cv).ownBlock.toList ++ [c2]) V w8 := (Kept.of _ hba).trans (kept_grown HG8.out (fun q e => List.mem_append_left _ (by rw [Option.mem_toList]; exact e)))
    have hK9 := hK8.set c2 0 (.slice A8 (pre.length + 1) cp8) (by simp)
    have hY : ∀ k ∈ (Value.slice Av pre.length cv).ownBlock.toList ++ [c2], c2 ≤ k ∧ (∀ cs fr, V.heap[k]? = some (.cells cs 56 fr) → k < W3.heap.size) ∧ ∃ cs T fr, V.heap[k]? = some (.cells cs T fr) := fun k hk => by
      rcases List.mem_append.1 hk with hk | hk
      · rw [Option.mem_toList] at hk
        have hck := (H2.out.lt k hk).1
        rcases H2.out.2 with ⟨h0, _⟩ | ⟨g', cp', cur, e, _, hh, _⟩
        · rw [h0] at hk; simp [Value.ownBlock] at hk
        · rw [e] at hk
          simp only [Value.ownBlock, Option.some.injEq] at hk
          subst hk
          exact ⟨hck, fun cs fr hc => by rw [hh] at hc; simp only [Option.some.injEq, Obj.cells.injEq] at hc; exact absurd hc.2.1 (by decide), _, _, _, hh⟩
      · simp only [List.mem_singleton] at hk
        subst hk
        exact ⟨Nat.le_refl _, fun cs fr hc => by have h9 : V.heap[k]? = _ := H1.out; rw [h9] at hc; simp only [Option.some.injEq, Obj.cells.injEq] at hc; exact absurd hc.2.1 (by decide), _, _, _, H1.out⟩
    refine ⟨keepsFrom_kept _ hK9 (fun k hk => (hY k hk).2.2), KeepN.kept hK9 (fun k hk => ⟨hNw k (by have := (hY k hk).1; have := HC2.out; omega), (hY k hk).2.1⟩), ?_, ?_⟩
    · refine ⟨_, Boxed.set _ HB8.out, ?_⟩
      rw [List.length_append, numL_push]
      exact ((Kept.refl [c2] w8).set c2 0 _ (by simp)).row HO8.out (fun g hg hm => by
        simp only [List.mem_singleton] at hm
        subst hm
        exact own_ne HO8.out HB8.out (by decide) hg)
    · exact HI.out.bel.trans (hK9.below HI.out.bel.size (fun k hk => by have := (hY k hk).1; have := HC2.out; omega))
  case done =>
    rintro D V hD hI hK
    subst hfr
    obtain ⟨v, h1, h2⟩ := hI.ex
    obtain ⟨Av, cv, rfl, _, _⟩ := own_len h2
    have c8c := h1.cell
    gi_wp2
    refine ⟨by simp, .inl ⟨_, _, rfl, run_takeDeferred hK, ?_⟩⟩
    have hbk := belowK_b (w := w) (Nat.le_refl _) V D _ (.deferred none) (by omega) hK rfl rfl
    refine ⟨.slice Av L.length cv, by simp [results, Try.f58, go_sem], _, rfl, ?_, hI.bel.trans hbk⟩
    exact kept_cells h2 (grownBy_putObj' V D (.deferred none)) (fun r e => by cases e; exact ⟨_, hK, rfl⟩)
  case stop =>
    rintro D c pre x r V hD hL h hK
    exact h.elim
end Go.Proofs.Ytnplbmbbocffbaa
/- The jobs of a task; a few jobs. -/
namespace Go.Proofs.Ytnplbmbbocffbaa
open Go.RowKit Go.Shelf
set_option linter.unusedVariables false
set_option linter.unusedSimpArgs false
attribute [local go_sem ↓] Go.wp_at_zero Go.wp_at_succ
set_option maxHeartbeats 1000000 in
theorem collect_any {N : Nat → Prop} {b1 b2 b3 : Nat} {c : Int} {js : List Fv} (w : World) (hP : PcO N w b1 b2 b3 c js) (hNw : ∀ k, w.heap.size ≤ k → ¬ N k) (hlen : js.length ≤ 1000) :
    Calls Try.prog 35 #[.func (.func 59) #[] #[.pointer (some ⟨b1, 0, none⟩), .pointer (some ⟨b2, 0, none⟩)]] w (OfPost (plO c js js.length) w) := by
  have HA := Lib.hid (aseq_any w hP hNw hlen)
  clear hP hNw
  go_enter Try.func35, Try.ntmps35
  go_wp2_with (go_at_call 58; (with_reducible refine HA.out.mono ?_); rintro e w1 ⟨v, rfl, hO, hB⟩; have HO := Lib.hid hO; have HB := Lib.hid hB; clear hO hB)
  go_ret
  exact ⟨v, rfl, HO.out, HB.out⟩
set_option maxHeartbeats 2000000 in
theorem of_any (A : Option Addr) (cap : Nat) (js : List Fv) (c : Int) (w : World) (hR : FRow w A cap js) (hlen : js.length ≤ 1000) :
    Calls Try.prog 15 #[.slice A js.length cap, .int .i64 c] w (OfPost (plO c js js.length) w) := by
  have hbt : Below w.heap.size w (w.alloc (.cells #[.int .i64 c] 3)) := (Below.refl _ _).alloc (Nat.le_refl _) _
  obtain ⟨W2, hW2, hB2, hP⟩ : ∃ W2, ((w.alloc (.cells #[.int .i64 c] 3)).alloc (.cells #[.slice A js.length cap] 29)).alloc (.cells #[.func (.func 37) #[] #[.pointer (some ⟨w.heap.size, 0, none⟩)]] 84) = W2 ∧ Below w.heap.size w W2 ∧ PcO (· < W2.heap.size) W2 (w.heap.size + 1) (w.heap.size + 1 + 1) w.heap.size c js := by
    have hb : Below w.heap.size w (((w.alloc (.cells #[.int .i64 c] 3)).alloc (.cells #[.slice A js.length cap] 29)).alloc (.cells #[.func (.func 37) #[] #[.pointer (some ⟨w.heap.size, 0, none⟩)]] 84)) := (hbt.alloc (by simp) _).alloc (by simp <;> omega) _
    have n1 := Boxed.new (w.alloc (.cells #[.int .i64 c] 3)) 29 (.slice A js.length cap)
    have n2 := Boxed.new ((w.alloc (.cells #[.int .i64 c] 3)).alloc (.cells #[.slice A js.length cap] 29)) 84 (.func (.func 37) #[] #[.pointer (some ⟨w.heap.size, 0, none⟩)])
    simp only [World.size_alloc] at n1 n2
    refine ⟨_, rfl, hb, ⟨⟨_, A, cap, ⟨by simp <;> omega, by simp <;> omega, fun hne b o e => ?_⟩, Below.refl _ _, Boxed.alloc n1 _, hR.later hb, n2, Boxed.alloc (Boxed.alloc (Boxed.new _ _ _) _) _⟩⟩⟩
    obtain ⟨b', o', x, C, cc, e', _, hl, _⟩ := hR.get (k := 0) (by rcases Nat.eq_zero_or_pos js.length with h0 | h0; exact absurd (List.length_eq_zero_iff.1 h0) hne; exact h0)
    rw [e] at e'
    cases e'
    exact Nat.lt_of_lt_of_le hl hb.size
  have CO := collect_any W2 hP (fun k hk => by show ¬ k < W2.heap.size; omega) hlen
  have HW2 := Lib.hid hW2
  have HB2 := Lib.hid hB2
  have HCO := Lib.hid CO
  have HPL := Lib.hid (places_any A js.length cap (.func 37) #[] #[.pointer (some ⟨w.heap.size, 0, none⟩)] (w.alloc (.cells #[.int .i64 c] 3)))
  clear CO hP hB2 hW2 hbt hR hlen
  go_enter Try.func15, Try.ntmps15
  go_wp2_with (first
    | (go_at_call 36; (with_reducible refine HPL.out.mono ?_); rintro e w1 ⟨rfl, rfl⟩; simp only [World.size_alloc]; rw [HW2.out])
    | (go_at_call 35; (with_reducible refine HCO.out.mono ?_); rintro e w2 ⟨v, rfl, hO, hB⟩; have HO := Lib.hid hO; have HB := Lib.hid hB; clear hO hB))
  go_ret
  exact ⟨v, rfl, own_mono HO.out HB2.out.size, HB2.out.trans (HB.out.mono HB2.out.size)⟩
end Go.Proofs.Ytnplbmbbocffbaa
/- A few jobs, by numbers. -/
namespace Go.Proofs.Ytnplbmbbocffbaa
open Go.RowKit Go.Shelf
set_option linter.unusedVariables false
set_option linter.unusedSimpArgs false
attribute [local go_sem ↓] Go.wp_at_zero Go.wp_at_succ
def fewJ (i : Nat) (r : Int) : Fv := ⟨(i : Int) % 3, 0, if i % 2 = 0 then r % 8 else r, 0, []⟩
def fewN (l : List Int) : List Fv := (l.take 16).mapIdx fewJ
theorem fewN_len (l : List Int) : (fewN l).length = min 16 l.length := by simp [fewN]
theorem fewN_get (l : List Int) (k : Nat) (r : Int) (h : l[k]? = some r) (hk : k < 16) : (fewN l)[k]? = some (fewJ k r) := by
  simp [fewN, h, hk, List.getElem?_take]
theorem job_new (W : World) (x : Fv) (hx : x.c = []) : ∀ j u, (fvL x none 0)[j]? = some u → (W.alloc (.cells #[.int .i64 x.t, .int .i64 x.a, .int .i64 x.r, .int .i64 x.k, .slice none 0 0] 37)).cell? ((⟨W.heap.size, 0, none⟩ : Addr).add j) = some u := fun j u hu => by
  rw [add_none, Nat.zero_add, cell_of_row _ _ j _ _ _ (heap_alloc_new W _)]
  simp only [fvL, hx, List.length_nil] at hu
  simpa using hu
def JobsPost (js : List Fv) (w : World) (e : Ending) (w' : World) : Prop := ∃ v gs, e = .returned v ∧ FOwn 37 w.heap.size w' v gs ∧ gs.map (·.x) = js ∧ Below w.heap.size w w'
structure FewI (w wr : World) (v : Value) (js : List Fv) : Prop where
  own : ∃ gs, FOwn 37 w.heap.size wr v gs ∧ gs.map (·.x) = js
  bel : Below w.heap.size w wr
set_option maxRecDepth 100000 in
set_option maxHeartbeats 8000000 in
theorem few_any (A : Option Addr) (cap : Nat) (l : List Int) (w : World) (hR : CRow w A cap l) :
    Calls Try.prog 12 #[.slice A l.length cap] w (JobsPost (fewN l) w) := by
  obtain ⟨i0, hi, hz0, hz1, hz2⟩ := info_parts infoJs
  have hle := hR.le
  have hmx := hR.mx
  have HR := Lib.hid hR
  obtain ⟨n, hn0⟩ : ∃ n, l.length = n := ⟨_, rfl⟩
  have HN := Lib.hid hn0
  rw [hn0] at hle ⊢
  clear hR hn0
  go_enter Try.func12, Try.ntmps12
  go_wp2
  go_loopw [3, 4] (fun v i wr => ∃ k : Nat, k ≤ n ∧ k ≤ 16 ∧ i = .int .i64 (k : Int) ∧ Hid (FewI w wr v ((fewN l).take k))) (fun _ i _ => 16 - (intOf i).toNat)
  case atStart => exact ⟨0, Nat.zero_le _, by omega, rfl, Lib.hid ⟨⟨[], FOwn.nil _ _ _, rfl⟩, Below.refl _ _⟩⟩
  case round =>
    obtain ⟨k, hk, hk16, rfl, hI⟩ := hrel
    obtain ⟨gs, hG, hgs⟩ := hI.out.own
    obtain ⟨Ao, co, rfl, _, _⟩ := own_len hG.row
    have hgl : gs.length = min k (min 16 n) := by
      have := congrArg List.length hgs
      rw [List.length_map, List.length_take, fewN_len, HN.out] at this
      exact this
    by_cases hlt : k < n ∧ k < 16
    · obtain ⟨hl1, hl2⟩ := hlt
      obtain ⟨b, o, r, rfl, hx, hwx, hbl, hc0⟩ := HR.out.get (k := k) (by rw [HN.out]; exact hl1)
      have e1 := (hI.out.bel.cell (p := ⟨b, o + k, none⟩) hbl).trans hc0
      have g1 : decide ((k : Int) < (n : Int)) = true := decide_eq_true (by omega)
      have g2 : decide ((k : Int) < 16) = true := decide_eq_true (by omega)
      have hi0 : (0 : Int) ≤ (k : Int) := by omega
      have hi1 : (k : Int) < (n : Int) := by omega
      have HTK := Lib.hid (take_one (fewN_get l k r hx hl2))
      have HGL : Hid (gs.length = k) := Lib.hid (by omega)
      have HG := Lib.hid hG
      have HGS := Lib.hid hgs
      have HBW := Lib.hid hI.out.bel
      have HWX := Lib.hid hwx
      clear hx hc0 hG hgs hI hgl
      by_cases hev : k % 2 = 0
      · have t2 : ((k : Int) % 2 == 0) = true := by rw [beq_iff_eq]; omega
        obtain ⟨r8, hr8⟩ : ∃ r8, r % 8 = r8 := ⟨_, rfl⟩
        have hrm : (wrap64 (r.tmod 8 + 8)).tmod 8 = r8 := by
          have hb := tmod_bd r 8 (by omega)
          rw [IntWalk.wrap64_in _ (by omega), twice_tmod r 8 (by omega), hr8]
        have HR8 := Lib.hid hr8
        have HEV := Lib.hid hev
        have h80 : 0 ≤ r8 ∧ r8 < 8 := by omega
        clear hr8 hev
        have G3 : Hid (GOk 37 w.heap.size wr ⟨⟨(k : Int) % 3, 0, r8, 0, []⟩, none, 0⟩) := Lib.hid ⟨⟨(show in64 ((k : Int) % 3) from ⟨by omega, by omega⟩), in0, (show in64 r8 from ⟨by omega, by omega⟩), in0⟩, CRow.nil _ _ (show (0 : Nat) ≤ 9223372036854775807 by omega), fun hne => absurd rfl hne⟩
        have HJN : Hid (∀ j u, (fvL ⟨(k : Int) % 3, 0, r8, 0, []⟩ none 0)[j]? = some u → (wr.alloc (.cells #[.int .i64 ((k : Int) % 3), .int .i64 0, .int .i64 r8, .int .i64 0, .slice none 0 0] 37)).cell? ((⟨wr.heap.size, 0, none⟩ : Addr).add j) = some u) := Lib.hid (job_new wr ⟨(k : Int) % 3, 0, r8, 0, []⟩ rfl)
        go_wp2_with (refine wpList_append_own _ rfl _ _ 29 rfl w.heap.size 37 i0 _ 5 56 Try.underlying29 hi hz0 hz1 hz2 rfl (by decide) _ gs.length (gvC gs) rfl (HG.out.row.alloc _) ⟨wr.heap.size, 0, none⟩ 1 1 (fvL ⟨(k : Int) % 3, 0, r8, 0, []⟩ none 0) rfl rfl HJN.out (fvL_one _ _ _) (by have := HGL.out; unfold maxLen; omega) (by have := HGL.out; omega) (by have := HBW.out.size; simp; omega) ?_; intro v' w8 hown' hgrow hnil')
        go_roundw
        case rel =>
          have ba : Below wr.heap.size wr (wr.alloc (.cells #[.int .i64 ((k : Int) % 3), .int .i64 0, .int .i64 r8, .int .i64 0, .slice none 0 0] 37)) := (Below.refl _ _).alloc (Nat.le_refl _) _
          have hG8 := (HG.out.later ba).push (G3.out.kept fun b hl _ => ba.block b hl) hown' hgrow
          have hL8 : Below w.heap.size w w8 := (HBW.out.trans (ba.mono HBW.out.size)).grown hgrow (by have := HBW.out.size; simp; omega) (fun q hq => (HG.out.row.lt q hq).1)
          refine ⟨k + 1, by omega, by omega, by go_num, Lib.hid ⟨⟨_, hG8, ?_⟩, hL8⟩⟩
          rw [HTK.out, List.map_append, HGS.out]
          simp only [List.map_cons, List.map_nil, fewJ, if_pos HEV.out, HR8.out]
        case measure => first | (simp [intOf]; done) | (simp [intOf]; omega)
      · have t2 : ((k : Int) % 2 == 0) = false := by rw [beq_eq_false_iff_ne]; omega
        have HEV := Lib.hid hev
        clear hev
        have G3 : Hid (GOk 37 w.heap.size wr ⟨⟨(k : Int) % 3, 0, r, 0, []⟩, none, 0⟩) := Lib.hid ⟨⟨(show in64 ((k : Int) % 3) from ⟨by omega, by omega⟩), in0, HWX.out, in0⟩, CRow.nil _ _ (show (0 : Nat) ≤ 9223372036854775807 by omega), fun hne => absurd rfl hne⟩
        have HJN : Hid (∀ j u, (fvL ⟨(k : Int) % 3, 0, r, 0, []⟩ none 0)[j]? = some u → (wr.alloc (.cells #[.int .i64 ((k : Int) % 3), .int .i64 0, .int .i64 r, .int .i64 0, .slice none 0 0] 37)).cell? ((⟨wr.heap.size, 0, none⟩ : Addr).add j) = some u) := Lib.hid (job_new wr ⟨(k : Int) % 3, 0, r, 0, []⟩ rfl)
        go_wp2_with (refine wpList_append_own _ rfl _ _ 29 rfl w.heap.size 37 i0 _ 5 56 Try.underlying29 hi hz0 hz1 hz2 rfl (by decide) _ gs.length (gvC gs) rfl (HG.out.row.alloc _) ⟨wr.heap.size, 0, none⟩ 1 1 (fvL ⟨(k : Int) % 3, 0, r, 0, []⟩ none 0) rfl rfl HJN.out (fvL_one _ _ _) (by have := HGL.out; unfold maxLen; omega) (by have := HGL.out; omega) (by have := HBW.out.size; simp; omega) ?_; intro v' w8 hown' hgrow hnil')
        go_roundw
        case rel =>
          have ba : Below wr.heap.size wr (wr.alloc (.cells #[.int .i64 ((k : Int) % 3), .int .i64 0, .int .i64 r, .int .i64 0, .slice none 0 0] 37)) := (Below.refl _ _).alloc (Nat.le_refl _) _
          have hG8 := (HG.out.later ba).push (G3.out.kept fun b hl _ => ba.block b hl) hown' hgrow
          have hL8 : Below w.heap.size w w8 := (HBW.out.trans (ba.mono HBW.out.size)).grown hgrow (by have := HBW.out.size; simp; omega) (fun q hq => (HG.out.row.lt q hq).1)
          refine ⟨k + 1, by omega, by omega, by go_num, Lib.hid ⟨⟨_, hG8, ?_⟩, hL8⟩⟩
          rw [HTK.out, List.map_append, HGS.out]
          simp only [List.map_cons, List.map_nil, fewJ, if_neg HEV.out]
        case measure => first | (simp [intOf]; done) | (simp [intOf]; omega)
    · have hfull : (fewN l).take k = fewN l := List.take_of_length_le (by rw [fewN_len, HN.out]; omega)
      rw [hfull] at hgs
      have HG := Lib.hid hG
      have HGS := Lib.hid hgs
      have HBW := Lib.hid hI.out.bel
      clear hG hgs hI hfull hgl
      by_cases hin2 : k < n
      · have g1 : decide ((k : Int) < (n : Int)) = true := decide_eq_true (by omega)
        have g2 : decide ((k : Int) < 16) = false := decide_eq_false (by omega)
        have g2' : decide (k < 16) = false := decide_eq_false (by omega)
        go_wp2
        go_ret
        exact ⟨_, gs, rfl, HG.out, HGS.out, HBW.out⟩
      · have g1 : decide ((k : Int) < (n : Int)) = false := decide_eq_false (by omega)
        have g1' : decide (k < n) = false := decide_eq_false hin2
        go_wp2
        go_ret
        exact ⟨_, gs, rfl, HG.out, HGS.out, HBW.out⟩
end Go.Proofs.Ytnplbmbbocffbaa
