/- Texts about the program, one after the other: Mgs, RdR, SMw, SoP, SoW. -/
import Derived.Test.YtnplbmbbocffbaaG9
/- Rows are merged as the document says. -/
namespace Go.Proofs.Ytnplbmbbocffbaa
open Go.RowKit Go.Shelf
set_option linter.unusedVariables false
set_option linter.unusedSimpArgs false
attribute [local go_sem] Oper.semAt_some
theorem run_eql_nilM (fn : Fn) (a b : Array Value) (w : World) : (binOp .eql 51 (.func fn a b) .nilFunc).run Try.prog w = .ok (.bool false) w := by
  have h : ∀ d, (Op.equalIn (d + 1) 51 (.func fn a b) .nilFunc).run Try.prog w = .ok false w := fun d => by simp [Op.equalIn, run_underlying Try.underlying51]
  simp only [binOp]
  simp [Op.equal, Op.maxDepth, h 9999]
theorem KeptT.old {T : TypeId} {B b : Nat} {W W' : World} {t : TypeId} {v : Value} (h : KeptT T B W W') (hb : Boxed W b t v) (hB : b < B) : Boxed W' b t v := (h.block b hb.lt (fun _ _ _ => hB)).trans hb
theorem box_set {W : World} {b c : Nat} {t : TypeId} {v : Value} (h : Boxed W b t v) (hne : b ≠ c) (i : Nat) (u : Value) : Boxed (W.setCell ⟨c, i, none⟩ u) b t v := (Below.heap_setCell W ⟨c, i, none⟩ u b hne).trans h
theorem keepsFrom_below {W W' : World} (B : Nat) (h : Below W.heap.size W W') : KeepsFrom B W W' := ⟨h.size, fun k o _ hk _ => (h.block k (Array.getElem?_eq_some_iff.1 hk).1).trans hk⟩
theorem RInM.lens {w : World} {v : Value} {vs : List Value} {rs : List (List (Int × Int))} {B : Nat} (h : Own2M B w v vs rs) : True := trivial
/-- What the range holds: the box of what is wanted, of the count, and what stays. -/
structure MsI0 (w : World) (c2 c3 c5 : Nat) (A : Option Addr) (cap n : Nat) (L : List (Int × Int)) (k : Nat) (W : World) : Prop where
  b2 : Boxed W c2 4 (.bool false)
  b3 : Boxed W c3 56 (.slice A n cap)
  b5 : Boxed W c5 3 (.int .i64 (k : Int))
  row : W.ownsRow w.heap.size 54 2 (.slice A n cap) n (cLM L)
  bel : Below w.heap.size w W
theorem MsI0.own {w : World} {c2 c3 c5 : Nat} {A : Option Addr} {cap n k : Nat} {L : List (Int × Int)} {W W' : World} {row : Option Nat} {B : Nat} (h : MsI0 w c2 c3 c5 A cap n L k W) (hB : w.heap.size ≤ B) (hg : W.grownBy W' row) (hr : ∀ r, row = some r → B ≤ r ∧ ∃ o : Obj, W.heap[r]? = some o ∧ o.isCells = false) : MsI0 w c2 c3 c5 A cap n L k W' :=
  ⟨boxed_kept h.b2 hg (fun r e => (hr r e).2), boxed_kept h.b3 hg (fun r e => (hr r e).2), boxed_kept h.b5 hg (fun r e => (hr r e).2),
    (kept_grown (X := row.toList) hg (fun q e => by simp [e])).row h.row (fun g hgo hm => by
      rw [Option.mem_toList] at hm
      obtain ⟨_, o, ho, hc⟩ := hr g hm
      rcases h.row.2 with ⟨h1, _⟩ | ⟨g', cp, cur, h1, _, hh, _⟩
      · rw [h1] at hgo; simp [Value.ownBlock] at hgo
      · rw [h1] at hgo
        simp only [Value.ownBlock, Option.some.injEq] at hgo
        subst hgo
        rw [hh] at ho
        cases ho
        simp [Obj.isCells] at hc),
    h.bel.grown hg h.bel.size (fun q e => by have := (hr q e).1; omega)⟩
theorem MsI0.keptT {w : World} {c2 c3 c5 : Nat} {A : Option Addr} {cap n k : Nat} {L : List (Int × Int)} {W W' : World} {B : Nat} (h : MsI0 w c2 c3 c5 A cap n L k W) (hk : KeptT 56 B W W') (hB : w.heap.size ≤ B) (h3 : c3 < B) : MsI0 w c2 c3 c5 A cap n L k W' :=
  ⟨hk.box h.b2 (by decide), hk.old h.b3 h3, hk.box h.b5 (by decide), hk.row h.row (by decide), h.bel.trans ((hk.mono hB).bel h.bel.size)⟩
theorem keepsFrom_kept {X : List Nat} {W W' : World} (B : Nat) (h : Kept X W W') (hX : ∀ k ∈ X, ∃ cs T fr, W.heap[k]? = some (.cells cs T fr)) : KeepsFrom B W W' := ⟨h.size, fun k o _ hk hc => (h.block k (Array.getElem?_eq_some_iff.1 hk).1 (fun hm => by
  obtain ⟨cs, T, fr, h1⟩ := hX k hm
  rw [hk] at h1
  cases h1
  simp [Obj.isCells] at hc)).trans hk⟩
theorem MsI0.count {w : World} {c2 c3 c5 : Nat} {A : Option Addr} {cap n k : Nat} {L : List (Int × Int)} {W : World} (h : MsI0 w c2 c3 c5 A cap n L k W) (h2 : c2 ≠ c5) (h3 : c3 ≠ c5) (h5 : w.heap.size ≤ c5) : MsI0 w c2 c3 c5 A cap n L (k + 1) (W.setCell ⟨c5, 0, none⟩ (.int .i64 ((k : Int) + 1))) :=
  ⟨box_set h.b2 h2 _ _, box_set h.b3 h3 _ _, Boxed.set _ h.b5, ((Kept.refl [c5] W).set c5 0 _ (by simp)).row h.row (fun g hg hm => by
    simp only [List.mem_singleton] at hm
    subst hm
    exact own_ne h.row h.b5 (by decide) hg), h.bel.setCell (p := ⟨c5, 0, none⟩) h5 _⟩
set_option maxRecDepth 100000 in
set_option maxHeartbeats 8000000 in
theorem merges_any {N cap : Nat} {A : Option Addr} {rs : List (List (Int × Int))} (w : World) (hR : RInM N w A cap rs) (hn : rs.length ≤ 100) (hl : ∀ l ∈ rs, l.length ≤ 100) :
    Calls Try.prog 18 #[.slice A rs.length cap] w (OkB w) := by
  have hfn := run_eql_nilM
  have hb0 : Below w.heap.size w (w.alloc (.cells #[.bool false] 4)) := (Below.refl _ _).alloc (Nat.le_refl _) _
  have HX0 := Lib.hid (Boxed.new w 4 (.bool false))
  generalize hW0 : w.alloc (.cells #[.bool false] 4) = W0 at *
  have PM := rmerge_any W0 (hR.later hb0) hn hl
  have MM := fun (W : World) (hW : Below W0.heap.size W0 W) => mergeM W ((hR.later hb0).later hW) (by omega) (fun l hl2 => by have := hl l hl2; omega)
  have HPM := Lib.hid PM
  have HMM := Lib.hid MM
  have HB0 := Lib.hid hb0
  have HLN : Hid ((mrg keyM rs).length ≤ 10000) := Lib.hid (by
    rw [mrg_len keyM _ _ (Nat.le_refl _)]
    have := tot_le rs hl
    omega)
  generalize rs.length = n0 at *
  clear hR hl PM MM hb0
  refine (callsIn_wide (n := 9)).1 ?_
  refine callsIn_of_wp_marks Try.func18 rfl trivial ?_ rfl
  simp only [Try.ntmps18, List.size_toArray, List.length_cons, List.length_nil, Nat.reduceAdd, Nat.reduceSub, Array.replicate_succ, Array.replicate_zero, List.push_toArray, List.append_toArray, List.nil_append, List.cons_append]
  gi_upto_region 1 with (fail)
  gi_upto_region 2 with (refine ⟨trivial, ?_⟩; gi_at_call 41; go_loud (refine (callsIn_wide.2 HPM.out).mono ?_; rintro e w1 ⟨v, rfl, hO, hB1⟩; obtain ⟨Aw, cw, rfl, _, _⟩ := own_len hO; have HO := Lib.hid hO; have HB1 := Lib.hid hB1; clear hO hB1))
  have HLD := Lib.hid (mrg_fil keyM rs)
  obtain ⟨L, hLd⟩ : ∃ L, mrg keyM rs = L := ⟨_, rfl⟩
  rw [hLd] at HO HLN HLD ⊢
  clear HPM
  obtain ⟨W1, hW1, hc3, hb1⟩ : ∃ W1, w1.alloc (.cells #[.slice Aw L.length cw] 56) = W1 ∧ Boxed W1 w1.heap.size 56 (.slice Aw L.length cw) ∧ Below w1.heap.size w1 W1 := ⟨_, rfl, Boxed.new _ _ _, (Below.refl _ _).alloc (Nat.le_refl _) _⟩
  rw [hW1]
  have HC3 := Lib.hid hc3
  have HO1 := Lib.hid ((Kept.of [] hb1).row HO.out (by simp))
  have HB10 := Lib.hid (HB1.out.trans (hb1.mono HB1.out.size))
  have HC2 : Hid (Boxed W1 w.heap.size 4 (.bool false)) := Lib.hid ((HB10.out.block _ HX0.out.lt).trans HX0.out)
  have HC3 : Hid (Boxed W1 w1.heap.size 56 (.slice Aw L.length cw)) := HC3
  have MM2 := Lib.hid (HMM.out W1 HB10.out)
  have hc3s := HB1.out.size
  have hw0s := HX0.out.lt
  generalize w1.heap.size = c3 at *
  obtain ⟨nl, hnl⟩ : ∃ nl, L.length = nl := ⟨_, rfl⟩
  rw [hnl] at HLN HO HO1 HC3 ⊢
  clear HMM hc3 hb1 hW1 hLd
  gi_upto_region 6 with (refine ⟨trivial, ?_⟩; gi_at_call 20; go_loud (refine (callsIn_wide.2 MM2.out).mono ?_; rintro e w2 ⟨b1, b2, rfl, hM, hB2⟩; have HM := Lib.hid hM; have HB2 := Lib.hid hB2; clear hM hB2))
  gi_wp2
  clear hfn
  obtain ⟨W3, hW3, hc5, hb3⟩ : ∃ W3, w2.alloc (.cells #[.int .i64 0] 3) = W3 ∧ Boxed W3 w2.heap.size 3 (.int .i64 0) ∧ Below w2.heap.size w2 W3 := ⟨_, rfl, Boxed.new _ _ _, (Below.refl _ _).alloc (Nat.le_refl _) _⟩
  rw [hW3]
  have hb13 : Below W1.heap.size W1 W3 := HB2.out.trans (hb3.mono HB2.out.size)
  have hBW : Below w.heap.size w W3 := (HB0.out.trans (HB10.out.mono HB0.out.size)).trans (hb13.mono (Nat.le_trans HB0.out.size HB10.out.size))
  have I0 : MsI0 w w.heap.size c3 w2.heap.size Aw cw nl L 0 W3 :=
    ⟨(hb13.block _ HC2.out.lt).trans HC2.out, (hb13.block _ HC3.out.lt).trans HC3.out, hc5, (Kept.of [] hb13).row (own_monoM HO1.out HB0.out.size) (by simp), hBW⟩
  have hs5 := hc5.lt
  have h35 : c3 < w2.heap.size := Nat.lt_of_lt_of_le HC3.out.lt HB2.out.size
  have h25 : w.heap.size < c3 := by omega
  have SQ := seqM (9 - 1) (by omega) (X := [w2.heap.size]) (HM.out.later hb3) (fun k hk => by simp only [List.mem_singleton] at hk; subst hk; exact ⟨Nat.le_refl _, hs5⟩)
  rw [HLD.out] at SQ
  have HNL := Lib.hid hnl
  clear hW3 hc5 hb3 hb13 HM HB2 HB10 HB1 HO HO1 HC2 HC3 MM2 hnl HX0 hW0 HB0 hw0s hc3s
  generalize w2.heap.size = c5 at *
  have hW3 := hBW.size
  refine wpIn_named fun frm hfr => ?_
  refine rangeU (vals := fun x : Int × Int => #[.agg #[.int .i64 x.1, .int .i64 x.2]]) (gf := 43) (lb := #[.pointer (some ⟨b1, 0, none⟩), .pointer (some ⟨b2, 0, none⟩)]) (by rw [hfr]; rfl) (enters_of Try.func43 (by kernel_rfl) rfl) SQ (Below.refl _ _) (fun x => rfl)
    (fun pre V => MsI0 w w.heap.size c3 c5 Aw cw nl L pre.length V) (fun _ _ _ => False)
    (fun pre X Y row h hg hr => h.own hW3 hg hr) (fun _ _ _ _ _ h _ _ => h) (fun pre W4 W5 h hk => h.keptT hk hW3 (by omega)) I0
    (fun x a' V => ∃ bx, a' = { tmps := ((frm.tmps.setIfInBounds 14 (.agg #[.int .i64 x.1, .int .i64 x.2])).setIfInBounds 6 (.pointer (some ⟨bx, 0, none⟩))), defers := [] } ∧ V.heap[bx]? = some (.cells #[.int .i64 x.1, .int .i64 x.2] 54 (0, 0)))
    (fun p X Y row h hg hr => by
      obtain ⟨bx, h1, h2⟩ := h
      exact ⟨bx, h1, (grownBy_keeps_cells hg (fun r e => (hr r e).2) h2 rfl).trans h2⟩)
    ?assign ?body ?done ?stop
  case assign =>
    intro l2 pre x V K hI hK
    subst hfr
    gi_wp2
    have hba : Below V.heap.size V (V.alloc (.cells #[.int .i64 x.1, .int .i64 x.2] 54)) := (Below.refl _ _).alloc (Nat.le_refl _) _
    exact hK _ _ (keepsFrom_below _ hba) (KeepC.below hba) (hI.keptT (KeptT.below hba) hW3 (by omega)) ⟨V.heap.size, rfl, heap_alloc_new _ _⟩
  case body =>
    rintro l2 pre x r a' V hI ⟨bx, rfl, hbx⟩ hL
    subst hfr
    have c5c := hI.b5.cell
    have c5f := hI.b5.frozen
    have c3c := hI.b3.cell
    have x0 : V.cell? ⟨bx, 0, none⟩ = some (.int .i64 x.1) := by rw [cell_of_row V bx 0 _ _ _ hbx]; rfl
    have x1 : V.cell? ⟨bx, 1, none⟩ = some (.int .i64 x.2) := by rw [cell_of_row V bx 1 _ _ _ hbx]; rfl
    have hLx : L[pre.length]? = some x := by rw [hL]; simp
    have hpl : pre.length < nl := by rw [← HNL.out]; exact (List.getElem?_eq_some_iff.1 hLx).1
    obtain ⟨g, cg, hg, hgB, hgl, hgc, _, _⟩ := own_form hI.row (by omega)
    simp only [Value.slice.injEq] at hg
    obtain ⟨rfl, _, rfl⟩ := hg
    have y0 : V.cell? ⟨g, pre.length * 2, none⟩ = some (.int .i64 x.1) := own_cell hI.row (g := g) rfl (cL_getM L _ x hLx 0 _ rfl)
    have y1 : V.cell? ⟨g, pre.length * 2 + 1, none⟩ = some (.int .i64 x.2) := own_cell hI.row (g := g) rfl (cL_getM L _ x hLx 1 _ rfl)
    have HI := Lib.hid hI
    have HLx := Lib.hid (show (pre ++ [x]).length = pre.length + 1 by simp)
    have hnl := HLN.out
    have ip0 : (0 : Int) ≤ (pre.length : Int) := by omega
    have ip1 : (pre.length : Int) < (nl : Int) := by omega
    have tp : decide ((pre.length : Int) ≥ (nl : Int)) = false := decide_eq_false (by omega)
    have tp2 : decide (nl ≤ pre.length) = false := decide_eq_false (by omega)
    clear hI hL hLx hbx
    generalize pre.length = m at *
    gi_upto_region 8 with (fail)
    refine region_round (by rintro ⟨_, _, h⟩; exact h) (by kernel_rfl) (by kernel_rfl) (by kernel_rfl) ?_
    repeat (first | go_big_quiet_step (fail) | quiet_step (fail))
    refine wpQuiet_nil ?_
    intro _ hw'
    obtain ⟨nq, hw''⟩ := hw'
    subst hw''
    gi_wp2
    have hbd := below_drewN (Below.refl V.heap.size V) nq
    have hI2 := HI.out.keptT (KeptT.below hbd) hW3 (by omega)
    have hkk : Kept [c5] V ((V.drewN nq).setCell ⟨c5, 0, none⟩ (.int .i64 ((m : Int) + 1))) := (Kept.of [c5] hbd).set c5 0 _ (by simp)
    refine ⟨keepsFrom_kept _ hkk (fun k hk => by simp only [List.mem_singleton] at hk; subst hk; exact ⟨_, _, _, HI.out.b5⟩), KeepC.kept hkk, ?_⟩
    show MsI0 w w.heap.size c3 c5 (some ⟨g, 0, none⟩) cw nl L (pre ++ [x]).length _
    rw [HLx.out]
    exact hI2.count (by omega) (by omega) (by omega)
  case done =>
    rintro D V hD hI hK
    subst hfr
    rw [HNL.out] at hI
    have c5c := hI.b5.cell
    have c3c := hI.b3.cell
    have c2c := hI.b2.cell
    have c2f := hI.b2.frozen
    gi_wp2
    have hb9 := Boxed.set (.bool true) hI.b2
    have hB9 := hI.bel.setCell (p := ⟨w.heap.size, 0, none⟩) (Nat.le_refl _) (.bool true)
    have hK9 : (V.setCell ⟨w.heap.size, 0, none⟩ (.bool true)).heap[D]? = some (.deferred (some [])) := by
      rw [Below.heap_setCell _ _ _ _ (by simp; omega)]
      exact hK
    generalize V.setCell ⟨w.heap.size, 0, none⟩ (.bool true) = V9 at *
    refine ⟨by simp, .inl ⟨_, _, rfl, run_takeDeferred hK9, ?_⟩⟩
    have hc2 : (V9.putObj D (.deferred none)).cell? ⟨w.heap.size, 0, none⟩ = some (.bool true) := by
      rw [← hb9.cell]; simp [World.cell?, World.putObj_heap_other (show w.heap.size ≠ D by omega)]
    refine ⟨.bool true, by simp [results, Try.f18, go_sem, hc2], rfl, hB9.trans (belowK_b (w := w) (Nat.le_refl _) V9 D _ _ (by omega) hK9 rfl rfl)⟩
  case stop =>
    rintro D c pre x r V hD hL h hK
    exact h.elim
end Go.Proofs.Ytnplbmbbocffbaa
/- Numbers, and rows of numbers, as they are handed in. -/
namespace Go.Proofs.Ytnplbmbbocffbaa
open Go.RowKit
set_option linter.unusedVariables false
set_option linter.unusedSimpArgs false

section
open Go.ChangeShapes Go.WideShapes Go.ChangeAt
variable {H : Type} {enc : TypeId × Value → H} {W : World} {base : Nat} {sp : Nat → Bool} {hd : Bool}
set_option maxRecDepth 100000 in
set_option maxRecDepth 100000 in
theorem read_nums {fuel : Nat} {v : Value} {y : DataW H × List MemPlace} (h : DataW.trod enc Try.prog W base sp hd fuel 22 [v] = some y) :
    ∃ A cap l, v = .slice A l.length cap ∧ CRow W A cap l := by
  rcases DataW.trod_slice Try.underlying22 h with ⟨hcs, _⟩ | ⟨a, len, cap, elems, rest, n, _, hcs, _, _, hl', hm, hlen, hel, _, _⟩
  · obtain rfl : v = .slice none 0 0 := by simpa using hcs
    exact ⟨none, 0, [], rfl, CRow.nil _ _ (by omega)⟩
  · obtain rfl : v = .slice (some a) len cap := by simpa using hcs
    have c1 : Try.prog.cellsOf 2 = 1 := by kernel_rfl
    rw [c1] at hel
    unfold maxLen at hm
    rcases Nat.eq_zero_or_pos len with h0 | h0
    · subst h0
      exact ⟨_, cap, [], rfl, CRow.nil _ _ hm⟩
    have hsp := slice_spot hlen h0 (by omega) hel
    obtain ⟨ab, ao, asp⟩ := a
    obtain rfl : asp = none := by injection hsp
    clear hsp
    have key : ∀ i, i < len → ∃ x : Int, in64 x ∧ W.cell? ⟨ab, ao + i, none⟩ = some (.int .i64 x) := by
      intro i hi
      have h1 := hel i hi
      rw [List.getElem?_eq_getElem (by omega)] at h1
      obtain ⟨cl, hcs2, ht⟩ := Option.bind_eq_some_iff.1 h1
      obtain ⟨_, hcl, hat⟩ := World.cells?_some hcs2
      match cl, hcl, hat, ht with
      | [v0], _, hat, ht =>
        obtain ⟨z0, e0, _, w0⟩ := DataW.trod_int Try.underlying2 ht
        obtain rfl : v0 = .int .i64 z0 := by simpa using e0
        have := hat 0 (by simp)
        simp only [add_none, Nat.mul_one, Nat.add_zero] at this
        exact ⟨z0, in64_of w0, by simpa using this⟩
    obtain ⟨l, hl, hp⟩ := list_of len key
    subst hl
    refine ⟨some ⟨ab, ao, none⟩, cap, l, rfl, ⟨hl', hm, fun x hx => ?_, fun i x hx => ⟨ab, ao, rfl, (hp i x hx).2⟩⟩⟩
    obtain ⟨i, hi, rfl⟩ := List.getElem_of_mem hx
    exact (hp i _ (List.getElem?_eq_getElem hi)).1
structure RowRd (w : World) (A : Option Addr) (cap : Nat) (rows : List (List Int)) : Prop where
  r : RInI w.heap.size w A cap rows
  wf : ∀ l ∈ rows, ∀ x ∈ l, in64 x
theorem RowRd.later {w w' : World} {A : Option Addr} {cap : Nat} {rows : List (List Int)} (h : RowRd w A cap rows) (hb : Below w.heap.size w w') : RInI w.heap.size w' A cap rows := h.r.later hb
theorem crow_rowAt {w : World} {A : Option Addr} {cap : Nat} {l : List Int} (h : CRow w A cap l) : RowAtI w.heap.size w (.slice A l.length cap) l := ⟨A, cap, rfl, h.le, h.mx, fun i x hx => by
  obtain ⟨b, o, e, hc⟩ := h.at_ i x hx
  have hl := World.block_lt_of_cell? w _ hc
  refine ⟨b, o, e, hl, hl, fun j u hu => ?_⟩
  match j, hu with
  | 0, hu => simp [cEI] at hu; subst hu; rw [Nat.mul_one, Nat.add_zero]; exact hc
  | n + 1, hu => simp [cEI] at hu⟩
set_option maxRecDepth 100000 in
theorem read_rows {fuel : Nat} {v : Value} {y : DataW H × List MemPlace} (h : DataW.trod enc Try.prog W base sp hd fuel 45 [v] = some y) :
    ∃ A cap l, v = .slice A l.length cap ∧ RowRd W A cap l := by
  rcases DataW.trod_slice Try.underlying45 h with ⟨hcs, _⟩ | ⟨a, len, cap, elems, rest, n, _, hcs, _, _, hl', hm, hlen, hel, _, _⟩
  · obtain rfl : v = .slice none 0 0 := by simpa using hcs
    exact ⟨none, 0, [], rfl, ⟨⟨by simp, by omega, by simp⟩, by simp⟩⟩
  · obtain rfl : v = .slice (some a) len cap := by simpa using hcs
    have c1 : Try.prog.cellsOf 34 = 1 := by kernel_rfl
    rw [c1] at hel
    unfold maxLen at hm
    rcases Nat.eq_zero_or_pos len with h0 | h0
    · subst h0
      exact ⟨_, cap, [], rfl, ⟨⟨by simp, hm, by simp⟩, by simp⟩⟩
    have hsp := slice_spot hlen h0 (by omega) hel
    obtain ⟨ab, ao, asp⟩ := a
    obtain rfl : asp = none := by injection hsp
    clear hsp
    have key : ∀ i, i < len → ∃ l : List Int, ∃ A2 c2, W.cell? ⟨ab, ao + i, none⟩ = some (.slice A2 l.length c2) ∧ CRow W A2 c2 l := by
      intro i hi
      have h1 := hel i hi
      rw [List.getElem?_eq_getElem (by omega)] at h1
      obtain ⟨cl, hcs2, ht⟩ := Option.bind_eq_some_iff.1 h1
      obtain ⟨_, hcl, hat⟩ := World.cells?_some hcs2
      match cl, hcl, hat, ht with
      | [v0], _, hat, ht =>
        obtain ⟨A2, c2, l, e0, hC⟩ := read_cuts ht
        subst e0
        have := hat 0 (by simp)
        simp only [add_none, Nat.mul_one, Nat.add_zero] at this
        exact ⟨l, A2, c2, by simpa using this, hC⟩
    obtain ⟨l, hl, hp⟩ := list_of len key
    subst hl
    refine ⟨some ⟨ab, ao, none⟩, cap, l, rfl, ⟨⟨hl', hm, fun i x hx => ?_⟩, fun x hx => ?_⟩⟩
    · obtain ⟨A2, c2, h1, h2⟩ := hp i x hx
      exact ⟨ab, ao, _, rfl, h1, crow_rowAt h2⟩
    · obtain ⟨i, hi, rfl⟩ := List.getElem_of_mem hx
      obtain ⟨A2, c2, _, h2⟩ := hp i _ (List.getElem?_eq_getElem hi)
      exact h2.wf
end
end Go.Proofs.Ytnplbmbbocffbaa
/- StreamMerges: the walk. -/
namespace Go.Proofs.Ytnplbmbbocffbaa
open Go.RowKit Go.Shelf
set_option linter.unusedVariables false
set_option linter.unusedSimpArgs false
attribute [local go_sem ↓] Go.wp_at_zero Go.wp_at_succ
theorem itR_in (s : Bool) (rows : List (List Int)) : ∀ l ∈ itS s rows, l.length ≤ 8 := fun l hl => by
  obtain ⟨i, hi, rfl⟩ := List.getElem_of_mem hl
  have hr : i < rows.length ∧ i < 8 := by rw [itS_len] at hi; omega
  have h1 := itS_get s rows i rows[i] (List.getElem?_eq_getElem hr.1) hr.2
  rw [List.getElem?_eq_getElem hi] at h1
  simp only [Option.some.injEq] at h1
  rw [h1, itR_len, List.length_take]
  omega
theorem merges_own (s : Bool) (rows : List (List Int)) (W : World) (v : Value) (vs : List Value) (B : Nat) (h : Own2M B W v vs (itS s rows)) : Calls Try.prog 18 #[v] W (OkB W) := by
  obtain ⟨A, cap, rfl, hR⟩ := h.rin
  exact merges_any W hR (by rw [itS_len]; omega) (fun l hl => by have := itR_in s rows l hl; omega)
theorem items_w (rows : List (List Int)) (A : Option Addr) (cap n : Nat) (w : World) (hn : rows.length = n) (h : RowRd w A cap rows) (s : Bool) (W : World) (hW : Below w.heap.size w W) : Calls Try.prog 19 #[.slice A n cap, .bool s] W (ItPost s rows W) := by
  subst hn
  exact items_any s W (h.later hW) h.wf
set_option maxRecDepth 100000 in
set_option maxHeartbeats 4000000 in
theorem sm_walk (A0 : Option Addr) (cap0 : Nat) (l0 : List (List Int)) (w : World) (h : RowRd w A0 cap0 l0) : Calls Try.prog 6 #[.slice A0 l0.length cap0] w fun e w' => e = .returned (.bool true) ∧ Below w.heap.size w w' := by
  obtain ⟨n, hn⟩ : ∃ n, l0.length = n := ⟨_, rfl⟩
  have HI := Lib.hid (items_w l0 A0 cap0 n w hn h)
  have HM := Lib.hid (fun s W v vs B (h : Own2M B W v vs (itS s l0)) => merges_own s l0 W v vs B h)
  have HA := Lib.hid awake_any
  rw [hn]
  clear h hn
  go_enter Try.func6, Try.ntmps6
  go_wp2_with (first
    | (go_at_call 9; (with_reducible refine (HA.out _).mono ?_); rintro e w1 ⟨rfl, hB1⟩; have HB1 := Lib.hid hB1; clear hB1)
    | (go_at_call 19; (with_reducible refine (HI.out _ _ HB1.out).mono ?_); rintro e w2 ⟨v2, vs2, rfl, hO2, hB2⟩; have HB2 := Lib.hid (HB1.out.trans (hB2.mono HB1.out.size)); have HO2 := Lib.hid hO2; clear hO2 hB2)
    | (go_at_call 18; (with_reducible refine (HM.out _ _ _ _ _ HO2.out).mono ?_); rintro e w3 ⟨rfl, hB3⟩; have HB3 := Lib.hid (HB2.out.trans (hB3.mono HB2.out.size)); clear hB3)
    | (go_at_call 19; (with_reducible refine (HI.out _ _ HB3.out).mono ?_); rintro e w4 ⟨v4, vs4, rfl, hO4, hB4⟩; have HB4 := Lib.hid (HB3.out.trans (hB4.mono HB3.out.size)); have HO4 := Lib.hid hO4; clear hO4 hB4)
    | (go_at_call 18; (with_reducible refine (HM.out _ _ _ _ _ HO4.out).mono ?_); rintro e w5 ⟨rfl, hB5⟩; have HB5 := Lib.hid (HB4.out.trans (hB5.mono HB4.out.size)); clear hB5))
  go_ret
  exact ⟨rfl, HB5.out⟩
end Go.Proofs.Ytnplbmbbocffbaa
/- Rows in order are merged into one. -/
namespace Go.Proofs.Ytnplbmbbocffbaa
set_option linter.unusedVariables false
set_option linter.unusedSimpArgs false
def lx (a b : Int × Int) : Prop := a.1 < b.1 ∨ (a.1 = b.1 ∧ a.2 < b.2)
structure Wl (rs : List (List (Int × Int))) : Prop where
  row : ∀ l ∈ rs, l.Pairwise lx
  crs : rs.Pairwise (fun a b => ∀ x ∈ a, ∀ y ∈ b, x.2 < y.2)
theorem Wl.tail {l : List (Int × Int)} {rs : List (List (Int × Int))} (h : Wl (l :: rs)) : Wl rs := ⟨fun a ha => h.row a (List.mem_cons_of_mem _ ha), (List.pairwise_cons.1 h.crs).2⟩
structure PickOk (rs : List (List (Int × Int))) (x : Int × Int) (rs' : List (List (Int × Int))) : Prop where
  wl : Wl rs'
  lt : ∀ l ∈ rs', ∀ z ∈ l, lx x z
  old : ∀ l ∈ rs, ∀ z ∈ l, z = x ∨ ∃ l' ∈ rs', z ∈ l'
  new : ∀ l' ∈ rs', ∀ z ∈ l', ∃ l ∈ rs, z ∈ l
  me : ∃ l ∈ rs, x ∈ l
theorem pick_lx : ∀ (rs : List (List (Int × Int))) (x : Int × Int) (rs' : List (List (Int × Int))), Wl rs → pick keyM rs = some (x, rs') → PickOk rs x rs'
  | [], x, rs', _, h => by simp [pick] at h
  | [] :: t, x, rs', hw, h => by
    rw [pick, Option.map_eq_some_iff] at h
    obtain ⟨⟨y, q⟩, h1, h2⟩ := h
    simp only [Prod.mk.injEq] at h2
    obtain ⟨rfl, rfl⟩ := h2
    have ih := pick_lx t _ _ hw.tail h1
    refine ⟨⟨fun l hl => ?_, List.pairwise_cons.2 ⟨fun b _ x hx => by simp at hx, ih.wl.crs⟩⟩, fun l hl z hz => ?_, fun l hl z hz => ?_, fun l hl z hz => ?_, ?_⟩
    · rcases List.mem_cons.1 hl with rfl | hl
      · exact List.Pairwise.nil
      · exact ih.wl.row l hl
    · rcases List.mem_cons.1 hl with rfl | hl
      · simp at hz
      · exact ih.lt l hl z hz
    · rcases List.mem_cons.1 hl with rfl | hl
      · simp at hz
      · rcases ih.old l hl z hz with h | ⟨l', h, h'⟩
        · exact .inl h
        · exact .inr ⟨l', List.mem_cons_of_mem _ h, h'⟩
    · rcases List.mem_cons.1 hl with rfl | hl
      · simp at hz
      · obtain ⟨l', h, h'⟩ := ih.new l hl z hz
        exact ⟨l', List.mem_cons_of_mem _ h, h'⟩
    · obtain ⟨l', h, h'⟩ := ih.me
      exact ⟨l', List.mem_cons_of_mem _ h, h'⟩
  | (a :: ar) :: t, x, rs', hw, h => by
    rw [pick] at h
    have hrow := List.pairwise_cons.1 (hw.row _ (List.mem_cons_self))
    have hcrs := List.pairwise_cons.1 hw.crs
    cases hp : pick keyM t with
    | none =>
      rw [hp] at h
      simp only [Option.some.injEq, Prod.mk.injEq] at h
      obtain ⟨rfl, rfl⟩ := h
      have hem : ∀ l ∈ t, ∀ z ∈ l, False := fun l hl z hz => by
        have h1 := (pick_none keyM t).1 hp
        have : l ∈ fil t := List.mem_filter.2 ⟨hl, by cases l with | nil => simp at hz | cons _ _ => rfl⟩
        rw [h1] at this
        simp at this
      refine ⟨⟨fun l hl => ?_, List.pairwise_cons.2 ⟨fun b hb u hu y hy => (hem b hb y hy).elim, hcrs.2⟩⟩, fun l hl z hz => ?_, fun l hl z hz => ?_, fun l hl z hz => ?_, ⟨_, List.mem_cons_self, List.mem_cons_self⟩⟩
      · rcases List.mem_cons.1 hl with rfl | hl
        · exact hrow.2
        · exact hw.row l (List.mem_cons_of_mem _ hl)
      · rcases List.mem_cons.1 hl with rfl | hl
        · exact hrow.1 z hz
        · exact (hem l hl z hz).elim
      · rcases List.mem_cons.1 hl with rfl | hl
        · rcases List.mem_cons.1 hz with rfl | hz
          · exact .inl rfl
          · exact .inr ⟨ar, List.mem_cons_self, hz⟩
        · exact (hem l hl z hz).elim
      · rcases List.mem_cons.1 hl with rfl | hl
        · exact ⟨_, List.mem_cons_self, List.mem_cons_of_mem _ hz⟩
        · exact (hem l hl z hz).elim
    | some p =>
      obtain ⟨y, q⟩ := p
      rw [hp] at h
      simp only at h
      have ih := pick_lx t y q hw.tail hp
      split at h
      · rename_i hlt
        simp only [Option.some.injEq, Prod.mk.injEq] at h
        obtain ⟨rfl, rfl⟩ := h
        have hlt' : y.1 < a.1 := hlt
        refine ⟨⟨fun l hl => ?_, List.pairwise_cons.2 ⟨fun b hb u hu z hz => ?_, ih.wl.crs⟩⟩, fun l hl z hz => ?_, fun l hl z hz => ?_, fun l hl z hz => ?_, ?_⟩
        · rcases List.mem_cons.1 hl with rfl | hl
          · exact hw.row _ (List.mem_cons_self)
          · exact ih.wl.row l hl
        · obtain ⟨l', h1, h2⟩ := ih.new b hb z hz
          exact hcrs.1 l' h1 u hu z h2
        · rcases List.mem_cons.1 hl with rfl | hl
          · rcases List.mem_cons.1 hz with rfl | hz
            · exact .inl hlt'
            · have := hrow.1 z hz
              unfold lx at this
              exact .inl (by omega)
          · exact ih.lt l hl z hz
        · rcases List.mem_cons.1 hl with rfl | hl
          · exact .inr ⟨_, List.mem_cons_self, hz⟩
          · rcases ih.old l hl z hz with h | ⟨l', h, h'⟩
            · exact .inl h
            · exact .inr ⟨l', List.mem_cons_of_mem _ h, h'⟩
        · rcases List.mem_cons.1 hl with rfl | hl
          · exact ⟨_, List.mem_cons_self, hz⟩
          · obtain ⟨l', h, h'⟩ := ih.new l hl z hz
            exact ⟨l', List.mem_cons_of_mem _ h, h'⟩
        · obtain ⟨l', h, h'⟩ := ih.me
          exact ⟨l', List.mem_cons_of_mem _ h, h'⟩
      · rename_i hlt
        simp only [Option.some.injEq, Prod.mk.injEq] at h
        obtain ⟨rfl, rfl⟩ := h
        have hlt' : ¬ y.1 < a.1 := hlt
        refine ⟨⟨fun l hl => ?_, List.pairwise_cons.2 ⟨fun b hb u hu z hz => hcrs.1 b hb u (List.mem_cons_of_mem _ hu) z hz, hcrs.2⟩⟩, fun l hl z hz => ?_, fun l hl z hz => ?_, fun l hl z hz => ?_, ⟨_, List.mem_cons_self, List.mem_cons_self⟩⟩
        · rcases List.mem_cons.1 hl with rfl | hl
          · exact hrow.2
          · exact hw.row l (List.mem_cons_of_mem _ hl)
        · rcases List.mem_cons.1 hl with rfl | hl
          · exact hrow.1 z hz
          · have h1 := hcrs.1 l hl a List.mem_cons_self z hz
            rcases ih.old l hl z hz with rfl | ⟨l', h, h'⟩
            · unfold lx; omega
            · have := ih.lt l' h z h'
              unfold lx at this ⊢
              omega
        · rcases List.mem_cons.1 hl with rfl | hl
          · rcases List.mem_cons.1 hz with rfl | hz
            · exact .inl rfl
            · exact .inr ⟨ar, List.mem_cons_self, hz⟩
          · exact .inr ⟨l, List.mem_cons_of_mem _ hl, hz⟩
        · rcases List.mem_cons.1 hl with rfl | hl
          · exact ⟨_, List.mem_cons_self, List.mem_cons_of_mem _ hz⟩
          · exact ⟨l, List.mem_cons_of_mem _ hl, hz⟩
theorem mrg_lx : ∀ (n : Nat) (rs : List (List (Int × Int))), tot rs ≤ n → Wl rs → (mrg keyM rs).Pairwise lx ∧ ∀ z ∈ mrg keyM rs, ∃ l ∈ rs, z ∈ l := by
  intro n
  induction n with
  | zero =>
    intro rs hn hw
    cases h : pick keyM rs with
    | none => rw [mrg_none keyM h]; exact ⟨List.Pairwise.nil, by simp⟩
    | some p => have := pick_tot keyM rs p.1 p.2 h; omega
  | succ n ih =>
    intro rs hn hw
    cases h : pick keyM rs with
    | none => rw [mrg_none keyM h]; exact ⟨List.Pairwise.nil, by simp⟩
    | some p =>
      obtain ⟨x, r⟩ := p
      have hp := pick_lx rs x r hw h
      have ht := pick_tot keyM rs x r h
      obtain ⟨i1, i2⟩ := ih r (by omega) hp.wl
      rw [mrg_some keyM h]
      refine ⟨List.pairwise_cons.2 ⟨fun z hz => ?_, i1⟩, fun z hz => ?_⟩
      · obtain ⟨l, h1, h2⟩ := i2 z hz
        exact hp.lt l h1 z h2
      · rcases List.mem_cons.1 hz with rfl | hz
        · exact hp.me
        · obtain ⟨l, h1, h2⟩ := i2 z hz
          exact hp.new l h1 z h2
theorem half_mono (l : List Int) (j k : Nat) (h : j ≤ k) : half (l.take j) ≤ half (l.take k) := by
  obtain ⟨d, rfl⟩ : ∃ d, k = j + d := ⟨k - j, by omega⟩
  rw [List.take_add]
  have e : ∀ a b : List Int, half (a ++ b) = half a + half b := fun a b => by simp [half]
  rw [e]
  have := (half_bd ((l.drop j).take d)).1
  omega
theorem itR_wl (i : Nat) (l : List Int) : (itR true i l).Pairwise lx := by
  refine List.pairwise_iff_getElem.2 fun j k hj hk hjk => ?_
  have hj' : j < l.length := by rwa [itR_len] at hj
  have hk' : k < l.length := by rwa [itR_len] at hk
  have e1 := itR_get true i l j hj'
  have e2 := itR_get true i l k hk'
  rw [List.getElem?_eq_getElem hj] at e1
  rw [List.getElem?_eq_getElem hk] at e2
  rw [Option.some.inj e1, Option.some.inj e2]
  have h1 : itK true l j = half (l.take (j + 1)) := by rw [itK, if_pos rfl]
  have h2 : itK true l k = half (l.take (k + 1)) := by rw [itK, if_pos rfl]
  have h3 := half_mono l (j + 1) (k + 1) (by omega)
  unfold lx
  simp only [h1, h2]
  omega
theorem itR_mem (s : Bool) (i : Nat) (l : List Int) (z : Int × Int) (hz : z ∈ itR s i l) : ∃ k : Nat, k < l.length ∧ z = (itK s l k, (10 * i + k : Int)) := by
  obtain ⟨k, hk, rfl⟩ := List.getElem_of_mem hz
  have hk' : k < l.length := by rwa [itR_len] at hk
  have e1 := itR_get s i l k hk'
  rw [List.getElem?_eq_getElem hk] at e1
  exact ⟨k, hk', Option.some.inj e1⟩
theorem itS_at (s : Bool) (rows : List (List Int)) (i : Nat) (h : i < (itS s rows).length) : ∃ l, (itS s rows)[i] = itR s i l ∧ l.length ≤ 8 := by
  have hr : i < rows.length ∧ i < 8 := by rw [itS_len] at h; omega
  have h1 := itS_get s rows i rows[i] (List.getElem?_eq_getElem hr.1) hr.2
  rw [List.getElem?_eq_getElem h] at h1
  exact ⟨_, Option.some.inj h1, by rw [List.length_take]; omega⟩
theorem itS_wl (rows : List (List Int)) : Wl (itS true rows) := by
  refine ⟨fun l hl => ?_, List.pairwise_iff_getElem.2 fun i j hi hj hij x hx y hy => ?_⟩
  · obtain ⟨i, hi, rfl⟩ := List.getElem_of_mem hl
    obtain ⟨l', e, _⟩ := itS_at true rows i hi
    rw [e]
    exact itR_wl i l'
  · obtain ⟨l1, e1, h1⟩ := itS_at true rows i hi
    obtain ⟨l2, e2, h2⟩ := itS_at true rows j hj
    rw [e1] at hx
    rw [e2] at hy
    obtain ⟨k1, a1, rfl⟩ := itR_mem _ _ _ _ hx
    obtain ⟨k2, a2, rfl⟩ := itR_mem _ _ _ _ hy
    simp only
    omega
theorem itS_pos (rows : List (List Int)) : ∀ l ∈ itS true rows, ∀ z ∈ l, 0 ≤ z.1 := fun l hl z hz => by
  obtain ⟨i, hi, rfl⟩ := List.getElem_of_mem hl
  obtain ⟨l', e, _⟩ := itS_at true rows i hi
  rw [e] at hz
  obtain ⟨k, _, rfl⟩ := itR_mem _ _ _ _ hz
  rw [itK, if_pos rfl]
  exact (half_bd _).1
def lastOf (pre : List (Int × Int)) : Int × Int := (pre.getLast?).getD (-1, 0)
theorem lastOf_snoc (pre : List (Int × Int)) (x : Int × Int) : lastOf (pre ++ [x]) = x := by simp [lastOf]
theorem srt_step {rows : List (List Int)} {pre r : List (Int × Int)} {x : Int × Int} (h : mrg keyM (itS true rows) = pre ++ x :: r) : ¬ x.1 < (lastOf pre).1 ∧ (x.1 = (lastOf pre).1 → ¬ x.2 ≤ (lastOf pre).2) := by
  obtain ⟨h1, h2⟩ := mrg_lx _ (itS true rows) (Nat.le_refl _) (itS_wl rows)
  rw [h] at h1 h2
  have h0 : 0 ≤ x.1 := by
    obtain ⟨l, a, b⟩ := h2 x (by simp)
    exact itS_pos rows l a x b
  rcases List.eq_nil_or_concat pre with rfl | ⟨q, y, rfl⟩
  · simp [lastOf]
    omega
  · rw [List.concat_eq_append, lastOf_snoc]
    rw [List.concat_eq_append] at h1
    have h3 := (List.pairwise_append.1 h1).2.2 y (by simp) x (by simp)
    unfold lx at h3
    omega
end Go.Proofs.Ytnplbmbbocffbaa
/- StreamSorted: the walk. -/
namespace Go.Proofs.Ytnplbmbbocffbaa
open Go.RowKit Go.Shelf
set_option linter.unusedVariables false
set_option linter.unusedSimpArgs false
attribute [local go_sem] Oper.semAt_some
structure So0 (w : World) (c2 c8 c9 : Nat) (la : Int × Int) (k : Nat) (V : World) : Prop where
  b2 : Boxed V c2 4 (.bool false)
  b8 : V.heap[c8]? = some (.cells #[.int .i64 la.1, .int .i64 la.2] 54 (0, 0))
  b9 : Boxed V c9 3 (.int .i64 (k : Int))
  bel : Below w.heap.size w V
theorem So0.own {w : World} {c2 c8 c9 : Nat} {la : Int × Int} {k : Nat} {W W' : World} {row : Option Nat} {B : Nat} (h : So0 w c2 c8 c9 la k W) (hB : w.heap.size ≤ B) (hg : W.grownBy W' row) (hr : ∀ r, row = some r → B ≤ r ∧ ∃ o : Obj, W.heap[r]? = some o ∧ o.isCells = false) : So0 w c2 c8 c9 la k W' :=
  ⟨boxed_kept h.b2 hg (fun r e => (hr r e).2), (grownBy_keeps_cells hg (fun r e => (hr r e).2) h.b8 rfl).trans h.b8, boxed_kept h.b9 hg (fun r e => (hr r e).2), h.bel.grown hg h.bel.size (fun q e => by have := (hr q e).1; omega)⟩
theorem So0.keptT {w : World} {c2 c8 c9 : Nat} {la : Int × Int} {k : Nat} {W W' : World} {B : Nat} (h : So0 w c2 c8 c9 la k W) (hk : KeptT 56 B W W') (hB : w.heap.size ≤ B) : So0 w c2 c8 c9 la k W' :=
  ⟨hk.box h.b2 (by decide), (hk.block c8 (Array.getElem?_eq_some_iff.1 h.b8).1 (fun cs fr hc => by rw [h.b8] at hc; simp only [Option.some.injEq, Obj.cells.injEq] at hc; exact absurd hc.2.1 (by decide))).trans h.b8, hk.box h.b9 (by decide), h.bel.trans ((hk.mono hB).bel h.bel.size)⟩
theorem heap_set2 {W : World} {c : Nat} {a b a' b' : Value} {T : TypeId} (h : W.heap[c]? = some (.cells #[a, b] T (0, 0))) : ((W.setCell ⟨c, 0, none⟩ a').setCell ⟨c, 1, none⟩ b').heap[c]? = some (.cells #[a', b'] T (0, 0)) := by
  have h1 := heap_setCell_same W c 0 #[a, b] T a' h
  have h2 := heap_setCell_same (W.setCell ⟨c, 0, none⟩ a') c 1 _ T b' h1
  simpa using h2
theorem So0.step {w : World} {c2 c8 c9 : Nat} {la x : Int × Int} {k : Nat} {V : World} (h : So0 w c2 c8 c9 la k V) (h28 : c2 ≠ c8) (h29 : c2 ≠ c9) (h89 : c8 ≠ c9) (h8 : w.heap.size ≤ c8) (h9 : w.heap.size ≤ c9) :
    So0 w c2 c8 c9 x (k + 1) (((V.setCell ⟨c8, 0, none⟩ (.int .i64 x.1)).setCell ⟨c8, 1, none⟩ (.int .i64 x.2)).setCell ⟨c9, 0, none⟩ (.int .i64 ((k : Int) + 1))) :=
  ⟨box_set (box_set (box_set h.b2 h28 _ _) h28 _ _) h29 _ _, (Below.heap_setCell _ _ _ _ h89).trans (heap_set2 h.b8), Boxed.set _ (box_set (box_set h.b9 (Ne.symm h89) _ _) (Ne.symm h89) _ _),
    ((h.bel.setCell (p := ⟨c8, 0, none⟩) h8 _).setCell (p := ⟨c8, 1, none⟩) h8 _).setCell (p := ⟨c9, 0, none⟩) h9 _⟩
theorem tot_take {α : Type} (rs : List (List α)) (k : Nat) (l : List α) (h : rs[k]? = some l) : tot (rs.take (k + 1)) = tot (rs.take k) + l.length := by
  rw [take_one h]; simp [tot]
theorem tot_take_le {α : Type} (rs : List (List α)) (k : Nat) : tot (rs.take k) ≤ tot rs := by
  have e : tot (rs.take k ++ rs.drop k) = tot (rs.take k) + tot (rs.drop k) := by rw [tot, tot, tot, List.map_append, List.sum_append]
  rw [List.take_append_drop] at e
  omega
theorem items_len (s : Bool) (rows : List (List Int)) : tot (itS s rows) ≤ 800 := by
  have h1 := tot_le (itS s rows) (fun l hl => by have := itR_in s rows l hl; omega)
  rw [itS_len] at h1
  omega
set_option maxRecDepth 100000 in
set_option maxHeartbeats 8000000 in
theorem so_walk (A0 : Option Addr) (cap0 : Nat) (l0 : List (List Int)) (w : World) (h : RowRd w A0 cap0 l0) : Calls Try.prog 7 #[.slice A0 l0.length cap0] w fun e w' => e = .returned (.bool true) ∧ Below w.heap.size w w' := by
  have hfn := run_eql_nilM
  obtain ⟨n0, hn0⟩ : ∃ n, l0.length = n := ⟨_, rfl⟩
  have HI := Lib.hid (items_w l0 A0 cap0 n0 w hn0 h)
  have HA := Lib.hid awake_any
  have HLEN := Lib.hid (mrg_len keyM _ (itS true l0) (Nat.le_refl _))
  have HTT := Lib.hid (items_len true l0)
  have HMF := Lib.hid (mrg_fil keyM (itS true l0))
  have HL8 : Hid ((itS true l0).length ≤ 8 ∧ ∀ l ∈ itS true l0, l.length ≤ 8) := Lib.hid ⟨by rw [itS_len]; omega, itR_in true l0⟩
  rw [hn0]
  clear h hn0
  have hb0 : Below w.heap.size w (w.alloc (.cells #[.bool false] 4)) := (Below.refl _ _).alloc (Nat.le_refl _) _
  have HX0 := Lib.hid (Boxed.new w 4 (.bool false))
  generalize hW0 : w.alloc (.cells #[.bool false] 4) = W0 at *
  have HB0 := Lib.hid hb0
  clear hb0
  refine (callsIn_wide (n := 9)).1 ?_
  refine callsIn_of_wp_marks Try.func7 rfl trivial ?_ rfl
  simp only [Try.ntmps7, List.size_toArray, List.length_cons, List.length_nil, Nat.reduceAdd, Nat.reduceSub, Array.replicate_succ, Array.replicate_zero, List.push_toArray, List.append_toArray, List.nil_append, List.cons_append]
  gi_upto_region 3 with (first
    | (refine ⟨trivial, ?_⟩; gi_at_call 9; (with_reducible refine (callsIn_wide.2 (HA.out _)).mono ?_); rintro e w1 ⟨rfl, hB1⟩; have HB1 := Lib.hid (HB0.out.trans (hB1.mono HB0.out.size)); have HX1 : Hid (Boxed w1 w.heap.size 4 (.bool false)) := (Lib.hid ((hB1.block _ HX0.out.lt).trans HX0.out)); clear hB1)
    | (refine ⟨trivial, ?_⟩; gi_at_call 19; (with_reducible refine (callsIn_wide.2 (HI.out true _ HB1.out)).mono ?_); rintro e w2 ⟨v, vs, rfl, hO, hB2⟩; have HB2 := Lib.hid (HB1.out.trans (hB2.mono HB1.out.size)); have HX2 : Hid (Boxed w2 w.heap.size 4 (.bool false)) := (Lib.hid ((hB2.block _ HX1.out.lt).trans HX1.out)); have HO := Lib.hid hO; obtain ⟨Ai, ci, rfl, hRI⟩ := hO.rin; have HRI := Lib.hid hRI; clear hB2 hO hRI))
  obtain ⟨rs, hrs⟩ : ∃ rs, itS true l0 = rs := ⟨_, rfl⟩
  rw [hrs] at HLEN HTT HMF HRI HL8 ⊢
  have HRS := Lib.hid hrs
  have MM := Lib.hid (mergeM w2 HRI.out (by have := HL8.out.1; omega) (fun l hl => by have := HL8.out.2 l hl; omega))
  obtain ⟨nr, hnr⟩ : ∃ nr, rs.length = nr := ⟨_, rfl⟩
  have HNR := Lib.hid hnr
  rw [hnr] at MM ⊢
  have hnr8 : nr ≤ 8 := by have := HL8.out.1; omega
  clear hrs hnr HO
  gi_upto_region 8 with (refine ⟨trivial, ?_⟩; gi_at_call 20; go_loud (refine (callsIn_wide.2 MM.out).mono ?_; rintro e w3 ⟨b1, b2, rfl, hM, hB3⟩; have HM := Lib.hid hM; have HB3 := Lib.hid hB3; clear hM hB3))
  gi_loopw [6, 7] (fun m i wr => ∃ k : Nat, k ≤ nr ∧ i = .int .i64 (k : Int) ∧ m = .int .i64 ((tot (rs.take k) : Nat) : Int) ∧ wr = w3) (fun _ i _ => nr - (intOf i).toNat)
  case atStart => exact ⟨0, Nat.zero_le _, rfl, rfl, rfl⟩
  case round =>
    obtain ⟨k, hk, rfl, rfl, rfl⟩ := hrel
    by_cases hkn : k < nr
    · obtain ⟨l, hx⟩ : ∃ l, rs[k]? = some l := ⟨rs[k]'(by rw [HNR.out]; exact hkn), List.getElem?_eq_getElem _⟩
      obtain ⟨b, o, u, rfl, e1, hRow⟩ := HRI.out.at_ k l hx
      obtain ⟨A2, c2, rfl, _⟩ := hRow.ex
      have e2 := (HB3.out.cell (p := ⟨b, o + k, none⟩) (World.block_lt_of_cell? w2 _ e1)).trans e1
      have HTK := Lib.hid (tot_take rs k l hx)
      have htl := tot_take_le rs (k + 1)
      have htt := HTT.out
      have hin := HTK.out
      rw [hin] at htl
      have i0 : (0 : Int) ≤ (k : Int) := by omega
      have i1 : (k : Int) < (nr : Int) := by omega
      generalize tot (rs.take k) = tk at *
      generalize l.length = ll at *
      clear hx e1 hRow hin
      gi_wp2
      go_roundw
      case rel => exact ⟨k + 1, by omega, by go_num, by rw [HTK.out]; go_num, by first | rfl | trivial⟩
      case measure => first | (simp [intOf]; done) | (simp [intOf]; omega)
    · obtain rfl : k = nr := by omega
      have htk : rs.take k = rs := List.take_of_length_le (by rw [HNR.out]; exact Nat.le_refl _)
      rw [htk]
      obtain ⟨nt, hnt⟩ : ∃ nt, tot rs = nt := ⟨_, rfl⟩
      rw [hnt] at HLEN HTT ⊢
      clear htk hnt
      gi_wp2
      clear hfn hk
      obtain ⟨W3, hW3, hc8, hc9, hb3⟩ : ∃ W3, (wr.alloc (.cells #[.int .i64 (-1), .int .i64 0] 54)).alloc (.cells #[.int .i64 0] 3) = W3 ∧ W3.heap[wr.heap.size]? = some (.cells #[.int .i64 (-1), .int .i64 0] 54 (0, 0)) ∧ Boxed W3 (wr.heap.size + 1) 3 (.int .i64 0) ∧ Below wr.heap.size wr W3 := by
        refine ⟨_, rfl, ?_, ?_, ((Below.refl _ _).alloc (Nat.le_refl _) _).alloc (by simp) _⟩
        · rw [Below.heap_alloc _ _ _ (by simp)]; exact heap_alloc_new _ _
        · have := Boxed.new (wr.alloc (.cells #[.int .i64 (-1), .int .i64 0] 54)) 3 (.int .i64 0)
          rwa [World.size_alloc] at this
      rw [hW3]
      have hb23 : Below w2.heap.size w2 W3 := HB3.out.trans (hb3.mono HB3.out.size)
      have hBW : Below w.heap.size w W3 := HB2.out.trans (hb23.mono HB2.out.size)
      have I0 : So0 w w.heap.size wr.heap.size (wr.heap.size + 1) (lastOf []) 0 W3 := ⟨(hb23.block _ HX2.out.lt).trans HX2.out, hc8, hc9, hBW⟩
      have hs9 := hc9.lt
      have hw2r : w.heap.size < wr.heap.size := Nat.lt_of_lt_of_le HX2.out.lt HB3.out.size
      have SQ := seqM (9 - 1) (by omega) (X := [wr.heap.size, wr.heap.size + 1]) (HM.out.later hb3) (fun k hk => by simp only [List.mem_cons, List.not_mem_nil, or_false] at hk; omega)
      rw [HMF.out] at SQ
      obtain ⟨L, hL⟩ : ∃ L, mrg keyM rs = L := ⟨_, rfl⟩
      have hSTP : ∀ pre x r, L = pre ++ x :: r → ¬ x.1 < (lastOf pre).1 ∧ (x.1 = (lastOf pre).1 → ¬ x.2 ≤ (lastOf pre).2) := fun pre x r h => srt_step (rows := l0) (by rw [HRS.out, hL]; exact h)
      have hLEN := HLEN.out
      rw [hL] at SQ hLEN
      have HSTP := Lib.hid hSTP
      have HLN := Lib.hid hLEN
      clear hW3 hc8 hc9 hb3 hb23 HM HB2 HB3 HB1 HX2 HX1 MM HX0 hW0 HB0 HRI HI HA HLEN HMF hSTP hLEN hL HRS
      generalize wr.heap.size = c8 at *
      have hW3 := hBW.size
      refine wpIn_named fun frm hfr => ?_
      refine rangeU (vals := fun x : Int × Int => #[.agg #[.int .i64 x.1, .int .i64 x.2]]) (gf := 43) (lb := #[.pointer (some ⟨b1, 0, none⟩), .pointer (some ⟨b2, 0, none⟩)]) (by rw [hfr]; rfl) (enters_of Try.func43 (by kernel_rfl) rfl) SQ (Below.refl _ _) (fun x => rfl)
        (fun pre V => So0 w w.heap.size c8 (c8 + 1) (lastOf pre) pre.length V) (fun _ _ _ => False)
        (fun pre X Y row h hg hr => h.own hW3 hg hr) (fun _ _ _ _ _ h _ _ => h) (fun pre W4 W5 h hk => h.keptT hk hW3) I0
        (fun x a' V => ∃ bx, a' = { tmps := ((frm.tmps.setIfInBounds 33 (.agg #[.int .i64 x.1, .int .i64 x.2])).setIfInBounds 10 (.pointer (some ⟨bx, 0, none⟩))), defers := [] } ∧ V.heap[bx]? = some (.cells #[.int .i64 x.1, .int .i64 x.2] 54 (0, 0)) ∧ bx ≠ c8)
        (fun p X Y row h hg hr => by
          obtain ⟨bx, h1, h2, h3⟩ := h
          exact ⟨bx, h1, (grownBy_keeps_cells hg (fun r e => (hr r e).2) h2 rfl).trans h2, h3⟩)
        ?assign ?body ?done ?stop
      case assign =>
        intro l2 pre x V K hI hK
        subst hfr
        have h8 := (Array.getElem?_eq_some_iff.1 hI.b8).1
        gi_wp2
        have hba : Below V.heap.size V (V.alloc (.cells #[.int .i64 x.1, .int .i64 x.2] 54)) := (Below.refl _ _).alloc (Nat.le_refl _) _
        exact hK _ _ (keepsFrom_below _ hba) (KeepC.below hba) (hI.keptT (KeptT.below hba) hW3) ⟨V.heap.size, rfl, heap_alloc_new _ _, by omega⟩
      case body =>
        rintro l2 pre x r a' V hI ⟨bx, rfl, hbx, hb8⟩ hL
        subst hfr
        have hst := HSTP.out pre x r hL
        have hlL : pre.length < 800 + 1 := by
          have h1 := congrArg List.length hL
          rw [HLN.out, List.length_append, List.length_cons] at h1
          have := HTT.out
          omega
        have c9c := hI.b9.cell
        have c9f := hI.b9.frozen
        have l0' : V.cell? ⟨c8, 0, none⟩ = some (.int .i64 (lastOf pre).1) := by rw [cell_of_row V c8 0 _ _ _ hI.b8]; rfl
        have l1' : V.cell? ⟨c8, 1, none⟩ = some (.int .i64 (lastOf pre).2) := by rw [cell_of_row V c8 1 _ _ _ hI.b8]; rfl
        have f0' : V.frozen? ⟨c8, 0, none⟩ = false := frozen_of_row V c8 0 _ _ hI.b8
        have f1' : V.frozen? ⟨c8, 1, none⟩ = false := frozen_of_row V c8 1 _ _ hI.b8
        have x0 : V.cell? ⟨bx, 0, none⟩ = some (.int .i64 x.1) := by rw [cell_of_row V bx 0 _ _ _ hbx]; rfl
        have x1 : V.cell? ⟨bx, 1, none⟩ = some (.int .i64 x.2) := by rw [cell_of_row V bx 1 _ _ _ hbx]; rfl
        have HI := Lib.hid hI
        have HLx := Lib.hid (show (pre ++ [x]).length = pre.length + 1 ∧ lastOf (pre ++ [x]) = x from ⟨by simp, lastOf_snoc pre x⟩)
        have t1 : decide (x.1 < (lastOf pre).1) = false := decide_eq_false (by have := hst.1; omega)
        have HX2 := Lib.hid hst.2
        clear hI hL hbx hst
        generalize pre.length = m at *
        generalize lastOf pre = la at *
        have fin : ∀ W9, W9 = ((V.setCell ⟨c8, 0, none⟩ (.int .i64 x.1)).setCell ⟨c8, 1, none⟩ (.int .i64 x.2)).setCell ⟨c8 + 1, 0, none⟩ (.int .i64 ((m : Int) + 1)) → KeepsFrom W3.heap.size V W9 ∧ KeepC [c8, c8 + 1] V W9 ∧ So0 w w.heap.size c8 (c8 + 1) (lastOf (pre ++ [x])) (pre ++ [x]).length W9 := by
          rintro W9 rfl
          have hkk : Kept [c8, c8 + 1] V (((V.setCell ⟨c8, 0, none⟩ (.int .i64 x.1)).setCell ⟨c8, 1, none⟩ (.int .i64 x.2)).setCell ⟨c8 + 1, 0, none⟩ (.int .i64 ((m : Int) + 1))) := (((Kept.refl _ V).set c8 0 _ (by simp)).set c8 1 _ (by simp)).set (c8 + 1) 0 _ (by simp)
          refine ⟨keepsFrom_kept _ hkk (fun k hk => ?_), KeepC.kept hkk, ?_⟩
          · simp only [List.mem_cons, List.not_mem_nil, or_false] at hk
            rcases hk with rfl | rfl
            · exact ⟨_, _, _, HI.out.b8⟩
            · exact ⟨_, _, _, HI.out.b9⟩
          · rw [HLx.out.1, HLx.out.2]
            exact HI.out.step (by omega) (by omega) (by omega) (by omega) (by omega)
        have FIN := Lib.hid fin
        clear fin
        have hbc : ¬ c8 = bx := Ne.symm hb8
        by_cases hx : x.1 = la.1
        · have t2 : (x.1 == la.1) = true := by rw [hx]; simp
          have t3 : decide (x.2 ≤ la.2) = false := decide_eq_false (by have := HX2.out hx; omega)
          clear hx
          gi_wp2
          exact FIN.out _ rfl
        · have t2 : (x.1 == la.1) = false := by rw [beq_eq_false_iff_ne]; exact hx
          clear hx
          gi_wp2
          exact FIN.out _ rfl
      case done =>
        rintro D V hD hI hK
        subst hfr
        rw [HLN.out] at hI
        have c9c := hI.b9.cell
        have c2c := hI.b2.cell
        have c2f := hI.b2.frozen
        gi_wp2
        have hb9 := Boxed.set (.bool true) hI.b2
        have hB9 := hI.bel.setCell (p := ⟨w.heap.size, 0, none⟩) (Nat.le_refl _) (.bool true)
        have hK9 : (V.setCell ⟨w.heap.size, 0, none⟩ (.bool true)).heap[D]? = some (.deferred (some [])) := by
          rw [Below.heap_setCell _ _ _ _ (by simp; omega)]
          exact hK
        generalize V.setCell ⟨w.heap.size, 0, none⟩ (.bool true) = V9 at *
        refine ⟨by simp, .inl ⟨_, _, rfl, run_takeDeferred hK9, ?_⟩⟩
        have hc2 : (V9.putObj D (.deferred none)).cell? ⟨w.heap.size, 0, none⟩ = some (.bool true) := by
          rw [← hb9.cell]; simp [World.cell?, World.putObj_heap_other (show w.heap.size ≠ D by omega)]
        refine ⟨.bool true, by simp [results, Try.f7, go_sem, hc2], rfl, hB9.trans (belowK_b (w := w) (Nat.le_refl _) V9 D _ _ (by omega) hK9 rfl rfl)⟩
      case stop =>
        rintro D c pre x r V hD hL h hK
        exact h.elim
end Go.Proofs.Ytnplbmbbocffbaa
