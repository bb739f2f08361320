/- Texts about the program, one after the other: FewE, ELaw, EPrR, EPin, KResp, KTrc, ERf. -/
import Derived.Test.YtngmaiiibinkaaaJArr
import Derived.Test.YtngmaiiibinkaaaG1
import Derived.Test.YtngmaiiibinkaaaG2
import Derived.Test.YtngmaiiibinkaaaRDec
import Derived.Test.YtngmaiiibinkaaaJRead
import Derived.Test.YtngmaiiibinkaaaSet
/- The law's few raw jobs. -/
namespace Go.Proofs.Ytngmaiiibinkaaa
open Go.RowKit
set_option linter.unusedVariables false
set_option linter.unusedSimpArgs false

def fewES1 (r : Fv) : Fv := { r with a := r.a % 12, c := r.c.take 5 }
def fewES (rs : List Fv) : List Fv := (rs.take 8).map fewES1
def fewESPost (rs : List Fv) (w : World) (e : Ending) (w' : World) : Prop := ∃ v gs, e = .returned v ∧ FOwn 58 w.heap.size w' v gs ∧ gs.map (·.x) = fewES rs ∧ Below w.heap.size w w'
structure fewESIn (w wr : World) (v : Value) (rs : List Fv) : Prop where
  own : ∃ gs, FOwn 58 w.heap.size wr v gs ∧ gs.map (·.x) = rs.map fewES1
  bel : Below w.heap.size w wr
set_option maxRecDepth 100000 in
set_option maxHeartbeats 8000000 in
theorem fewE_any (R : Option Addr) (rc : Nat) (rs : List Fv) (w : World) (hR : FRow w R rc rs) :
    Calls Try.prog 7 #[.slice R rs.length rc, .int .i64 8] w (fewESPost rs w) := by
  obtain ⟨i0, hi, hz0, hz1, hz2⟩ := info_parts infoRs
  have hle := hR.le
  have hmx := hR.mx
  have RAW := Lib.hid hR
  clear hR
  go_enter Try.func7, Try.ntmps7
  go_wp2
  go_loopw [5, 6] (fun v i wr => ∃ k : Nat, k ≤ min rs.length 8 ∧ i = .int .i64 k ∧ Hid (fewESIn w wr v (rs.take k))) (fun _ i _ => 8 - (intOf i).toNat)
  case atStart => exact ⟨0, Nat.zero_le _, rfl, Lib.hid ⟨⟨[], FOwn.nil _ _ _, rfl⟩, Below.refl _ _⟩⟩
  case round =>
    obtain ⟨k, hk, rfl, hI⟩ := hrel
    have hk1 : k ≤ rs.length := by omega
    have hk2 : k ≤ 8 := by omega
    by_cases hlt : k < rs.length ∧ k < 8
    · obtain ⟨hl1, hl2⟩ := hlt
      obtain ⟨rb, ro, x, C, cc, rfl, hx, hrb, hF0⟩ := RAW.out.get (k := k) (by omega)
      have hF := hF0.later hI.out.bel
      have c0 := hF.c0
      have c1 := hF.c1
      have c2 := hF.c2
      have c3 := hF.c3
      have c4 := hF.c4
      have g1 : decide ((k : Int) < (rs.length : Int)) = true := decide_eq_true (by omega)
      have g2 : decide ((k : Int) < 8) = true := decide_eq_true (by omega)
      have g2' : decide (k < 8) = true := decide_eq_true (by omega)
      have hi0 : (0 : Int) ≤ (k : Int) := by omega
      have hi1 : (k : Int) < (rs.length : Int) := by omega
      obtain ⟨gs, hG, hgs⟩ := hI.out.own
      have hgl : gs.length = k := by
        have := congrArg List.length hgs
        rw [List.length_map, List.length_map, List.length_take] at this
        omega
      have hlc := hF.s.le
      have hmc := hF.s.mx
      have HSF : Hid (Safe 58 w.heap.size w C x.c) := Lib.hid (fun hne a ha => by
        obtain ⟨b, o, n, hA, _, _, hbl, _⟩ := hF0.s.get (k := 0) (by rcases Nat.eq_zero_or_pos x.c.length with h0 | h0; exact absurd (List.length_eq_zero_iff.1 h0) hne; exact h0)
        rw [ha] at hA
        cases hA
        exact .inl hbl)
      have hgb := emod_bd x.a 12 (by omega)
      have HGB := Lib.hid hgb
      have KR0 := fun W => r8rest_any x.a 12 W hF.wf.a (by omega) (by omega)
      obtain ⟨ga, hga⟩ : ∃ ga, x.a % 12 = ga := ⟨_, rfl⟩
      have KR1 := KR0
      rw [hga] at KR1
      have KR := Lib.hid KR1
      have HGA0 := Lib.hid hga
      clear hgb KR0 KR1 hga
      have HX := Lib.hid hx
      have HF := Lib.hid hF
      have HG := Lib.hid hG
      have HGA := Lib.hid hG
      have HGS := Lib.hid hgs
      have HGL := Lib.hid hgl
      have HBW := Lib.hid hI.out.bel
      clear hF hF0 hx hG hgs hgl hI
      go_upto_region 6 with (fail)
      have F1 := Lib.hid (FB.new wr 58 (.int .i64 x.t) (.int .i64 x.a) (.int .i64 x.r) (.int .i64 x.k) (.slice C x.c.length cc))
      have B1 : Hid (Below wr.heap.size wr (wr.alloc (.cells #[.int .i64 x.t, .int .i64 x.a, .int .i64 x.r, .int .i64 x.k, .slice C x.c.length cc] 58))) := Lib.hid ((Below.refl _ _).alloc (Nat.le_refl _) _)
      generalize (wr.alloc (.cells #[.int .i64 x.t, .int .i64 x.a, .int .i64 x.r, .int .i64 x.k, .slice C x.c.length cc] 58)) = W1 at *
      obtain ⟨bx, hbx⟩ : ∃ bx, bx = wr.heap.size := ⟨_, rfl⟩
      have F1 : Hid (FB W1 bx 58 (.int .i64 x.t) (.int .i64 x.a) (.int .i64 x.r) (.int .i64 x.k) (.slice C x.c.length cc)) := by rw [hbx]; exact F1
      have HBX : Hid (wr.heap.size ≤ bx) := Lib.hid (by rw [hbx]; exact Nat.le_refl _)
      rw [← hbx]
      clear c0 c1 c2 c3 c4 hbx
      obtain ⟨z0, z1, z2, z3, z4⟩ := F1.out.z
      have y1 := F1.out.fz 1
      go_upto_region 7 with (go_at_call 15; (with_reducible refine (KR.out _).mono ?_); rintro e w2 ⟨rfl, rfl⟩)
      have F2 := Lib.hid (F1.out.set (i := 1) (.int .i64 ga) rfl)
      have B2 : Hid (Below wr.heap.size wr (W1.setCell ⟨bx, 1, none⟩ (.int .i64 ga))) := Lib.hid (B1.out.setCell (p := ⟨bx, 1, none⟩) HBX.out _)
      generalize W1.setCell ⟨bx, 1, none⟩ (.int .i64 ga) = W2 at *
      clear z0 z1 z2 z3 z4 y1
      obtain ⟨z0, z1, z2, z3, z4⟩ := F2.out.z
      have y1 := F2.out.fz 1
      by_cases hlong : 5 < x.c.length
      · have g5 : decide ((x.c.length : Int) > 5) = true := decide_eq_true (by omega)
        have g5' : decide (5 < x.c.length) = true := decide_eq_true hlong
        have hc6 : (5 : Int) ≤ (cc : Int) := by omega
        have hcz : cc ≠ 0 := by omega
        have y4 := F2.out.fz 4
        have HCL : Hid (x.c.take 5 = x.c.take 5) := Lib.hid rfl
        have hc66 : (x.c.take 5).length = 5 := by rw [List.length_take]; omega
        have HC66 := Lib.hid hc66
        clear hc66
        go_upto_region 9 with (fail)
        have F3 := Lib.hid (F2.out.set (i := 4) (.slice C 5 cc) rfl)
        have B3 : Hid (Below wr.heap.size wr (W2.setCell ⟨bx, 4, none⟩ (.slice C 5 cc))) := Lib.hid (B2.out.setCell (p := ⟨bx, 4, none⟩) HBX.out _)
        generalize W2.setCell ⟨bx, 4, none⟩ (.slice C 5 cc) = W3 at *
        clear z0 z1 z2 z3 z4 y1 y4
        have G3 : Hid (GOk 58 w.heap.size W3 ⟨⟨x.t, ga, x.r, x.k, x.c.take 5⟩, C, cc⟩) := Lib.hid ⟨⟨HF.out.wf.t, ⟨by show _ ≤ ga; have := HGB.out; have := HGA0.out; omega, by show ga ≤ _; have := HGB.out; have := HGA0.out; omega⟩, HF.out.wf.r, HF.out.wf.k⟩, (HF.out.s.later B3.out).take 5, fun hne a ha => by
          rcases HSF.out (by intro h0; rw [h0] at hne; exact hne (by simp)) a ha with h1 | ⟨cs, T, fr, h1, h2⟩
          · exact .inl h1
          · exact .inl (by have := (Array.getElem?_eq_some_iff.1 h1).1; exact this)⟩
        obtain ⟨z0, z1, z2, z3, z4⟩ := F3.out.z
        have hO := G3.out
        have HFA := Lib.hid (fun j u hu => by
          have := (FAt.new W3 ⟨x.t, ga, x.r, x.k, x.c.take 5⟩ C cc 58 hO.wf hO.s).r j u hu
          rw [Nat.zero_add] at this
          rw [add_none, Nat.zero_add]
          simp only [HC66.out] at this
          exact this : ∀ j u, (fvL ⟨x.t, ga, x.r, x.k, x.c.take 5⟩ C cc)[j]? = some u → (W3.alloc (.cells #[.int .i64 x.t, .int .i64 ga, .int .i64 x.r, .int .i64 x.k, .slice C 5 cc] 58)).cell? ((⟨W3.heap.size, 0, none⟩ : Addr).add j) = some u)
        have HG2 := Lib.hid (HGA.out.later B3.out)
        clear hO
        go_wp2_with (refine wpList_append_own _ rfl _ _ 23 rfl w.heap.size 58 i0 _ 5 56 Try.underlying23 hi hz0 hz1 hz2 rfl (by decide) _ gs.length (gvC gs) rfl (HG2.out.row.alloc _) ⟨W3.heap.size, 0, none⟩ 1 1 (fvL ⟨x.t, ga, x.r, x.k, x.c.take 5⟩ C cc) rfl rfl HFA.out (fvL_one _ _ _) (by have := HGL.out; unfold maxLen; omega) (by have := HGL.out; omega) (by have := HBW.out.size; have := B3.out.size; simp; omega) ?_; intro v' w8 hown' hgrow hnil')
        go_roundw
        case rel =>
          have ba : Below W3.heap.size W3 (W3.alloc (.cells #[.int .i64 x.t, .int .i64 ga, .int .i64 x.r, .int .i64 x.k, .slice C 5 cc] 58)) := (Below.refl _ _).alloc (Nat.le_refl _) _
          have hG8 := (HG2.out.later ba).push (G3.out.kept fun b hl _ => ba.block b hl) hown' hgrow
          have hB2 := HBW.out.trans (B3.out.mono HBW.out.size)
          have hL8 : Below w.heap.size w w8 := (hB2.trans (ba.mono hB2.size)).grown hgrow (by have := hB2.size; simp; omega) (fun q hq => (HG2.out.row.lt q hq).1)
          refine ⟨k + 1, by omega, by go_num, Lib.hid ⟨⟨_, hG8, ?_⟩, hL8⟩⟩
          rw [take_one HX.out, List.map_append, List.map_append, HGS.out]
          simp [fewES1, HCL.out, HGA0.out]
        case measure => simp [intOf]; omega
      · have g5 : decide ((x.c.length : Int) > 5) = false := decide_eq_false (by omega)
        have g5' : decide (5 < x.c.length) = false := decide_eq_false hlong
        have HCL : Hid (x.c.take 5 = x.c) := Lib.hid (List.take_of_length_le (by omega))
        go_upto_region 9 with (fail)
        have F3 := F2
        have B3 := B2
        clear z0 z1 z2 z3 z4 y1
        have G3 : Hid (GOk 58 w.heap.size W2 ⟨⟨x.t, ga, x.r, x.k, x.c⟩, C, cc⟩) := Lib.hid ⟨⟨HF.out.wf.t, ⟨by show _ ≤ ga; have := HGB.out; have := HGA0.out; omega, by show ga ≤ _; have := HGB.out; have := HGA0.out; omega⟩, HF.out.wf.r, HF.out.wf.k⟩, HF.out.s.later B3.out, fun hne a ha => by
          rcases HSF.out hne a ha with h1 | ⟨cs, T, fr, h1, h2⟩
          · exact .inl h1
          · exact .inl (by have := (Array.getElem?_eq_some_iff.1 h1).1; exact this)⟩
        obtain ⟨z0, z1, z2, z3, z4⟩ := F3.out.z
        have hO := G3.out
        have HFA := Lib.hid (fun j u hu => by
          have := (FAt.new W2 ⟨x.t, ga, x.r, x.k, x.c⟩ C cc 58 hO.wf hO.s).r j u hu
          rw [Nat.zero_add] at this
          rw [add_none, Nat.zero_add]
          exact this : ∀ j u, (fvL ⟨x.t, ga, x.r, x.k, x.c⟩ C cc)[j]? = some u → (W2.alloc (.cells #[.int .i64 x.t, .int .i64 ga, .int .i64 x.r, .int .i64 x.k, .slice C x.c.length cc] 58)).cell? ((⟨W2.heap.size, 0, none⟩ : Addr).add j) = some u)
        have HG2 := Lib.hid (HGA.out.later B3.out)
        clear hO
        go_wp2_with (refine wpList_append_own _ rfl _ _ 23 rfl w.heap.size 58 i0 _ 5 56 Try.underlying23 hi hz0 hz1 hz2 rfl (by decide) _ gs.length (gvC gs) rfl (HG2.out.row.alloc _) ⟨W2.heap.size, 0, none⟩ 1 1 (fvL ⟨x.t, ga, x.r, x.k, x.c⟩ C cc) rfl rfl HFA.out (fvL_one _ _ _) (by have := HGL.out; unfold maxLen; omega) (by have := HGL.out; omega) (by have := HBW.out.size; have := B3.out.size; simp; omega) ?_; intro v' w8 hown' hgrow hnil')
        go_roundw
        case rel =>
          have ba : Below W2.heap.size W2 (W2.alloc (.cells #[.int .i64 x.t, .int .i64 ga, .int .i64 x.r, .int .i64 x.k, .slice C x.c.length cc] 58)) := (Below.refl _ _).alloc (Nat.le_refl _) _
          have hG8 := (HG2.out.later ba).push (G3.out.kept fun b hl _ => ba.block b hl) hown' hgrow
          have hB2 := HBW.out.trans (B3.out.mono HBW.out.size)
          have hL8 : Below w.heap.size w w8 := (hB2.trans (ba.mono hB2.size)).grown hgrow (by have := hB2.size; simp; omega) (fun q hq => (HG2.out.row.lt q hq).1)
          refine ⟨k + 1, by omega, by go_num, Lib.hid ⟨⟨_, hG8, ?_⟩, hL8⟩⟩
          rw [take_one HX.out, List.map_append, List.map_append, HGS.out]
          simp [fewES1, HCL.out, HGA0.out]
        case measure => simp [intOf]; omega
    · obtain ⟨gs, hG, hgs⟩ := hI.out.own
      have HB := Lib.hid hI.out.bel
      have HG := Lib.hid hG
      have HGS := Lib.hid hgs
      clear hG hgs hI
      by_cases hkr : k < rs.length
      · have g1 : decide ((k : Int) < (rs.length : Int)) = true := decide_eq_true (by omega)
        have g2 : decide ((k : Int) < 8) = false := decide_eq_false (by omega)
        have g2' : decide (k < 8) = false := decide_eq_false (by omega)
        have HK : Hid (k = 8) := Lib.hid (by omega)
        go_wp2
        go_ret
        refine ⟨_, gs, rfl, HG.out, ?_, HB.out⟩
        rw [HGS.out, fewES, HK.out]
      · have g1 : decide ((k : Int) < (rs.length : Int)) = false := decide_eq_false (by omega)
        have g1' : decide (k < rs.length) = false := decide_eq_false hkr
        have HK : Hid (rs.take 8 = rs.take k) := Lib.hid (by rw [List.take_of_length_le (by omega), List.take_of_length_le (by omega)])
        go_wp2
        go_ret
        refine ⟨_, gs, rfl, HG.out, ?_, HB.out⟩
        rw [HGS.out, fewES, HK.out]
end Go.Proofs.Ytngmaiiibinkaaa
/- Sets by numbers may be; few jobs of few raw numbers; the chapter's example. -/
namespace Go.Proofs.Ytngmaiiibinkaaa
open Go.RowKit
set_option linter.unusedVariables false
set_option linter.unusedSimpArgs false
def untS0 (ts : List Ts) (js : List Fv) (T : Nat) : List Spn × List Int := ((tst ts js T).sp, (tst ts js T).en)
/-! ### Sets by numbers -/
theorem word_t : ∀ i, i < 8 → wordB (bs [116, UInt8.ofNat (97 + i)]) = true := by
  intro i hi
  rw [wordB_cons (c := 116) (r := [UInt8.ofNat (97 + i)]) (by simp [bs])]
  have h : ∀ i, i < 8 → (decide ((oneT 0 116 [UInt8.ofNat (97 + i)]).k = 1) && decide ((oneT 0 116 [UInt8.ofNat (97 + i)]).t.length = 2)) = true := by decide +kernel
  have := h i hi
  rw [bs_size]
  exact this
theorem name_t_inj : ∀ i, i < 8 → ∀ j, j < 8 → bs [116, UInt8.ofNat (97 + i)] = bs [116, UInt8.ofNat (97 + j)] → i = j := by
  intro i hi j hj h
  have h2 : [116, UInt8.ofNat (97 + i)] = [116, UInt8.ofNat (97 + j)] := by
    have := congrArg (fun b : ByteArray => b.data.toList) h
    simpa [bs] using this
  have h3 : UInt8.ofNat (97 + i) = UInt8.ofNat (97 + j) := by simpa using h2
  have h4 := congrArg UInt8.toNat h3
  simp at h4
  omega
theorem sf_check {i : Nat} {x : Ts} (h : SF i x) (hi : i < 8) (h1 : 1 ≤ x.p) (h2 : x.p ≤ 8) : checkE x = 0 := by
  have hn : namedB x = true := by
    rw [namedB, h.n, word_t i hi, bs_size]
    rfl
  have hr : rangedB x = true := by
    have := h.c0; have := h.c1; have := h.d0; have := h.d1; have := h.j0; have := h.t0; have := h.t1; have := h.q0; have := h.q1
    rw [rangedB, inB_yes (by omega), inB_yes (by omega), inB_yes (by omega), inB_yes (by omega), inB_yes (by omega), inB_yes (by omega)]
    rfl
  have ho : overB x = false := by
    have := h.d0; have := h.t0; have := h.q1
    simp only [overB, decide_eq_false_iff_not]
    omega
  rw [checkE, hn, hr, ho]
  rfl
theorem chkFrom_good : ∀ (l pre : List Ts), (∀ x ∈ l, checkE x = 0) → (∀ (i j : Nat) (x y : Ts), (pre ++ l)[i]? = some x → (pre ++ l)[j]? = some y → (x.n = y.n ∨ x.p = y.p) → i = j) → (chkFrom pre l).2 = 0
  | [], pre, _, _ => rfl
  | a :: r, pre, h1, h2 => by
    have ha : (pre ++ a :: r)[pre.length]? = some a := by simp
    have hn : (nameIn pre a || prioIn pre a) = false := by
      rw [Bool.or_eq_false_iff]
      constructor
      · rw [nameIn, List.any_eq_false]
        intro y hy
        obtain ⟨i, hi, rfl⟩ := List.getElem_of_mem hy
        intro he
        have := h2 i pre.length _ a (by rw [List.getElem?_append_left hi, List.getElem?_eq_getElem hi]) ha (.inl (by simpa using he))
        omega
      · rw [prioIn, List.any_eq_false]
        intro y hy
        obtain ⟨i, hi, rfl⟩ := List.getElem_of_mem hy
        intro he
        have := h2 i pre.length _ a (by rw [List.getElem?_append_left hi, List.getElem?_eq_getElem hi]) ha (.inr (by simpa using he))
        omega
    rw [chkFrom, if_neg (by rw [h1 a (by simp)]; simp), hn]
    refine chkFrom_good r (pre ++ [a]) (fun x hx => h1 x (by simp [hx])) (fun i j x y hx hy he => h2 i j x y (by simpa using hx) (by simpa using hy) he)
theorem set_ok {ts : List Ts} (h1 : 1 ≤ ts.length) (h8 : ts.length ≤ 8) (hd : Dist ts) (hs : SFs ts) (hp : ∀ (i : Nat) (x : Ts), ts[i]? = some x → 1 ≤ x.p ∧ x.p ≤ 8) : (chkAll ts).2 = 0 := by
  rw [chkAll, if_neg (by omega)]
  refine chkFrom_good ts [] (fun x hx => ?_) (fun i j x y hx hy he => ?_)
  · obtain ⟨i, hi, rfl⟩ := List.getElem_of_mem hx
    have hg := List.getElem?_eq_getElem hi
    exact sf_check (hs i _ hg) (by omega) (hp i _ hg).1 (hp i _ hg).2
  · simp only [List.nil_append] at hx hy
    rcases he with he | he
    · have e1 := (hs i x hx).n
      have e2 := (hs j y hy).n
      have hi := (List.getElem?_eq_some_iff.1 hx).1
      have hj := (List.getElem?_eq_some_iff.1 hy).1
      rw [e1, e2] at he
      exact name_t_inj i (by omega) j (by omega) he
    · exact hd i j x y hx hy he


/-! ### Few jobs -/
structure TkS (x : Ts) : Prop where
  c0 : 1 ≤ x.c
  c1 : x.c ≤ 4
  t0 : 1 ≤ x.t
  t1 : x.t ≤ 20
  j0 : 0 ≤ x.j
  j1 : x.j ≤ 14
  q0 : 1 ≤ x.q
  q1 : x.q ≤ x.c
theorem tks_of {ss : List Ts} (h : SFs ss) (p : Int) : TkS (tk ss p) := by
  unfold tk
  rw [List.getD_eq_getElem?_getD]
  cases hp : ss[p.toNat]? with
  | none => exact ⟨by decide, by decide, by decide, by decide, by decide, by decide, by decide, by decide⟩
  | some x =>
    have s := h _ x hp
    have := s.c0; have := s.c1; have := s.d0; have := s.d1; have := s.j0; have := s.t0; have := s.t1; have := s.q0; have := s.q1
    exact ⟨by simp; omega, by simp; omega, by simp; omega, by simp; omega, by simp; omega, by simp; omega, by simp; omega, by simp; omega⟩
def Bs (js : List Fv) : Prop := ∀ j ∈ js, 0 ≤ j.a ∧ j.a ≤ js.length * 32
theorem Bs.snoc {ts : List Ts} (hs : SFs ts) {js : List Fv} (h : Bs js) {r : Fv} (hr : 0 ≤ r.a ∧ r.a < 12) : Bs (js ++ [decJ ts js r]) := by
  have hx := tks_of hs (r.t % (ts.length : Int))
  have h1 : 0 ≤ soonI ts js (r.t % (ts.length : Int)) ∧ soonI ts js (r.t % (ts.length : Int)) ≤ js.length * 32 + 20 := by
    unfold soonI
    cases hl : lastT js (r.t % (ts.length : Int)) with
    | none => simp only; omega
    | some j =>
      have := h j (lastT_mem hl).1
      have := hx.t0
      have := hx.t1
      simp only
      omega
  have e : r.a % 1048576 = r.a := Int.emod_eq_of_lt hr.1 (by omega)
  intro j hj
  rw [List.length_append, List.length_singleton]
  rcases List.mem_append.1 hj with hj | hj
  · have := h j hj; omega
  · rw [List.mem_singleton] at hj
    subst hj
    simp only [decJ, e]
    omega
theorem decF_bs {ts : List Ts} (hs : SFs ts) : ∀ (rs js : List Fv), (∀ r ∈ rs, 0 ≤ r.a ∧ r.a < 12) → Bs js → Bs (decF ts js rs)
  | [], js, _, h => h
  | r :: rs, js, hr, h => decF_bs hs rs _ (fun x hx => hr x (List.mem_cons_of_mem _ hx)) (h.snoc hs (hr r (by simp)))
/-- A set, and jobs, by few plain numbers. -/
structure Sm (ss : List Ts) (js : List Fv) (M n : Nat) : Prop where
  s1 : 1 ≤ ss.length
  sM : ss.length ≤ M
  M8 : M ≤ 8
  di : Dist ss
  sf : SFs ss
  pr : ∀ (i : Nat) (x : Ts), ss[i]? = some x → 1 ≤ x.p ∧ x.p ≤ 8
  lg : legS ss js = true
  le : js.length ≤ n
  bs : Bs js
theorem sm_of {ss : List Ts} {fs : List Fv} {M n : Nat} (s1 : 1 ≤ ss.length) (sM : ss.length ≤ M) (M8 : M ≤ 8) (di : Dist ss) (sf : SFs ss) (pr : ∀ (i : Nat) (x : Ts), ss[i]? = some x → 1 ≤ x.p ∧ x.p ≤ 8) (hf : fs.length ≤ n) (hn : n ≤ 10) (ha : ∀ r ∈ fs, 0 ≤ r.a ∧ r.a < 12) : Sm ss (decS ss fs) M n := by
  have hok := set_ok s1 (by omega) di sf pr
  have e : fs.take 4096 = fs := List.take_of_length_le (by omega)
  refine ⟨s1, sM, M8, di, sf, pr, decS_legal hok fs, ?_, ?_⟩
  · rw [decS, e, decF_len]; simp; omega
  · rw [decS, e]; exact decF_bs sf fs [] ha (fun j hj => by cases hj)
section
variable {ss : List Ts} {js : List Fv} {M n : Nat}
theorem Sm.ok (h : Sm ss js M n) : (chkAll ss).2 = 0 := set_ok h.s1 (by have := h.sM; have := h.M8; omega) h.di h.sf h.pr
theorem Sm.ljs (h : Sm ss js M n) : LJs ss js := by
  obtain ⟨h1, h2, h3⟩ := legS_parts h.lg
  exact ljs_of (vs_of h1) js h3
theorem Sm.lgs (h : Sm ss js M n) : Lg js := lg_of h.ljs
theorem Sm.t (h : Sm ss js M n) : ∀ i, i < js.length → 0 ≤ (jb js i).t ∧ (jb js i).t < ss.length := fun i hi => ⟨(jb_lj h.ljs hi).t0, (jb_lj h.ljs hi).t1⟩
theorem Sm.ar (h : Sm ss js M n) (hn : n ≤ 10) : ∀ j ∈ js, 0 ≤ j.a ∧ j.a ≤ 320 ∧ j.a ≤ j.r ∧ j.r ≤ 340 ∧ 1 ≤ j.k ∧ j.k ≤ 4 := fun j hj => by
  have h1 := h.bs j hj
  have h2 := h.ljs.all j hj
  have h3 := tks_of h.sf j.t
  have := h.le
  have := h2.r0; have := h2.r1; have := h2.k0; have := h2.k1; have := h3.j1; have := h3.c1
  omega
theorem Sm.arb (h : Sm ss js M n) (hn : n ≤ 10) {i : Nat} (hi : i < js.length) : 0 ≤ (jb js i).a ∧ (jb js i).a ≤ 320 ∧ (jb js i).a ≤ (jb js i).r ∧ (jb js i).r ≤ 340 ∧ 1 ≤ (jb js i).k ∧ (jb js i).k ≤ 4 := by
  have e : js[i]? = some js[i] := List.getElem?_eq_getElem hi
  rw [jb_get e]
  exact h.ar hn _ (List.mem_of_getElem? e)
theorem sum_bd (f : Fv → Int) (b : Int) : ∀ l : List Fv, (∀ j ∈ l, f j ≤ b) → (l.map f).sum ≤ l.length * b
  | [], _ => by simp
  | a :: l, h => by
    have := sum_bd f b l (fun j hj => h j (List.mem_cons_of_mem _ hj))
    have := h a (by simp)
    rw [List.map_cons, List.sum_cons, List.length_cons, Int.natCast_add, Int.add_mul]
    omega
theorem Sm.tot (h : Sm ss js M n) (hn : n ≤ 10) : (js.map (·.k)).sum ≤ 40 := by
  have := sum_bd (·.k) 4 js (fun j hj => (h.ar hn j hj).2.2.2.2.2)
  have := h.le
  omega
theorem Sm.done (h : Sm ss js M n) (hn : n ≤ 10) : ∀ i, i < js.length → kO (tst ss js 381).dn i = (jb js i).k :=
  done_at h.lgs 340 40 (fun i hi => (h.arb hn hi).2.2.2.1) (h.tot hn)
theorem Sm.doneT (h : Sm ss js M n) (hn : n ≤ 10) : ∀ i, i < js.length → kO (tst ss js 9223372036854775807).dn i = (jb js i).k := by
  intro i hi
  rw [(done_later h.lgs (show 381 ≤ 9223372036854775807 by omega) (h.done hn)).1]
  exact h.done hn i hi
end

/-! ### The example -/
def exA : Ts := ⟨{ data := #[97] }, 1, 9, 9, 0, 1, 1⟩
def exB : Ts := ⟨{ data := #[98] }, 3, 9, 9, 0, 2, 2⟩
def exJ : Fv := ⟨1, 0, 0, 3, [2]⟩
def exI : Fv := ⟨0, 1, 1, 1, []⟩
theorem word_ab : wordB { data := #[97] } = true ∧ wordB { data := #[98] } = true := ⟨wordB_one 97 (by decide +kernel), wordB_one 98 (by decide +kernel)⟩
theorem ex_ok : (chkAll [exA, exB]).2 = 0 := by
  have h : checkE exA = 0 := by simp [checkE, namedB, exA, word_ab.1, ByteArray.size, rangedB, inB, overB]
  have h' : checkE exB = 0 := by simp [checkE, namedB, exB, word_ab.2, ByteArray.size, rangedB, inB, overB]
  rw [chkAll, if_neg (by simp)]
  refine chkFrom_good _ _ (fun x hx => ?_) (fun i j x y hx hy he => ?_)
  · simp at hx
    rcases hx with rfl | rfl
    · exact h
    · exact h'
  · have hi := (List.getElem?_eq_some_iff.1 hx).1
    have hj := (List.getElem?_eq_some_iff.1 hy).1
    simp at hi hj
    rcases (by omega : i = 0 ∨ i = 1) with rfl | rfl <;> rcases (by omega : j = 0 ∨ j = 1) with rfl | rfl <;> simp at hx hy <;> subst hx <;> subst hy <;> simp [exA, exB] at he ⊢
theorem ex_leg : legS [exA, exB] [exJ, exI] = true := by
  rw [legS, decide_eq_true ⟨ex_ok, by simp⟩]
  decide +kernel
theorem ex_lg : Lg [exJ, exI] := by
  obtain ⟨h1, h2, h3⟩ := legS_parts ex_leg
  exact lg_of (ljs_of (vs_of h1) _ h3)
theorem ex_runs : untS0 [exA, exB] [exJ, exI] 9223372036854775807 = ([⟨0, 0, 2⟩, ⟨1, 2, 3⟩, ⟨0, 3, 4⟩], [4, 3]) := by
  have hd : (tst [exA, exB] [exJ, exI] 4).dn = [3, 1] := by decide +kernel
  have h := done_later (ts := [exA, exB]) ex_lg (a := 4) (b := 9223372036854775807) (by omega) (fun i hi => by
    rw [hd]
    have hi : i < 2 := hi
    rcases (by omega : i = 0 ∨ i = 1) with rfl | rfl <;> rfl)
  rw [untS0, h.2.1, h.2.2]
  decide +kernel
end Go.Proofs.Ytngmaiiibinkaaa
/- What the laws call, of the document. -/
namespace Go.Proofs.Ytngmaiiibinkaaa
open Go.RowKit
set_option linter.unusedVariables false
set_option linter.unusedSimpArgs false
/-- A row of raw jobs. -/
def FewJ (fs : List Fv) (w : World) (e : Ending) (w' : World) : Prop := ∃ A cap, e = .returned (.slice A fs.length cap) ∧ FRow w' A cap fs ∧ Below w.heap.size w w'
/-- Own jobs. -/
def DecJ (js : List Fv) (w : World) (e : Ending) (w' : World) : Prop := ∃ A cap gs, e = .returned (.slice A js.length cap) ∧ FRow w' A cap js ∧ FOwn 60 w.heap.size w' (.slice A js.length cap) gs ∧ gs.map (·.x) = js ∧ Below w.heap.size w w'
theorem fewT_row (R : Option Addr) (rc : Nat) (rs : List Fv) (w : World) (hR : FRow w R rc rs) : Calls Try.prog 7 #[.slice R rs.length rc, .int .i64 10] w (FewJ (fewTS rs) w) :=
  (fewT_any R rc rs w hR).mono fun e w' h => by
    obtain ⟨v, gs, rfl, hG, hg, hb⟩ := h
    obtain ⟨A, c, rfl, F⟩ := hG.frow
    rw [hg] at F
    exact ⟨A, c, by rw [← hg, List.length_map], F, hb⟩
theorem fewE_row (R : Option Addr) (rc : Nat) (rs : List Fv) (w : World) (hR : FRow w R rc rs) : Calls Try.prog 7 #[.slice R rs.length rc, .int .i64 8] w (FewJ (fewES rs) w) :=
  (fewE_any R rc rs w hR).mono fun e w' h => by
    obtain ⟨v, gs, rfl, hG, hg, hb⟩ := h
    obtain ⟨A, c, rfl, F⟩ := hG.frow
    rw [hg] at F
    exact ⟨A, c, by rw [← hg, List.length_map], F, hb⟩
theorem fewT_bd (rs : List Fv) : (fewTS rs).length ≤ 10 ∧ ∀ r ∈ fewTS rs, 0 ≤ r.a ∧ r.a < 12 := by
  refine ⟨by rw [fewTS, List.length_map, List.length_take]; omega, fun r hr => ?_⟩
  obtain ⟨y, _, rfl⟩ := List.mem_map.1 hr
  exact emod_bd y.a 12 (by omega)
theorem fewE_bd (rs : List Fv) : (fewES rs).length ≤ 8 ∧ ∀ r ∈ fewES rs, 0 ≤ r.a ∧ r.a < 12 := by
  refine ⟨by rw [fewES, List.length_map, List.length_take]; omega, fun r hr => ?_⟩
  obtain ⟨y, _, rfl⟩ := List.mem_map.1 hr
  exact emod_bd y.a 12 (by omega)
theorem dec_row (A R : Option Addr) (cap rc : Nat) (ts : List Ts) (rs : List Fv) (w : World) (hT : Row w A cap ts) (hR : FRow w R rc rs) (h0 : (chkAll ts).2 = 0) :
    Calls Try.prog 6 #[.slice A ts.length cap, .slice R rs.length rc] w (DecJ (decS ts rs) w) :=
  (rdecode_good A R cap rc ts rs w hT hR h0).mono fun e w' h => by
    obtain ⟨v, gs, rfl, hG, hg, hb⟩ := h
    obtain ⟨B, c, rfl, F⟩ := hG.frow
    rw [hg] at F
    have hl : gs.length = (decS ts rs).length := by rw [← hg, List.length_map]
    exact ⟨B, c, gs, by rw [hl], F, by rw [← hl]; exact hG, hg, hb⟩
theorem en_bd {ts : List Ts} {js : List Fv} (hl : Lg js) {n : Nat} (hn : n ≤ 9223372036854775807) : ∀ x ∈ (tst ts js n).en, in64 x := by
  have hI := ti_all (ts := ts) hl n
  intro x hx
  obtain ⟨i, hi, rfl⟩ := List.getElem_of_mem hx
  have e : kO (tst ts js n).en i = (tst ts js n).en[i] := by simp [kO, hi]
  have := hI.en i (by rw [← hI.le]; exact hi)
  unfold in64
  omega
theorem tst_none (ts : List Ts) : ∀ n : Nat, tst ts [] n = ⟨[], none, [], []⟩
  | 0 => rfl
  | n + 1 => by rw [tst_succ, tst_none ts n]; rfl
end Go.Proofs.Ytngmaiiibinkaaa
/- Where rows lie, once for all their places. -/
namespace Go.Proofs.Ytngmaiiibinkaaa
open Go.RowKit
set_option linter.unusedVariables false
set_option linter.unusedSimpArgs false
theorem bel_step {W w w' : World} (h : Below W.heap.size W w) (hb : Below w.heap.size w w') : Below W.heap.size W w' := h.trans (hb.mono h.size)
/-- Cells of jobs. -/
def JPin (w : World) (b o : Nat) (js : List Fv) : Prop := ∀ i, i < js.length → w.cell? ⟨b, o + i * 5, none⟩ = some (.int .i64 (jb js i).t) ∧ w.cell? ⟨b, o + i * 5 + 1, none⟩ = some (.int .i64 (jb js i).a) ∧ w.cell? ⟨b, o + i * 5 + 2, none⟩ = some (.int .i64 (jb js i).r) ∧ w.cell? ⟨b, o + i * 5 + 3, none⟩ = some (.int .i64 (jb js i).k)
theorem FRow.pin {w : World} {A : Option Addr} {cap : Nat} {js : List Fv} (h : FRow w A cap js) (hn : 0 < js.length) : ∃ b o, A = some ⟨b, o, none⟩ ∧ b < w.heap.size ∧ JPin w b o js := by
  obtain ⟨b, o, x, C, cc, hA, hx, hb, hF⟩ := h.get (k := 0) hn
  refine ⟨b, o, hA, hb, fun i hi => ?_⟩
  obtain ⟨b', o', x', C', cc', hA', hx', hb', hF'⟩ := h.get (k := i) hi
  rw [hA] at hA'
  simp only [Option.some.injEq, Addr.mk.injEq, and_true] at hA'
  obtain ⟨rfl, rfl⟩ := hA'
  rw [jb_get hx']
  exact ⟨hF'.c0, hF'.c1, hF'.c2, hF'.c3⟩
theorem JPin.later {w w' : World} {b o : Nat} {js : List Fv} (h : JPin w b o js) (hb : Below w.heap.size w w') : JPin w' b o js := fun i hi =>
  ⟨cells_below hb _ _ _ (h i hi).1, cells_below hb _ _ _ (h i hi).2.1, cells_below hb _ _ _ (h i hi).2.2.1, cells_below hb _ _ _ (h i hi).2.2.2⟩
/-- Cells of tasks. -/
def TPin (w : World) (b o : Nat) (ts : List Ts) : Prop := ∀ u : Nat, u < ts.length → w.cell? ⟨b, o + u * 7 + 1, none⟩ = some (.int .i64 (tk ts (u : Int)).c) ∧ w.cell? ⟨b, o + u * 7 + 5, none⟩ = some (.int .i64 (tk ts (u : Int)).q) ∧ w.cell? ⟨b, o + u * 7 + 6, none⟩ = some (.int .i64 (tk ts (u : Int)).p)
theorem Row.pin {w : World} {A : Option Addr} {cap : Nat} {ts : List Ts} (h : Row w A cap ts) (hn : 0 < ts.length) : ∃ b o, A = some ⟨b, o, none⟩ ∧ b < w.heap.size ∧ TPin w b o ts := by
  obtain ⟨b, o, x, hA, hx, _, hb, hF⟩ := h.get (k := 0) hn
  refine ⟨b, o, hA, hb, fun i hi => ?_⟩
  obtain ⟨b', o', x', hA', hx', _, hb', hF'⟩ := h.get (k := i) hi
  rw [hA] at hA'
  simp only [Option.some.injEq, Addr.mk.injEq, and_true] at hA'
  obtain ⟨rfl, rfl⟩ := hA'
  rw [tk_get hx']
  exact ⟨hF'.c1, hF'.c5, hF'.c6⟩
theorem TPin.later {w w' : World} {b o : Nat} {ts : List Ts} (h : TPin w b o ts) (hb : Below w.heap.size w w') : TPin w' b o ts := fun i hi =>
  ⟨cells_below hb _ _ _ (h i hi).1, cells_below hb _ _ _ (h i hi).2.1, cells_below hb _ _ _ (h i hi).2.2⟩
/-- Cells of numbers. -/
def CPin (w : World) (b o : Nat) (l : List Int) : Prop := ∀ i, i < l.length → w.cell? ⟨b, o + i, none⟩ = some (.int .i64 (kO l i))
theorem CRow.pin {w : World} {A : Option Addr} {cap : Nat} {l : List Int} (h : CRow w A cap l) (hn : 0 < l.length) : ∃ b o, A = some ⟨b, o, none⟩ ∧ b < w.heap.size ∧ CPin w b o l := by
  obtain ⟨b, o, x, hA, hx, _, hb, hF⟩ := h.get (k := 0) hn
  refine ⟨b, o, hA, hb, fun i hi => ?_⟩
  obtain ⟨b', o', x', hA', hx', _, hb', hF'⟩ := h.get (k := i) hi
  rw [hA] at hA'
  simp only [Option.some.injEq, Addr.mk.injEq, and_true] at hA'
  obtain ⟨rfl, rfl⟩ := hA'
  have e : kO l i = x' := by simp [kO, hx']
  rw [e]
  exact hF'
theorem CPin.later {w w' : World} {b o : Nat} {l : List Int} (h : CPin w b o l) (hb : Below w.heap.size w w') : CPin w' b o l := fun i hi => cells_below hb _ _ _ (h i hi)
def spG (sp : List Spn) (k : Nat) : Spn := (sp[k]?).getD ⟨0, 0, 0⟩
theorem spG_mem {sp : List Spn} {k : Nat} (hk : k < sp.length) : spG sp k ∈ sp := by
  unfold spG
  rw [List.getElem?_eq_getElem hk]
  exact List.getElem_mem hk
theorem spG_map {sp : List Spn} {k : Nat} (f : Spn → Spn) (hk : k < sp.length) : spG (sp.map f) k = f (spG sp k) := by
  simp [spG, hk]
/-- Cells of spans. -/
def SPin (w : World) (b o : Nat) (sp : List Spn) : Prop := ∀ i, i < sp.length → w.cell? ⟨b, o + i * 3, none⟩ = some (.int .i64 ((spG sp i).j : Int)) ∧ w.cell? ⟨b, o + i * 3 + 1, none⟩ = some (.int .i64 (spG sp i).f) ∧ w.cell? ⟨b, o + i * 3 + 2, none⟩ = some (.int .i64 (spG sp i).t)
theorem SpR.pin {w : World} {A : Option Addr} {cap : Nat} {sp : List Spn} (h : SpR w A cap sp) (hn : 0 < sp.length) : ∃ b o, A = some ⟨b, o, none⟩ ∧ b < w.heap.size ∧ SPin w b o sp := by
  obtain ⟨b, o, x, hA, hx, hb, _⟩ := h.get (k := 0) hn
  refine ⟨b, o, hA, hb, fun i hi => ?_⟩
  obtain ⟨b', o', x', hA', hx', hb', hF'⟩ := h.get (k := i) hi
  rw [hA] at hA'
  simp only [Option.some.injEq, Addr.mk.injEq, and_true] at hA'
  obtain ⟨rfl, rfl⟩ := hA'
  have e : spG sp i = x' := by simp [spG, hx']
  rw [e]
  exact hF'
theorem SPin.later {w w' : World} {b o : Nat} {sp : List Spn} (h : SPin w b o sp) (hb : Below w.heap.size w w') : SPin w' b o sp := fun i hi =>
  ⟨cells_below hb _ _ _ (h i hi).1, cells_below hb _ _ _ (h i hi).2.1, cells_below hb _ _ _ (h i hi).2.2⟩
theorem cells3 (w : World) (T : TypeId) (v0 v1 v2 : Value) : (w.alloc (.cells #[v0, v1, v2] T)).cell? ⟨w.heap.size, 0, none⟩ = some v0 ∧ (w.alloc (.cells #[v0, v1, v2] T)).cell? ⟨w.heap.size, 1, none⟩ = some v1 ∧ (w.alloc (.cells #[v0, v1, v2] T)).cell? ⟨w.heap.size, 2, none⟩ = some v2 := by
  refine ⟨?_, ?_, ?_⟩ <;> (rw [cell_of_row _ _ _ _ _ _ (heap_alloc_new w _)]; rfl)
end Go.Proofs.Ytngmaiiibinkaaa
/- trace.Response. -/
namespace Go.Proofs.Ytngmaiiibinkaaa
open Go.RowKit Go.Shelf
set_option linter.unusedVariables false
set_option linter.unusedSimpArgs false
attribute [local go_sem ↓] Go.wp_at_zero Go.wp_at_succ
structure RsH (js : List Fv) (en : List Int) : Prop where
  a : ∀ i, i < js.length → -1000000000000000000 ≤ (jb js i).a ∧ (jb js i).a ≤ 1000000000000000000
  e : ∀ x ∈ en, -1000000000000000000 ≤ x ∧ x ≤ 1000000000000000000
def respV (o : Option Int) : Value := .tuple #[.int .i64 (o.getD 0), .bool o.isSome]
theorem subW {a b : Int} (ha : -1000000000000000000 ≤ a ∧ a ≤ 1000000000000000000) (hb : -1000000000000000000 ≤ b ∧ b ≤ 1000000000000000000) : wrap64 (a - b) = a - b := IntWalk.wrap64_in _ (by omega)
theorem respS_bd {js : List Fv} {en : List Int} (h : RsH js en) {i : Int} {r : Int} (hr : respS js en i = some r) : -2000000000000000000 ≤ r ∧ r ≤ 2000000000000000000 := by
  unfold respS at hr
  split at hr
  · rename_i hc
    simp only [Option.some.injEq] at hr
    have h1 := h.a i.toNat (by omega)
    have h2 : kO en i.toNat ∈ en := by
      have : i.toNat < en.length := by omega
      simp [kO, this]
    have h3 := h.e _ h2
    omega
  · cases hr
set_option maxRecDepth 100000 in
set_option maxHeartbeats 4000000 in
theorem resp_any {R E : Option Addr} {rc ec : Nat} {js : List Fv} {en : List Int} (i : Int) (w : World) (hJ : FRow w R rc js) (hE : CRow w E ec en) (H : RsH js en) : Calls Try.prog 25 #[.slice R js.length rc, .slice E en.length ec, .int .i64 i] w (Quiet (respV (respS js en i)) w) := by
  obtain ⟨n, hn⟩ : ∃ n, js.length = n := ⟨_, rfl⟩
  obtain ⟨m, hm⟩ : ∃ m, en.length = m := ⟨_, rfl⟩
  have jle := hJ.le
  have jmx := hJ.mx
  have ele := hE.le
  have emx := hE.mx
  rw [hn] at jle
  rw [hm] at ele
  obtain ⟨mn, hmn⟩ : ∃ mn, min n m = mn := ⟨_, rfl⟩
  have hmin : min (n : Int) (m : Int) = (mn : Int) := by omega
  have KP := Lib.hid (fun W => isPlace_any i mn W)
  rw [hn, hm]
  by_cases hp : 0 ≤ i ∧ i < (mn : Int)
  · obtain ⟨q, rfl⟩ : ∃ q : Nat, i = (q : Int) := ⟨i.toNat, by omega⟩
    obtain ⟨be, oe, x, rfl, hx, hw, hbl, c0⟩ := hE.get (k := q) (by omega)
    obtain ⟨bj, oj, y, C, cc, rfl, hy, hbj, hF⟩ := hJ.get (k := q) (by omega)
    have c1 := hF.c1
    have ha := H.a q (by omega)
    have he := H.e x (List.mem_of_getElem? hx)
    have kx : kO en q = x := by simp [kO, hx]
    rw [jb_get hy] at ha
    have hS : respS js en (q : Int) = if 0 ≤ x then some (x - y.a) else none := by
      unfold respS
      simp only [Int.toNat_natCast, kx, jb_get hy]
      by_cases h : 0 ≤ x
      · rw [if_pos h, if_pos (by omega)]
      · rw [if_neg h, if_neg (by omega)]
    rw [hS]
    have i0 : (0 : Int) ≤ (q : Int) := by omega
    have i1 : (q : Int) < (n : Int) := by omega
    have i2 : (q : Int) < (m : Int) := by omega
    have p1 : decide ((0 : Int) ≤ (q : Int)) = true := decide_eq_true hp.1
    have p2 : decide ((q : Int) < (mn : Int)) = true := decide_eq_true hp.2
    rw [p1, p2] at KP
    have hsub := subW he ha
    obtain ⟨a, hA⟩ : ∃ a, y.a = a := ⟨_, rfl⟩
    rw [hA] at c1 hsub ⊢
    obtain ⟨d, hd⟩ : ∃ d, x - a = d := ⟨_, rfl⟩
    have hsub' := hsub.trans hd
    rw [hd]
    clear hsub hd hA hS kx hF hy hx hJ hE H hn hm hmn hp ha he hw hbl hbj p1 p2
    by_cases hx0 : 0 ≤ x
    · have t1 : decide (x < 0) = false := decide_eq_false (by omega)
      rw [if_pos hx0]
      clear hx0
      go_enter Try.func25, Try.ntmps25
      go_upto_region 3 with (go_at_call 38; (with_reducible refine (KP.out _).mono ?_); rintro e w5 ⟨rfl, rfl⟩)
      go_quiet (fail)
      simp only [hsub']
      go_wp2
      go_ret2
      exact ⟨rfl, _, rfl⟩
    · have t1 : decide (x < 0) = true := decide_eq_true (by omega)
      rw [if_neg hx0]
      clear hx0
      go_enter Try.func25, Try.ntmps25
      go_wp2_with (go_at_call 38; (with_reducible refine (KP.out _).mono ?_); rintro e w5 ⟨rfl, rfl⟩)
      go_ret2
      exact ⟨rfl, 0, rfl⟩
  · have hpf : (decide (0 ≤ i) && decide (i < (mn : Int))) = false := by
      rw [Bool.and_eq_false_iff]
      by_cases h : 0 ≤ i
      · exact .inr (decide_eq_false (by omega))
      · exact .inl (decide_eq_false h)
    rw [hpf] at KP
    have hS : respS js en i = none := by unfold respS; rw [if_neg (by omega)]
    rw [hS]
    clear hpf hp hS hJ hE H hn hm hmn
    go_enter Try.func25, Try.ntmps25
    go_wp2_with (go_at_call 38; (with_reducible refine (KP.out _).mono ?_); rintro e w5 ⟨rfl, rfl⟩)
    go_ret2
    exact ⟨rfl, 0, rfl⟩
end Go.Proofs.Ytngmaiiibinkaaa
/- What is known of a run's spans, and ends: in the words of trace. -/
namespace Go.Proofs.Ytngmaiiibinkaaa
open Go.RowKit
set_option linter.unusedVariables false
set_option linter.unusedSimpArgs false
theorem endQ_S (i : Nat) : ∀ (l : List Spn) (W : Int), endQ (i : Int) W (l.map toQ) = endS i W l
  | [], W => rfl
  | x :: l, W => by
    rw [List.map_cons, endQ, endS, endQ_S i l W, endQ_S i l _]
    have e : ((toQ x).j = (i : Int)) ↔ x.j = i := by simp only [toQ]; omega
    simp only [e]
    rfl
section
variable {ts : List Ts} {js : List Fv}
theorem ends_run (hl : Lg js) (n : Nat) : endsQ js ((tst ts js n).sp.map toQ) = (tst ts js n).en := by
  have hI := ti_all (ts := ts) hl n
  apply List.ext_getElem
  · rw [endsQ_len, hI.le]
  · intro i h1 h2
    have hi : i < js.length := by rw [endsQ_len] at h1; exact h1
    have a := endsQ_get (l := (tst ts js n).sp.map toQ) hi
    have b := end_all (ts := ts) hl n i hi
    have a1 : kO (endsQ js ((tst ts js n).sp.map toQ)) i = (endsQ js ((tst ts js n).sp.map toQ))[i] := by simp [kO, h1]
    have b1 : kO (tst ts js n).en i = (tst ts js n).en[i] := by simp [kO, h2]
    rw [← a1, ← b1, a, ← b, endQ_S]
theorem spn_in (hl : Lg js) (n : Nat) : ∀ x ∈ (tst ts js n).sp, x.j < js.length ∧ 0 ≤ x.f ∧ x.f < x.t ∧ x.t ≤ n := fun x hx => by
  have hW := wk_all (ts := ts) hl n
  have h1 := chn_mem hW.ch x hx
  have h2 := hW.la
  unfold lastA at h2
  exact ⟨h1.1, h1.2.1.1, h1.2.1.2, by omega⟩
/-- Once it has ended, its end stays. -/
theorem en_stay (hl : Lg js) {i n : Nat} (hi : i < js.length) (h : kO (tst ts js n).dn i = (jb js i).k) : ∀ m : Nat, kO (tst ts js (n + m)).en i = kO (tst ts js n).en i ∧ kO (tst ts js (n + m)).dn i = (jb js i).k
  | 0 => ⟨rfl, h⟩
  | m + 1 => by
    obtain ⟨h1, h2⟩ := en_stay hl hi h m
    have hI := ti_all (ts := ts) hl (n + m)
    rw [← Nat.add_assoc, tst_succ]
    cases hw : whoS ts js (tst ts js (n + m)) ((n + m : Nat) : Int) with
    | none => rw [tstep_none hw]; exact ⟨h1, h2⟩
    | some c =>
      obtain ⟨g1, g2, g3⟩ := hI.who_some hl hw
      have hne : i ≠ c := fun e => by subst e; omega
      rw [tstep_some hw]
      simp only [runM]
      refine ⟨?_, ?_⟩
      · split
        · rw [kO_set _ _ (by rw [hI.le]; exact g1), if_neg hne]; exact h1
        · exact h1
      · rw [kO_set _ _ (by rw [hI.ld]; exact g1), if_neg hne]; exact h2
/-- Left off at a tick: what had ended by then has its end, and nothing else has one. -/
theorem en_cut (hl : Lg js) {i a b : Nat} (hab : a ≤ b) (hi : i < js.length) (hd : kO (tst ts js b).dn i = (jb js i).k) : (kO (tst ts js b).en i ≤ a → kO (tst ts js a).en i = kO (tst ts js b).en i) ∧ ((a : Int) < kO (tst ts js b).en i → kO (tst ts js a).en i = -1) := by
  have hI := ti_all (ts := ts) hl a
  refine ⟨fun h => ?_, fun h => ?_⟩
  · obtain ⟨t, h1, h2, h3⟩ := en_is hl b i hi hd
    rw [h2] at h
    have h4 := en_stay (ts := ts) hl hi h3 (a - t)
    have h5 := en_stay (ts := ts) hl hi h3 (b - t)
    rw [show t + (a - t) = a by omega] at h4
    rw [show t + (b - t) = b by omega] at h5
    rw [h4.1, h5.1]
  · rcases hI.en i hi with h1 | h1
    · exact h1.2
    · have h5 := (en_stay (ts := ts) hl hi h1.1 (b - a)).1
      rw [show a + (b - a) = b by omega] at h5
      omega
end
/-! ### Rows of ticks -/
def ordl : Int → List Spn → Prop
  | _, [] => True
  | a, x :: l => a ≤ x.f ∧ x.f < x.t ∧ ordl x.t l
def lenT (l : List Spn) : Int := (l.map fun x => x.t - x.f).sum
def rowsOk (js : List Fv) : Int → List (Int × Int) → Prop
  | _, [] => True
  | a, p :: r => a < p.1 ∧ p.1 < p.2 ∧ (∃ i, i < js.length ∧ (jb js i).r = p.1) ∧ rowsOk js p.2 r
theorem ordl_chn {js : List Fv} {en : List Int} : ∀ {a : Int} {l : List Spn}, chn js en a l → ordl a l
  | _, [], _ => trivial
  | a, x :: l, ⟨h1, h2, _, _, _, h6⟩ => ⟨h1, h2, ordl_chn h6⟩
theorem run_ok {js : List Fv} : ∀ (l : List Spn) (e : Int), ordl e l → bgn js e l → (∀ x ∈ l, x.j < js.length) → ∃ e' l', runQ e (l.map toQ) = (e', l'.map toQ) ∧ e ≤ e' ∧ ordl e' l' ∧ bgn js e' l' ∧ (∀ y r, l' = y :: r → e' < y.f) ∧ e' - e + lenT l' = lenT l ∧ l'.length ≤ l.length ∧ ∀ x ∈ l', x.j < js.length
  | [], e, _, _, _ => ⟨e, [], rfl, Int.le_refl _, trivial, trivial, fun y r h => (by cases h), by simp [lenT], Nat.le_refl _, by simp⟩
  | x :: l, e, ⟨h1, h2, h3⟩, ⟨b1, b2⟩, hj => by
    rw [List.map_cons, runQ]
    by_cases hx : x.f = e
    · rw [if_pos (show (toQ x).f = e from hx)]
      obtain ⟨e', l', q1, q2, q3, q4, q5, q6, q7, q8⟩ := run_ok l x.t h3 b2 (fun y hy => hj y (List.mem_cons_of_mem _ hy))
      refine ⟨e', l', q1, by omega, q3, q4, q5, ?_, by simp; omega, q8⟩
      have : lenT (x :: l) = (x.t - x.f) + lenT l := by simp [lenT]
      omega
    · rw [if_neg (show ¬ (toQ x).f = e from hx)]
      exact ⟨e, x :: l, rfl, Int.le_refl _, ⟨h1, h2, h3⟩, ⟨b1, b2⟩, fun y r h => (by cases h; omega), by omega, Nat.le_refl _, hj⟩
theorem busy_ok {js : List Fv} : ∀ (n : Nat) (l : List Spn) (e : Int), l.length ≤ n → ordl e l → bgn js e l → (∀ x ∈ l, x.j < js.length) → (∀ y r, l = y :: r → e < y.f) → rowsOk js e (busyQ (l.map toQ)) ∧ ((busyQ (l.map toQ)).map fun p => p.2 - p.1).sum = lenT l ∧ (busyQ (l.map toQ)).length ≤ l.length
  | n, [], e, _, _, _, _, _ => by rw [List.map_nil, busyQ]; exact ⟨trivial, rfl, Nat.le_refl _⟩
  | 0, x :: l, e, h, _, _, _, _ => by simp at h
  | n + 1, x :: l, e, hn, ⟨h1, h2, h3⟩, ⟨b1, b2⟩, hj, hh => by
    obtain ⟨e', l', q1, q2, q3, q4, q5, q6, q7, q8⟩ := run_ok l x.t h3 b2 (fun y hy => hj y (List.mem_cons_of_mem _ hy))
    have hlt := hh x l rfl
    simp only [List.length_cons] at hn
    obtain ⟨r1, r2, r3⟩ := busy_ok n l' e' (by omega) q3 q4 q8 q5
    rw [List.map_cons, busyQ]
    have et : (toQ x).t = x.t := rfl
    have ef : (toQ x).f = x.f := rfl
    rw [et, ef, q1]
    refine ⟨⟨hlt, by simp only; omega, ⟨x.j, hj x (by simp), b1 hlt⟩, r1⟩, ?_, by simp; omega⟩
    rw [List.map_cons, List.sum_cons, r2]
    have : lenT (x :: l) = (x.t - x.f) + lenT l := by simp [lenT]
    simp only
    omega
theorem lenT_S : ∀ (n : Nat) (l : List Spn), (∀ x ∈ l, x.j < n) → ((List.range n).map (lenS l)).sum = lenT l
  | n, [], _ => by
    have : ∀ k : Nat, ((List.range k).map (lenS [])).sum = 0 := by
      intro k
      induction k with
      | zero => rfl
      | succ k ih => rw [List.range_succ, List.map_append, List.sum_append, ih]; simp [lenS]
    rw [this]; rfl
  | n, x :: l, h => by
    have ih := lenT_S n l (fun y hy => h y (List.mem_cons_of_mem _ hy))
    have e : ∀ i, lenS (x :: l) i = (if x.j = i then x.t - x.f else 0) + lenS l i := fun i => by
      rw [show x :: l = [x] ++ l from rfl, lenS_app, lenS_one]
    have s : ∀ k : Nat, ((List.range k).map (lenS (x :: l))).sum = (if x.j < k then x.t - x.f else 0) + ((List.range k).map (lenS l)).sum := by
      intro k
      induction k with
      | zero => simp
      | succ k ih => 
        rw [List.range_succ, List.map_append, List.sum_append, ih, List.map_append, List.sum_append]
        simp only [List.map_cons, List.map_nil, List.sum_cons, List.sum_nil, e k]
        by_cases h1 : x.j < k
        · rw [if_pos h1, if_neg (by omega), if_pos (by omega)]; omega
        · by_cases h2 : x.j = k
          · rw [if_neg h1, if_pos h2, if_pos (by omega)]; omega
          · rw [if_neg h1, if_neg h2, if_neg (by omega)]; omega
    rw [s n, if_pos (h x (by simp)), ih]
    simp [lenT]
theorem jb_sum (js : List Fv) : ((List.range js.length).map fun i => (jb js i).k).sum = (js.map (·.k)).sum := by
  congr 1
  apply List.ext_getElem
  · simp
  · intro i h1 h2
    simp at h1 h2
    simp [jb, h2]
theorem busy_run {ts : List Ts} {js : List Fv} (hl : Lg js) {n : Nat} (hd : ∀ i, i < js.length → kO (tst ts js n).dn i = (jb js i).k) : rowsOk js (-1) (busyQ ((tst ts js n).sp.map toQ)) ∧ ((busyQ ((tst ts js n).sp.map toQ)).map fun p => p.2 - p.1).sum = (js.map (·.k)).sum ∧ (busyQ ((tst ts js n).sp.map toQ)).length ≤ (tst ts js n).sp.length := by
  have hW := wk_all (ts := ts) hl n
  have hin := spn_in (ts := ts) hl n
  have hb := bgn_all (ts := ts) hl n
  have ho := ordl_chn hW.ch
  have ho' : ordl (-1) (tst ts js n).sp := by
    cases h : (tst ts js n).sp with
    | nil => trivial
    | cons x l => rw [h] at ho; exact ⟨by have := ho.1; omega, ho.2⟩
  obtain ⟨r1, r2, r3⟩ := busy_ok (js := js) (tst ts js n).sp.length (tst ts js n).sp (-1) (Nat.le_refl _) ho' hb (fun x hx => (hin x hx).1) (fun y r e => by
    have := hin y (by rw [e]; simp); omega)
  refine ⟨r1, ?_, r3⟩
  rw [r2, ← lenT_S js.length _ (fun x hx => (hin x hx).1), ← jb_sum]
  congr 1
  apply List.map_congr_left
  intro i hi
  rw [List.mem_range] at hi
  rw [hW.wk i hi, hd i hi]
/-! ### The worst, misses -/
theorem worst_some (js : List Fv) (en : List Int) (task : Int) : ∀ n g p, worstS js en task n = some (g, p) → p < n ∧ (jb js p).t = task
  | 0, g, p, h => by simp [worstS] at h
  | n + 1, g, p, h => by
    rw [worstS_succ] at h
    unfold worst1 at h
    by_cases ht : (jb js n).t = task
    · rw [if_pos ht] at h
      cases hr : respS js en (n : Int) with
      | none =>
        rw [hr] at h
        have := worst_some js en task n g p h
        exact ⟨by omega, this.2⟩
      | some r =>
        rw [hr] at h
        cases ha : worstS js en task n with
        | none =>
          rw [ha] at h
          simp only [Option.some.injEq, Prod.mk.injEq] at h
          obtain ⟨rfl, rfl⟩ := h
          exact ⟨by omega, ht⟩
        | some gp =>
          obtain ⟨g', p'⟩ := gp
          rw [ha] at h
          simp only at h
          split at h
          · simp only [Option.some.injEq, Prod.mk.injEq] at h
            obtain ⟨rfl, rfl⟩ := h
            exact ⟨by omega, ht⟩
          · have := worst_some js en task n g p (ha.trans h)
            exact ⟨by omega, this.2⟩
    · rw [if_neg ht] at h
      have := worst_some js en task n g p h
      exact ⟨by omega, this.2⟩
theorem worst_ge (js : List Fv) (en : List Int) (task : Int) : ∀ n q r, q < n → (jb js q).t = task → respS js en (q : Int) = some r → ∃ g p, worstS js en task n = some (g, p) ∧ r ≤ g
  | 0, q, r, h, _, _ => by omega
  | n + 1, q, r, h, ht, hr => by
    rw [worstS_succ]
    unfold worst1
    by_cases hq : q = n
    · subst hq
      rw [if_pos ht, hr]
      cases ha : worstS js en task q with
      | none => exact ⟨r, q, rfl, Int.le_refl _⟩
      | some gp =>
        obtain ⟨g', p'⟩ := gp
        simp only
        split
        · exact ⟨r, q, rfl, Int.le_refl _⟩
        · exact ⟨g', p', rfl, by omega⟩
    · obtain ⟨g, p, h1, h2⟩ := worst_ge js en task n q r (by omega) ht hr
      rw [h1]
      by_cases hn : (jb js n).t = task
      · rw [if_pos hn]
        cases hs : respS js en (n : Int) with
        | none => exact ⟨g, p, rfl, h2⟩
        | some r' =>
          simp only
          split
          · exact ⟨r', n, rfl, by omega⟩
          · exact ⟨g, p, rfl, h2⟩
      · rw [if_neg hn]
        exact ⟨g, p, rfl, h2⟩
theorem miss_pre (ts : List Ts) (js : List Fv) (en : List Int) (q : Nat) : ∀ m, ∃ l, missS ts js en (q + m) = missS ts js en q ++ l
  | 0 => ⟨[], by simp⟩
  | m + 1 => by
    obtain ⟨l, hl⟩ := miss_pre ts js en q m
    rw [← Nat.add_assoc, missS_succ, hl]
    exact ⟨_, List.append_assoc _ _ _⟩
theorem miss_at {ts : List Ts} {js : List Fv} {en : List Int} {q n : Nat} (hq : q < n) (hm : missB ts js en q = true) : (missS ts js en n)[(missS ts js en q).length]? = some q := by
  obtain ⟨l, hl⟩ := miss_pre ts js en (q + 1) (n - (q + 1))
  rw [show q + 1 + (n - (q + 1)) = n by omega] at hl
  rw [hl, missS_succ, if_pos hm, List.append_assoc, List.getElem?_append_right (Nat.le_refl _)]
  simp
/-! ### What a law knows of a run -/
structure TrF (js : List Fv) (sp : List Spn) (es : List Int) : Prop where
  le : es.length = js.length
  ends : endsQ js (sp.map toQ) = es
  sj : ∀ x ∈ sp, x.j < js.length ∧ 0 ≤ x.f ∧ x.f < x.t ∧ x.t ≤ 381
  en : ∀ x ∈ es, -1 ≤ x ∧ x ≤ 381
  few : sp.length ≤ 40
section
variable {ss : List Ts} {js : List Fv} {M n : Nat}
theorem trf_at (h : Sm ss js M n) (hn : n ≤ 10) {T : Nat} (hT : T ≤ 381) : TrF js (tst ss js T).sp (tst ss js T).en := by
  have hI := ti_all (ts := ss) h.lgs T
  refine ⟨hI.le, ends_run h.lgs T, fun x hx => ?_, fun x hx => ?_, ?_⟩
  · have := spn_in (ts := ss) h.lgs T x hx; omega
  · obtain ⟨i, hi, rfl⟩ := List.getElem_of_mem hx
    have e : kO (tst ss js T).en i = (tst ss js T).en[i] := by simp [kO, hi]
    have := hI.en i (by rw [← hI.le]; exact hi)
    omega
  · have h1 := spn_few (ts := ss) h.lgs T
    have h2 := h.tot hn
    omega
theorem trf_sm (h : Sm ss js M n) (hn : n ≤ 10) : TrF js (tst ss js 9223372036854775807).sp (tst ss js 9223372036854775807).en := by
  obtain ⟨-, h2, h3⟩ := done_later (ts := ss) h.lgs (show 381 ≤ 9223372036854775807 by omega) (h.done hn)
  rw [h2, h3]
  exact trf_at h hn (Nat.le_refl _)
theorem TrF.edh {sp : List Spn} {es : List Int} (h : TrF js sp es) (hs : Sm ss js M n) (hn : n ≤ 10) : EdH js (sp.map toQ) :=
  ⟨fun i hi => by have := hs.arb hn hi; omega, fun x hx => by
    obtain ⟨y, hy, rfl⟩ := List.mem_map.1 hx
    have := h.sj y hy
    simp only [toQ]; omega, by have := hs.le; omega, by rw [List.length_map]; have := h.few; omega⟩
theorem TrF.rsh {sp : List Spn} {es : List Int} (h : TrF js sp es) (hs : Sm ss js M n) (hn : n ≤ 10) : RsH js es :=
  ⟨fun i hi => by have := hs.arb hn hi; omega, fun x hx => by have := h.en x hx; omega⟩
theorem TrF.row {sp : List Spn} {es : List Int} (h : TrF js sp es) (hs : Sm ss js M n) (hn : n ≤ 10) {w : World} {A : Option Addr} {cap : Nat} (hr : SpR w A cap sp) : SqR w A cap (sp.map toQ) :=
  hr.sq (fun x hx => by have := h.sj x hx; have := hs.le; exact ⟨by omega, ⟨by omega, by omega⟩, ⟨by omega, by omega⟩⟩)
/-- Each job ends at least its Work behind its release. -/
theorem end_ge (h : Sm ss js M n) (hn : n ≤ 10) {i : Nat} (hi : i < js.length) : (jb js i).r + (jb js i).k ≤ kO (tst ss js 9223372036854775807).en i := by
  obtain ⟨-, -, h3⟩ := done_later (ts := ss) h.lgs (show 381 ≤ 9223372036854775807 by omega) (h.done hn)
  rw [h3]
  have hW := wk_all (ts := ss) h.lgs 381
  have hd := h.done hn i hi
  have := h.lgs.k1 i hi
  have h3 := (hW.tm i hi (by omega)).2 hd
  omega
theorem busy_sm (h : Sm ss js M n) (hn : n ≤ 10) : rowsOk js (-1) (busyQ ((tst ss js 9223372036854775807).sp.map toQ)) ∧ ((busyQ ((tst ss js 9223372036854775807).sp.map toQ)).map fun p => p.2 - p.1).sum = (js.map (·.k)).sum ∧ (busyQ ((tst ss js 9223372036854775807).sp.map toQ)).length ≤ (tst ss js 9223372036854775807).sp.length := busy_run h.lgs (h.doneT hn)
theorem cut_sm (h : Sm ss js M n) (hn : n ≤ 10) {T : Nat} (hT : T ≤ 381) {i : Nat} (hi : i < js.length) : (kO (tst ss js 9223372036854775807).en i ≤ T → kO (tst ss js T).en i = kO (tst ss js 9223372036854775807).en i) ∧ ((T : Int) < kO (tst ss js 9223372036854775807).en i → kO (tst ss js T).en i = -1) := by
  obtain ⟨-, -, h3⟩ := done_later (ts := ss) h.lgs (show 381 ≤ 9223372036854775807 by omega) (h.done hn)
  rw [h3]
  exact en_cut (ts := ss) h.lgs hT hi (h.done hn i hi)
end
end Go.Proofs.Ytngmaiiibinkaaa
/- The document's within, pick. -/
namespace Go.Proofs.Ytngmaiiibinkaaa
open Go.RowKit
set_option linter.unusedVariables false
set_option linter.unusedSimpArgs false
attribute [local go_sem ↓] Go.wp_at_zero Go.wp_at_succ
theorem sum_take (c : List Int) (h : Pos1 c) (k : Nat) : 0 ≤ (c.take k).sum ∧ (c.take k).sum ≤ c.sum := by
  have h1 : Pos1 (c.take k) := fun x hx => h x (List.mem_of_mem_take hx)
  have h2 : Pos1 (c.drop k) := fun x hx => h x (List.mem_of_mem_drop hx)
  have := congrArg List.sum (List.take_append_drop k c)
  rw [List.sum_append] at this
  have := h1.sum
  have := h2.sum
  omega
theorem wthS_step {c : List Int} {k : Nat} {a d : Int} (hk : c[k]? = some a) : wthS (c.drop k) (d - (c.take k).sum) = ((decide (d > (c.take k).sum) && decide (d < (c.take k).sum + a)) || wthS (c.drop (k + 1)) (d - (c.take (k + 1)).sum)) := by
  have hlt := (List.getElem?_eq_some_iff.1 hk).1
  have e : c.drop k = a :: c.drop (k + 1) := by
    rw [List.drop_eq_getElem_cons hlt]
    congr 1
    have := List.getElem?_eq_getElem hlt
    rw [hk] at this
    simpa using this.symm
  rw [e, wthS, take_one hk, List.sum_append]
  congr 1
  · congr 1
    · exact decide_eq_decide.2 (by omega)
    · exact decide_eq_decide.2 (by omega)
  · congr 1
    simp; omega
set_option maxRecDepth 100000 in
set_option maxHeartbeats 8000000 in
theorem rwithin_any (x : Fv) (Cc : Option Addr) (cc : Nat) (d : Int) (w : World) (hc : CRow w Cc cc x.c) (hp : Pos1 x.c) (hs : x.c.sum ≤ 2147483647) (hd : 0 ≤ d ∧ d ≤ 2147483647) :
    Calls Try.prog 35 #[fvV x Cc cc, .int .i64 d] w fun e w' => e = .returned (.bool (wthS x.c d)) ∧ Below w.heap.size w w' := by
  obtain ⟨xt, xa, xr, xk, c⟩ := x
  simp only at hc hp hs
  show Calls Try.prog 35 #[.agg #[.int .i64 xt, .int .i64 xa, .int .i64 xr, .int .i64 xk, .slice Cc c.length cc], .int .i64 d] w fun e w' => e = .returned (.bool (wthS c d)) ∧ Below w.heap.size w w'
  have b0 : Below w.heap.size w (w.alloc (.cells #[.int .i64 xt, .int .i64 xa, .int .i64 xr, .int .i64 xk, .slice Cc c.length cc] 60)) := (Below.refl _ _).alloc (Nat.le_refl _) _
  have c4 := cell_of_row (w.alloc (.cells #[.int .i64 xt, .int .i64 xa, .int .i64 xr, .int .i64 xk, .slice Cc c.length cc] 60)) w.heap.size 4 _ _ _ (heap_alloc_new w _)
  simp only [List.getElem?_toArray, List.getElem?_cons_zero, List.getElem?_cons_succ] at c4
  have hR := hc.later b0
  have hle := hc.le
  have hmx := hc.mx
  obtain ⟨n, hn⟩ : ∃ n, c.length = n := ⟨_, rfl⟩
  obtain ⟨W1, hW1⟩ : ∃ W1, w.alloc (.cells #[.int .i64 xt, .int .i64 xa, .int .i64 xr, .int .i64 xk, .slice Cc c.length cc] 60) = W1 := ⟨_, rfl⟩
  rw [hW1] at b0 c4 hR
  rw [hn] at hW1 c4 hle ⊢
  obtain ⟨bj, hbj⟩ : ∃ bj, w.heap.size = bj := ⟨_, rfl⟩
  rw [hbj] at c4
  have HR := Lib.hid hR
  have HN := Lib.hid hn
  have HP := Lib.hid hp
  have HB0 := Lib.hid b0
  have hst := fun k => sum_take c hp k
  have HST := Lib.hid hst
  have HW := Lib.hid (show wthS (c.drop 0) (d - (c.take 0).sum) = wthS c d by simp)
  clear hc hR hn hp hst b0
  go_enter Try.func35, Try.ntmps35
  go_upto_region 1 with (fail)
  try rw [hW1]
  try rw [hbj]
  clear hW1 hbj
  go_wp2
  go_loopw [5, 6] (fun a i wr => wr = W1 ∧ ∃ k : Nat, k ≤ n ∧ i = .int .i64 (k : Int) ∧ a = .int .i64 (c.take k).sum ∧ Hid (wthS (c.drop k) (d - (c.take k).sum) = wthS c d)) (fun _ i _ => n - (intOf i).toNat)
  case atStart => exact ⟨rfl, 0, Nat.zero_le _, rfl, by simp, HW⟩
  case round =>
    obtain ⟨hwr, k, hk, rfl, rfl, hI⟩ := hrel
    obtain rfl : W1 = wr := hwr.symm
    clear HW
    by_cases hlt : k < n
    · obtain ⟨b, o, a, rfl, hx, hwf, hbl, hcl⟩ := HR.out.get (k := k) (by rw [HN.out]; exact hlt)
      have hstep := wthS_step (d := d) hx
      rw [hI.out] at hstep
      have t1 := (HST.out k)
      have t2 := (HST.out (k + 1))
      have ht : (c.take (k + 1)).sum = (c.take k).sum + a := by rw [take_one hx, List.sum_append]; simp
      have ha := HP.out a (List.mem_of_getElem? hx)
      have HT := Lib.hid ht
      have HS := Lib.hid hstep
      rw [ht] at t2
      have hi0 : (0 : Int) ≤ (k : Int) := by omega
      have hi1 : (k : Int) < (n : Int) := by omega
      generalize (c.take k).sum = s at *
      clear ht hstep hx
      obtain ⟨g, hg⟩ : ∃ g, (decide (d > s) && decide (d < s + a)) = g := ⟨_, rfl⟩
      have HG := Lib.hid hg
      cases g with
      | true =>
        obtain ⟨g1, g2⟩ : d > s ∧ d < s + a := by simpa using hg
        have e1 : decide (d > s) = true := decide_eq_true g1
        have e1' : decide (s < d) = true := decide_eq_true g1
        have e2 : decide (d < s + a) = true := decide_eq_true g2
        clear hg
        go_wp2
        go_ret
        refine ⟨?_, HB0.out⟩
        rw [HS.out, HG.out]; rfl
      | false =>
        have HNX : Hid (wthS (c.drop (k + 1)) (d - (c.take (k + 1)).sum) = wthS c d) := Lib.hid (by rw [HS.out, HG.out]; rfl)
        by_cases g1 : d > s
        · have g2 : ¬ (d < s + a) := fun h => by rw [decide_eq_true g1, decide_eq_true h] at hg; cases hg
          have e1 : decide (d > s) = true := decide_eq_true g1
          have e1' : decide (s < d) = true := decide_eq_true g1
          have e2 : decide (d < s + a) = false := decide_eq_false g2
          clear hg
          go_wp2
          go_roundw
          case rel => exact ⟨trivial, k + 1, by omega, by go_num, by rw [HT.out], HNX⟩
          case measure => simp [intOf]; omega
        · have e1 : decide (d > s) = false := decide_eq_false g1
          have e1' : decide (s < d) = false := decide_eq_false g1
          clear hg
          go_wp2
          go_roundw
          case rel => exact ⟨trivial, k + 1, by omega, by go_num, by rw [HT.out], HNX⟩
          case measure => simp [intOf]; omega
    · obtain rfl : k = n := by omega
      go_wp2
      go_ret
      refine ⟨?_, HB0.out⟩
      have := hI.out
      rw [List.drop_of_length_le (by rw [HN.out]; exact Nat.le_refl _)] at this
      rw [← this]; rfl
def pkI : Option Nat → Int | none => -1 | some b => (b : Int)
set_option maxRecDepth 100000 in
set_option maxHeartbeats 16000000 in
theorem rpick_any {A R D : Option Addr} {cap rc dc : Nat} {ts : List Ts} {js : List Fv} {dn : List Int} (t : Int) (w : World) (hT : Row w A cap ts) (hR : FRow w R rc js) (hD : CRow w D dc dn) (hl : dn.length = js.length) (ht : ∀ i, i < js.length → 0 ≤ (jb js i).t ∧ (jb js i).t < ts.length) (hn : js.length ≤ 1000) (hm : ts.length ≤ 1000) :
    Calls Try.prog 36 #[.slice A ts.length cap, .slice R js.length rc, .slice D js.length dc, .int .i64 t] w fun e w' => e = .returned (.int .i64 (pkI (pkN ts js dn t js.length))) ∧ Below w.heap.size w w' := by
  have HT := Lib.hid hT
  have HR := Lib.hid hR
  have HD := Lib.hid hD
  have HTT := Lib.hid ht
  have HL := Lib.hid hl
  have HB := Lib.hid (fun k => (pkN_spec (ts := ts) (js := js) (dn := dn) (t := t) k).2)
  have r1 := hR.le
  have r2 := hR.mx
  have d1 := hD.le
  have d2 := hD.mx
  have e1 := hT.le
  have e2 := hT.mx
  rw [hl] at d1
  obtain ⟨n, hn0⟩ : ∃ n, js.length = n := ⟨_, rfl⟩
  obtain ⟨m, hm0⟩ : ∃ m, ts.length = m := ⟨_, rfl⟩
  have HN := Lib.hid hn0
  have HM := Lib.hid hm0
  rw [hn0] at hn r1 d1 ⊢
  rw [hm0] at hm e1 ⊢
  clear hT hR hD ht hl hn0 hm0
  go_enter Try.func36, Try.ntmps36
  go_wp2
  go_loopw [9, 10] (fun b i wr => ∃ k : Nat, k ≤ n ∧ i = .int .i64 (k : Int) ∧ b = .int .i64 (pkI (pkN ts js dn t k)) ∧ Hid (Below w.heap.size w wr)) (fun _ i _ => n - (intOf i).toNat)
  case atStart => exact ⟨0, Nat.zero_le _, rfl, rfl, Lib.hid (Below.refl _ _)⟩
  case round =>
    obtain ⟨k, hk, rfl, rfl, hB⟩ := hrel
    by_cases hlt : k < n
    · have hkj : k < js.length := by rw [HN.out]; exact hlt
      obtain ⟨rb, ro, x, C, cc, rfl, hx, hrl, hF⟩ := (HR.out.later hB.out).get (k := k) hkj
      obtain ⟨db, d0, y, rfl, hy, hyw, hdl, hyc⟩ := (HD.out.later hB.out).get (k := k) (by rw [HL.out]; exact hkj)
      have hxe := jb_get hx
      subst hxe
      have hye : kO dn k = y := by simp [kO, hy]
      have c0 := hF.c0
      have c2 := hF.c2
      have c3 := hF.c3
      have hi0 : (0 : Int) ≤ (k : Int) := by omega
      have hi1 : (k : Int) < (n : Int) := by omega
      have hs := pkN_succ (ts := ts) (js := js) (dn := dn) (t := t) k
      unfold pk1 at hs
      have HS := Lib.hid hs
      have HY := Lib.hid hye
      clear hs hx hy hye hF
      by_cases g1 : (jb js k).r ≤ t
      · have t1 : decide ((jb js k).r ≤ t) = true := decide_eq_true g1
        by_cases g2 : y < (jb js k).k
        · have t2 : decide (y < (jb js k).k) = true := decide_eq_true g2
          have hrd : rdy js dn t k = true := rdy_iff.2 ⟨g1, by rw [HY.out]; exact g2⟩
          obtain ⟨p0, p1⟩ := HTT.out k hkj
          obtain ⟨tb, tq, z, rfl, hz, hzw, htb, hZ⟩ := (HT.out.later hB.out).get (k := (jb js k).t.toNat) (by omega)
          have hzt : tk ts (jb js k).t = z := by have := tk_get hz; rw [show (((jb js k).t.toNat : Nat) : Int) = (jb js k).t by omega] at this; exact this
          have z6 := hZ.c6
          cases hp : pkN ts js dn t k with
          | none =>
            have HNX : Hid (pkN ts js dn t (k + 1) = some k) := Lib.hid (by rw [HS.out, hrd, hp] <;> rfl)
            have t3 : decide ((-1 : Int) < 0) = true := rfl
            simp only [pkI]
            clear hZ hz hzt z6 hrd hp HS
            go_upto_region 5 with (fail)
            go_quiet (fail)
            go_wp2
            go_roundw
            case rel => exact ⟨k + 1, by omega, by go_num, by rw [HNX.out] <;> rfl, Lib.hid (hB.out.trans ((below_drewN2 wr _).mono hB.out.size))⟩
            case measure => simp [intOf]; omega
          | some b =>
            have hbs := HB.out k b hp
            have hbj : b < js.length := by have := hbs.1; omega
            obtain ⟨q0, q1⟩ := HTT.out b hbj
            obtain ⟨rb', ro', x', C', cc', hRe, hx', hrl', hF'⟩ := (HR.out.later hB.out).get (k := b) hbj
            simp only [Option.some.injEq, Addr.mk.injEq, and_true] at hRe
            obtain ⟨rfl, rfl⟩ := hRe
            have hxe' := jb_get hx'
            subst hxe'
            have b0 := hF'.c0
            obtain ⟨tb', tq', z', hTe, hz', hzw', htb', hZ'⟩ := (HT.out.later hB.out).get (k := (jb js b).t.toNat) (by omega)
            simp only [Option.some.injEq, Addr.mk.injEq, and_true] at hTe
            obtain ⟨rfl, rfl⟩ := hTe
            have hzt' : tk ts (jb js b).t = z' := by have := tk_get hz'; rw [show (((jb js b).t.toNat : Nat) : Int) = (jb js b).t by omega] at this; exact this
            have z6' := hZ'.c6
            have t3 : decide ((b : Int) < 0) = false := decide_eq_false (by omega)
            have j0 : (0 : Int) ≤ (b : Int) := by omega
            have j1 : (b : Int) < (n : Int) := by have := hbs.1; omega
            obtain ⟨u, hu⟩ : ∃ u : Nat, (jb js k).t = (u : Int) := ⟨(jb js k).t.toNat, by omega⟩
            obtain ⟨u', hu'⟩ : ∃ u' : Nat, (jb js b).t = (u' : Int) := ⟨(jb js b).t.toNat, by omega⟩
            rw [hu] at c0 z6 p1
            rw [hu'] at b0 z6' q1
            simp only [Int.toNat_natCast] at z6 z6'
            have l0 : (0 : Int) ≤ (u : Int) := by omega
            have l1 : (u : Int) < (m : Int) := by rw [← HM.out]; exact p1
            have l0' : (0 : Int) ≤ (u' : Int) := by omega
            have l1' : (u' : Int) < (m : Int) := by rw [← HM.out]; exact q1
            simp only [pkI]
            by_cases g4 : z.p < z'.p
            · have t4 : decide (z.p < z'.p) = true := decide_eq_true g4
              have HNX : Hid (pkN ts js dn t (k + 1) = some k) := Lib.hid (by
                rw [HS.out, hrd, hp]
                simp only [prO, hzt, hzt', t4, Bool.and_self, if_true])
              clear hZ hz hzt hrd hp HS hbs hF' hx' hZ' hz' hzt' hu hu' p0 p1 q0 q1
              go_upto_region 5 with (fail)
              go_quiet (fail)
              go_wp2
              go_roundw
              case rel => exact ⟨k + 1, by omega, by go_num, by rw [HNX.out] <;> rfl, Lib.hid (hB.out.trans ((below_drewN2 wr _).mono hB.out.size))⟩
              case measure => simp [intOf]; omega
            · have t4 : decide (z.p < z'.p) = false := decide_eq_false g4
              have HNX : Hid (pkN ts js dn t (k + 1) = some b) := Lib.hid (by
                rw [HS.out, hrd, hp]
                simp only [prO, hzt, hzt', t4, Bool.and_false, Bool.false_eq_true, if_false])
              clear hZ hz hzt hrd hp HS hbs hF' hx' hZ' hz' hzt' hu hu' p0 p1 q0 q1
              go_upto_region 5 with (fail)
              go_quiet (fail)
              go_wp2
              go_roundw
              case rel => exact ⟨k + 1, by omega, by go_num, by rw [HNX.out] <;> rfl, Lib.hid (hB.out.trans ((below_drewN2 wr _).mono hB.out.size))⟩
              case measure => simp [intOf]; omega
        · have t2 : decide (y < (jb js k).k) = false := decide_eq_false g2
          have HNX : Hid (pkN ts js dn t (k + 1) = pkN ts js dn t k) := Lib.hid (by
            have hrd : rdy js dn t k = false := by rw [← Bool.not_eq_true, rdy_iff]; rw [HY.out]; omega
            rw [HS.out, hrd] <;> rfl)
          clear HS
          go_upto_region 5 with (fail)
          go_quiet (fail)
          go_wp2
          go_roundw
          case rel => exact ⟨k + 1, by omega, by go_num, by rw [HNX.out], Lib.hid (hB.out.trans ((below_drewN2 wr _).mono hB.out.size))⟩
          case measure => simp [intOf]; omega
      · have t1 : decide ((jb js k).r ≤ t) = false := decide_eq_false g1
        have HNX : Hid (pkN ts js dn t (k + 1) = pkN ts js dn t k) := Lib.hid (by
          have hrd : rdy js dn t k = false := by rw [← Bool.not_eq_true, rdy_iff]; omega
          rw [HS.out, hrd] <;> rfl)
        clear HS
        go_upto_region 5 with (fail)
        go_quiet (fail)
        go_wp2
        go_roundw
        case rel => exact ⟨k + 1, by omega, by go_num, by rw [HNX.out], Lib.hid (hB.out.trans ((below_drewN2 wr _).mono hB.out.size))⟩
        case measure => simp [intOf]; omega
    · obtain rfl : k = n := by omega
      go_wp2
      go_ret
      exact ⟨rfl, hB.out⟩
end Go.Proofs.Ytngmaiiibinkaaa
