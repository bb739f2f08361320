/- Texts about the program, one after the other: ETrc, ESame, KPure, KRep, KMap, KEnds, FewT. -/
import Derived.Test.YtngmaiiibinkaaaG1
import Derived.Laws.CopyOwn
import Derived.Laws.OwnMore
import Derived.Lib.SliceRun
import Derived.Test.YtngmaiiibinkaaaJArr
/- What a run's spans tell: ends, and busy rows. -/
namespace Go.Proofs.Ytngmaiiibinkaaa
set_option linter.unusedVariables false
set_option linter.unusedSimpArgs false
/-- When a job has run for so long, by spans; -1: it does not. (Spans of no tick count for none.) -/
def endS (i : Nat) : Int → List Spn → Int
  | _, [] => -1
  | left, x :: l => if x.j = i ∧ 0 < x.t - x.f then (if left ≤ x.t - x.f then x.f + left else endS i (left - (x.t - x.f)) l) else endS i left l
theorem endS_app (i : Nat) : ∀ (a : List Spn) (left : Int) (b : List Spn), (∀ x ∈ a, x.f < x.t) → 0 < left - lenS a i → endS i left (a ++ b) = endS i (left - lenS a i) b
  | [], left, b, _, _ => by simp [lenS]
  | x :: a, left, b, hp, hl => by
    have hx := hp x (by simp)
    have h0 : lenS (x :: a) i = (if x.j = i then x.t - x.f else 0) + lenS a i := by
      rw [show x :: a = [x] ++ a from rfl, lenS_app, lenS_one]
    have ha : 0 ≤ lenS a i := by
      have : ∀ l : List Spn, (∀ y ∈ l, y.f < y.t) → 0 ≤ lenS l i := by
        intro l
        induction l with
        | nil => intro _; simp [lenS]
        | cons y l ih =>
          intro h
          have h1 := ih (fun z hz => h z (List.mem_cons_of_mem _ hz))
          have h2 := h y (by simp)
          rw [show y :: l = [y] ++ l from rfl, lenS_app, lenS_one]
          split <;> omega
      exact this a (fun y hy => hp y (List.mem_cons_of_mem _ hy))
    rw [List.cons_append, endS]
    by_cases hj : x.j = i
    · rw [if_pos hj] at h0
      rw [if_pos ⟨hj, by omega⟩, if_neg (by omega), endS_app i a _ b (fun y hy => hp y (List.mem_cons_of_mem _ hy)) (by omega), h0]
      congr 1
      omega
    · rw [if_neg hj] at h0
      rw [if_neg (fun h => hj h.1), endS_app i a _ b (fun y hy => hp y (List.mem_cons_of_mem _ hy)) (by omega), h0]
      congr 1
      omega
theorem endS_none (i : Nat) : ∀ (l : List Spn) (left : Int), (∀ x ∈ l, x.f < x.t) → lenS l i < left → endS i left l = -1 := by
  intro l left hp hl
  have := endS_app i l left [] hp (by omega)
  rw [List.append_nil] at this
  rw [this]
  rfl
/-- Once it has ended, what comes behind is not looked at. -/
theorem endS_stay (i : Nat) : ∀ (a : List Spn) (left : Int) (b : List Spn), endS i left a ≠ -1 → endS i left (a ++ b) = endS i left a
  | [], left, b, h => absurd rfl h
  | x :: a, left, b, h => by
    rw [List.cons_append, endS, endS]
    rw [endS] at h
    split
    · rename_i hc
      rw [if_pos hc] at h
      split
      · rfl
      · rename_i hc2
        rw [if_neg hc2] at h
        exact endS_stay i a _ b h
    · rename_i hc
      rw [if_neg hc] at h
      exact endS_stay i a _ b h
section
variable {ts : List Ts} {js : List Fv}
/-- Spans tell when jobs end. -/
theorem end_all (hl : Lg js) : ∀ n : Nat, ∀ i, i < js.length → endS i (jb js i).k (tst ts js n).sp = kO (tst ts js n).en i
  | 0, i, hi => by
    show (-1 : Int) = kO (List.replicate js.length (-1)) i
    rw [kO_rep _ _ _ hi]
  | n + 1, i, hi => by
    have ih := end_all hl n i hi
    have hI := ti_all (ts := ts) hl n
    have hI1 := ti_all (ts := ts) hl (n + 1)
    have hW := wk_all (ts := ts) hl n
    have hW1 := wk_all (ts := ts) hl (n + 1)
    have hp1 : ∀ x ∈ (tst ts js (n + 1)).sp, x.f < x.t := fun x hx => (chn_mem hW1.ch x hx).2.1.2
    have hk1 := hl.k1 i hi
    cases hw : whoS ts js (tst ts js n) n with
    | none => rw [tst_succ, tstep_none hw]; exact ih
    | some c =>
      obtain ⟨g1, g2, g3⟩ := hI.who_some hl hw
      have hr0 := hl.r0 c g1
      have hsp : (tst ts js (n + 1)).sp = addN (tst ts js n).sp c n 1 := by rw [tst_succ, tstep_some hw]; rfl
      by_cases hnd : kO (tst ts js (n + 1)).dn i < (jb js i).k
      · -- it has not ended
        have h1 := endS_none i (tst ts js (n + 1)).sp (jb js i).k hp1 (by rw [hW1.wk i hi]; exact hnd)
        rcases hI1.en i hi with h2 | h2
        · rw [h1, h2.2]
        · omega
      · have hd : kO (tst ts js (n + 1)).dn i = (jb js i).k := by have := (hI1.d0 i hi).2; omega
        by_cases hic : i = c
        · -- it ends at this tick
          subst hic
          have hdn : kO (tst ts js (n + 1)).dn i = kO (tst ts js n).dn i + 1 := by
            rw [tst_succ, tstep_some hw]
            simp only [runM]
            rw [kO_set _ _ (by rw [hI.ld]; exact g1), if_pos rfl]
          have hen : kO (tst ts js (n + 1)).en i = (n : Int) + 1 := by
            rw [tst_succ, tstep_some hw] at hd ⊢
            simp only [runM] at hd ⊢
            rw [kO_set _ _ (by rw [hI.ld]; exact g1), if_pos rfl] at hd
            rw [if_pos hd, kO_set _ _ (by rw [hI.le]; exact g1), if_pos rfl]
          rw [hen, hsp]
          cases hx : exS0 (tst ts js n).sp i n with
          | false =>
            rw [ex0_no hx, endS_app i _ _ _ (fun x hx => (chn_mem hW.ch x hx).2.1.2) (by rw [hW.wk i hi]; omega), hW.wk i hi]
            rw [endS, if_pos ⟨rfl, by simp only; omega⟩, if_pos (by simp only; omega)]
            simp only; omega
          | true =>
            obtain ⟨l, x, e1, e2, e3, e4⟩ := ex0_yes (m := 1) hx
            have hlw := hW.wk i hi
            rw [e1, lenS_app, lenS_one, if_pos e2] at hlw
            have hxm : x ∈ (tst ts js n).sp := by rw [e1]; simp
            have hxp := (chn_mem hW.ch x hxm).2.1.2
            rw [e4, endS_app i l _ _ (fun y hy => (chn_mem hW.ch y (by rw [e1]; simp [hy])).2.1.2) (by omega)]
            rw [endS, if_pos ⟨e2, by simp only; omega⟩, if_pos (by simp only; omega)]
            simp only; omega
        · -- it had ended ahead
          have hd0 : kO (tst ts js n).dn i = (jb js i).k := by
            rw [tst_succ, tstep_some hw] at hd
            simp only [runM] at hd
            rwa [kO_set _ _ (by rw [hI.ld]; exact g1), if_neg hic] at hd
          have hen : kO (tst ts js (n + 1)).en i = kO (tst ts js n).en i := by
            rw [tst_succ, tstep_some hw]
            simp only [runM]
            split
            · rw [kO_set _ _ (by rw [hI.le]; exact g1), if_neg hic]
            · rfl
          have hne : endS i (jb js i).k (tst ts js n).sp ≠ -1 := by
            rw [ih]
            rcases hI.en i hi with h2 | h2 <;> omega
          rw [hen, ← ih, hsp]
          cases hx : exS0 (tst ts js n).sp c n with
          | false => rw [ex0_no hx, endS_stay i _ _ _ hne]
          | true =>
            obtain ⟨l, x, e1, e2, e3, e4⟩ := ex0_yes (m := 1) hx
            rw [e4]
            rw [e1] at hne ⊢
            -- the last span is another one's
            have key : ∀ (l : List Spn) (left : Int) (y z : Spn), y.j ≠ i → z.j ≠ i → endS i left (l ++ [y]) = endS i left (l ++ [z]) := by
              intro l
              induction l with
              | nil =>
                intro left y z hy hz
                simp [endS, hy, hz]
              | cons u l ih2 =>
                intro left y z hy hz
                rw [List.cons_append, List.cons_append, endS, endS, ih2 _ y z hy hz, ih2 _ y z hy hz]
            exact key l _ _ _ (by rw [e2]; exact fun h => hic h.symm) (by rw [e2]; exact fun h => hic h.symm)
/-- The tick at which a job ended: it was done then. -/
theorem en_is (hl : Lg js) : ∀ n : Nat, ∀ k, k < js.length → kO (tst ts js n).dn k = (jb js k).k → ∃ t : Nat, t ≤ n ∧ kO (tst ts js n).en k = (t : Int) ∧ kO (tst ts js t).dn k = (jb js k).k
  | 0, k, hk, h => by
    have := hl.k1 k hk
    have e : kO (tst ts js 0).dn k = 0 := kO_rep _ _ _ hk
    omega
  | n + 1, k, hk, h => by
    have hI := ti_all (ts := ts) hl n
    by_cases h0 : kO (tst ts js n).dn k = (jb js k).k
    · obtain ⟨t, h1, h2, h3⟩ := en_is hl n k hk h0
      refine ⟨t, by omega, ?_, h3⟩
      rw [← h2, tst_succ]
      cases hw : whoS ts js (tst ts js n) n with
      | none => rw [tstep_none hw]
      | some i =>
        obtain ⟨g1, g2, g3⟩ := hI.who_some hl hw
        rw [tstep_some hw]
        simp only [runM]
        split
        · rw [kO_set _ _ (by rw [hI.le]; exact g1), if_neg (fun e => by subst e; omega)]
        · rfl
    · refine ⟨n + 1, Nat.le_refl _, ?_, h⟩
      rw [tst_succ] at h ⊢
      cases hw : whoS ts js (tst ts js n) n with
      | none => rw [tstep_none hw] at h; exact absurd h h0
      | some i =>
        obtain ⟨g1, _, _⟩ := hI.who_some hl hw
        rw [tstep_some hw] at h ⊢
        simp only [runM] at h ⊢
        rw [kO_set _ _ (by rw [hI.ld]; exact g1)] at h
        by_cases e : k = i
        · subst e
          rw [if_pos rfl] at h
          rw [if_pos h, kO_set _ _ (by rw [hI.le]; exact g1), if_pos rfl]
          omega
        · rw [if_neg e] at h
          exact absurd h h0
/-- Spans that begin behind an idle tick begin with a release. -/
def bgn (js : List Fv) : Int → List Spn → Prop
  | _, [] => True
  | a, x :: l => (a < x.f → (jb js x.j).r = x.f) ∧ bgn js x.t l
theorem bgn_app (x : Spn) : ∀ (a : Int) (l : List Spn), bgn js a (l ++ [x]) ↔ bgn js a l ∧ bgn js ((l.getLast?.map (·.t)).getD a) [x]
  | a, [] => by simp [bgn]
  | a, y :: l => by
    rw [List.cons_append, bgn, bgn, bgn_app x y.t l]
    have : ((y :: l).getLast?.map (·.t)).getD a = (l.getLast?.map (·.t)).getD y.t := by
      rcases List.eq_nil_or_concat l with h | ⟨m, z, h⟩
      · subst h; rfl
      · rw [List.concat_eq_append] at h; subst h
        rw [← List.cons_append, List.getLast?_concat, List.getLast?_concat]
        rfl
    rw [this]
    constructor
    · rintro ⟨h1, h2, h3⟩; exact ⟨⟨h1, h2⟩, h3⟩
    · rintro ⟨⟨h1, h2⟩, h3⟩; exact ⟨h1, h2, h3⟩
/-- From a tick ahead of all on. -/
theorem bgn_all (hl : Lg js) : ∀ n : Nat, bgn js (-1) (tst ts js n).sp
  | 0 => trivial
  | n + 1 => by
    have h := bgn_all hl n
    have hI := ti_all (ts := ts) hl n
    have hW := wk_all (ts := ts) hl n
    rw [tst_succ]
    cases hw : whoS ts js (tst ts js n) n with
    | none => rw [tstep_none hw]; exact h
    | some i =>
      obtain ⟨g1, g2, g3⟩ := hI.who_some hl hw
      have hr0 := hl.r0 i g1
      rw [tstep_some hw]
      show bgn js (-1) (addN (tst ts js n).sp i n 1)
      cases hx : exS0 (tst ts js n).sp i n with
      | false =>
        rw [ex0_no hx]
        refine (bgn_app _ _ _).2 ⟨h, fun hlt => ?_, trivial⟩
        simp only at hlt ⊢
        -- nobody ran at the tick ahead, so it had not been released
        rcases Int.lt_or_le (jb js i).r n with hr | hr
        · exfalso
          cases hs : (tst ts js n).sp.getLast? with
          | none =>
            -- nothing has run: it would have been ready
            have hnil : (tst ts js n).sp = [] := List.getLast?_eq_none_iff.1 hs
            have hg : lastA (tst ts js n).sp < (n : Int) := by rw [hnil]; simp [lastA]; omega
            have := hW.gp hg i g1 hr
            rcases hI.en i g1 with h5 | h5 <;> omega
          | some y =>
            rw [hs] at hlt
            simp only [Option.map_some, Option.getD_some] at hlt
            have hg : lastA (tst ts js n).sp < (n : Int) := by unfold lastA; rw [hs]; simpa using hlt
            have := hW.gp hg i g1 hr
            rcases hI.en i g1 with h5 | h5 <;> omega
        · omega
      | true =>
        obtain ⟨l, x, e1, e2, e3, e4⟩ := ex0_yes (m := 1) hx
        rw [e4]
        rw [e1] at h
        obtain ⟨h1, h2⟩ := (bgn_app _ _ _).1 h
        exact (bgn_app _ _ _).2 ⟨h1, h2.1, trivial⟩
end
end Go.Proofs.Ytngmaiiibinkaaa
/- Are rows of spans, of ticks, the same? -/
namespace Go.Proofs.Ytngmaiiibinkaaa
open Go.RowKit
set_option linter.unusedVariables false
set_option linter.unusedSimpArgs false
attribute [local go_sem ↓] Go.wp_at_zero Go.wp_at_succ
/-- A slice that reads as spans. -/
structure SpR (w : World) (A : Option Addr) (cap : Nat) (l : List Spn) : Prop where
  le : l.length ≤ cap
  mx : cap ≤ 9223372036854775807
  at_ : ∀ i x, l[i]? = some x → ∃ b o, A = some ⟨b, o, none⟩ ∧ w.rangeAt b (o + i * 3) (snL x)
theorem SpR.later {w w' : World} {A : Option Addr} {cap : Nat} {l : List Spn} (h : SpR w A cap l) (hb : Below w.heap.size w w') : SpR w' A cap l := ⟨h.le, h.mx, fun i x hx => by
  obtain ⟨b, o, e, hr⟩ := h.at_ i x hx
  exact ⟨b, o, e, fun j v hv => cells_below hb _ _ _ (hr j v hv)⟩⟩
theorem SpR.get {w : World} {A : Option Addr} {cap : Nat} {l : List Spn} (h : SpR w A cap l) {k : Nat} (hk : k < l.length) : ∃ b o x, A = some ⟨b, o, none⟩ ∧ l[k]? = some x ∧ b < w.heap.size ∧
    w.cell? ⟨b, o + k * 3, none⟩ = some (.int .i64 (x.j : Int)) ∧ w.cell? ⟨b, o + k * 3 + 1, none⟩ = some (.int .i64 x.f) ∧ w.cell? ⟨b, o + k * 3 + 2, none⟩ = some (.int .i64 x.t) := by
  have hx : l[k]? = some l[k] := List.getElem?_eq_getElem hk
  obtain ⟨b, o, e, hr⟩ := h.at_ k _ hx
  have h0 := hr 0 _ rfl
  exact ⟨b, o, _, e, hx, World.block_lt_of_cell? w _ h0, h0, hr 1 _ rfl, hr 2 _ rfl⟩
theorem spC_get (l : List Spn) : ∀ (i : Nat) (x : Spn), l[i]? = some x → ∀ j v, (snL x)[j]? = some v → (spC l)[i * 3 + j]? = some v := by
  induction l with
  | nil => intro i x h; simp at h
  | cons a r ih =>
    intro i x h j v hv
    have hj : j < 3 := by
      rcases Nat.lt_or_ge j 3 with h | h
      · exact h
      · rw [List.getElem?_eq_none (by simp [snL]; omega)] at hv; cases hv
    have e : spC (a :: r) = snL a ++ spC r := rfl
    cases i with
    | zero =>
      simp at h; subst h
      rw [Nat.zero_mul, Nat.zero_add, e, List.getElem?_append_left (by simp [snL]; omega)]
      exact hv
    | succ i =>
      simp only [List.getElem?_cons_succ] at h
      have := ih i x h j v hv
      rw [e, List.getElem?_append_right (by simp [snL]; omega)]
      rw [show (i + 1) * 3 + j - (snL a).length = i * 3 + j by simp [snL]; omega]
      exact this
theorem spr_own {B : Nat} {w : World} {v : Value} {l : List Spn} (h : w.ownsRow B TSp 3 v l.length (spC l)) : ∃ A cap, v = .slice A l.length cap ∧ SpR w A cap l := by
  obtain ⟨A, cap, hv, hle, hmx⟩ := own_len h
  refine ⟨A, cap, hv, hle, by unfold maxLen at hmx; omega, fun i x hx => ?_⟩
  have hi := (List.getElem?_eq_some_iff.1 hx).1
  obtain ⟨g, cap', hv', hB, hgl, _, _, _⟩ := own_form h (by omega)
  rw [hv] at hv'
  simp only [Value.slice.injEq] at hv'
  obtain ⟨rfl, _, rfl⟩ := hv'
  refine ⟨g, 0, rfl, fun j u hu => ?_⟩
  rw [Nat.zero_add]
  exact own_cell h (g := g) (by rw [hv]; rfl) (spC_get l i x hx j u hu)
theorem SpR.nil {w : World} (A : Option Addr) (cap : Nat) (h : cap ≤ 9223372036854775807) : SpR w A cap [] := ⟨by simp, h, by simp⟩
set_option maxRecDepth 100000 in
set_option maxHeartbeats 4000000 in
/-- Equal rows of ticks. -/
theorem sameT_any {A A' : Option Addr} {cap cap' n : Nat} {l : List Int} (w : World) (h1 : CRow w A cap l) (h2 : CRow w A' cap' l) (hn : l.length = n) :
    Calls Try.prog 19 #[.slice A n cap, .slice A' n cap'] w fun e w' => e = .returned (.bool true) ∧ Below w.heap.size w w' := by
  have H1 := Lib.hid h1
  have H2 := Lib.hid h2
  have HN := Lib.hid hn
  have hmx := h1.mx
  have hle := h1.le
  rw [hn] at hle
  clear h1 h2 hn
  go_enter Try.func19, Try.ntmps19
  go_wp2
  go_loopw [5] (fun i wr => ∃ k : Nat, k ≤ n ∧ i = .int .i64 (k : Int) ∧ Hid (Below w.heap.size w wr)) (fun i _ => n - (intOf i).toNat)
  case atStart => exact ⟨0, Nat.zero_le _, rfl, Lib.hid (Below.refl _ _)⟩
  case round =>
    obtain ⟨k, hk, rfl, hB⟩ := hrel
    by_cases hlt : k < n
    · obtain ⟨b, o, x, rfl, hx, hw, hbl, a0⟩ := (H1.out.later hB.out).get (k := k) (by rw [HN.out]; exact hlt)
      obtain ⟨b', o', x', rfl, hx', hw', hbl', c0⟩ := (H2.out.later hB.out).get (k := k) (by rw [HN.out]; exact hlt)
      obtain rfl : x = x' := by rw [hx] at hx'; simpa using hx'
      have hi0 : (0 : Int) ≤ (k : Int) := by omega
      have hi1 : (k : Int) < (n : Int) := by omega
      clear hx hx'
      go_upto_region 6 with (fail)
      go_quiet (fail)
      go_wp2
      go_roundw
      case rel => exact ⟨k + 1, by omega, by go_num, Lib.hid (hB.out.trans ((below_drewN2 wr _).mono hB.out.size))⟩
      case measure => simp [intOf]; omega
    · obtain rfl : k = n := by omega
      go_wp2
      go_ret
      exact ⟨rfl, hB.out⟩
end Go.Proofs.Ytngmaiiibinkaaa
/- What a run tells, as plain functions: ends, responses, the worst, misses, busy rows. -/
namespace Go.Proofs.Ytngmaiiibinkaaa
open Go.RowKit
set_option linter.unusedVariables false
set_option linter.unusedSimpArgs false
/-! ### Spans of whatever jobs -/
structure Sq where
  j : Int
  f : Int
  t : Int
deriving DecidableEq
def toQ (x : Spn) : Sq := ⟨(x.j : Int), x.f, x.t⟩
def sqL (x : Sq) : List Value := [.int .i64 x.j, .int .i64 x.f, .int .i64 x.t]
def sqC (l : List Sq) : List Value := l.flatMap sqL
theorem toQ_inj {x y : Spn} (h : toQ x = toQ y) : x = y := by
  cases x; cases y
  simp only [toQ, Sq.mk.injEq] at h
  obtain ⟨h1, h2, h3⟩ := h
  simp only [Spn.mk.injEq]
  exact ⟨by omega, h2, h3⟩
theorem toQ_map_inj : ∀ {a b : List Spn}, a.map toQ = b.map toQ → a = b
  | [], [], _ => rfl
  | [], _ :: _, h => by simp at h
  | _ :: _, [], h => by simp at h
  | x :: a, y :: b, h => by
    simp only [List.map_cons, List.cons.injEq] at h
    rw [toQ_inj h.1, toQ_map_inj h.2]
theorem spC_sqC (l : List Spn) : spC l = sqC (l.map toQ) := by
  induction l with
  | nil => rfl
  | cons a l ih =>
    rw [List.map_cons, sqC, List.flatMap_cons, ← sqC, ← ih]; rfl
theorem sqC_app (a b : List Sq) : sqC (a ++ b) = sqC a ++ sqC b := by simp [sqC]
theorem sqC_len : ∀ l : List Sq, (sqC l).length = l.length * 3
  | [] => rfl
  | a :: l => by rw [sqC, List.flatMap_cons, List.length_append, ← sqC, sqC_len l, List.length_cons]; simp [sqL]; omega
theorem sqL_one (x : Sq) : ∀ u ∈ sqL x, u.oneCell' = true := by
  intro u hu
  simp only [sqL, List.mem_cons, List.not_mem_nil, or_false] at hu
  rcases hu with rfl | rfl | rfl <;> rfl
theorem sqC_get (l : List Sq) : ∀ (i : Nat) (x : Sq), l[i]? = some x → ∀ j v, (sqL x)[j]? = some v → (sqC l)[i * 3 + j]? = some v := by
  induction l with
  | nil => intro i x h; simp at h
  | cons a r ih =>
    intro i x h j v hv
    have hj : j < 3 := by
      rcases Nat.lt_or_ge j 3 with h | h
      · exact h
      · rw [List.getElem?_eq_none (by simp [sqL]; omega)] at hv; cases hv
    have e : sqC (a :: r) = sqL a ++ sqC r := rfl
    cases i with
    | zero =>
      simp at h; subst h
      rw [Nat.zero_mul, Nat.zero_add, e, List.getElem?_append_left (by simp [sqL]; omega)]
      exact hv
    | succ i =>
      simp only [List.getElem?_cons_succ] at h
      have := ih i x h j v hv
      rw [e, List.getElem?_append_right (by simp [sqL]; omega)]
      rw [show (i + 1) * 3 + j - (sqL a).length = i * 3 + j by simp [sqL]; omega]
      exact this
/-- A slice that reads as spans. -/
structure SqR (w : World) (A : Option Addr) (cap : Nat) (l : List Sq) : Prop where
  le : l.length ≤ cap
  mx : cap ≤ 9223372036854775807
  wf : ∀ x ∈ l, in64 x.j ∧ in64 x.f ∧ in64 x.t
  at_ : ∀ i x, l[i]? = some x → ∃ b o, A = some ⟨b, o, none⟩ ∧ w.rangeAt b (o + i * 3) (sqL x)
theorem SqR.later {w w' : World} {A : Option Addr} {cap : Nat} {l : List Sq} (h : SqR w A cap l) (hb : Below w.heap.size w w') : SqR w' A cap l := ⟨h.le, h.mx, h.wf, fun i x hx => by
  obtain ⟨b, o, e, hr⟩ := h.at_ i x hx
  exact ⟨b, o, e, fun j v hv => cells_below hb _ _ _ (hr j v hv)⟩⟩
theorem SqR.nil {w : World} (A : Option Addr) (cap : Nat) (h : cap ≤ 9223372036854775807) : SqR w A cap [] := ⟨by simp, h, by simp, by simp⟩
theorem SqR.get {w : World} {A : Option Addr} {cap : Nat} {l : List Sq} (h : SqR w A cap l) {k : Nat} (hk : k < l.length) : ∃ b o x, A = some ⟨b, o, none⟩ ∧ l[k]? = some x ∧ b < w.heap.size ∧
    w.cell? ⟨b, o + k * 3, none⟩ = some (.int .i64 x.j) ∧ w.cell? ⟨b, o + k * 3 + 1, none⟩ = some (.int .i64 x.f) ∧ w.cell? ⟨b, o + k * 3 + 2, none⟩ = some (.int .i64 x.t) := by
  have hx : l[k]? = some l[k] := List.getElem?_eq_getElem hk
  obtain ⟨b, o, e, hr⟩ := h.at_ k _ hx
  have h0 := hr 0 _ rfl
  exact ⟨b, o, _, e, hx, World.block_lt_of_cell? w _ h0, h0, hr 1 _ rfl, hr 2 _ rfl⟩
theorem SpR.sq {w : World} {A : Option Addr} {cap : Nat} {l : List Spn} (h : SpR w A cap l) (hw : ∀ x ∈ l, (x.j : Int) ≤ 9223372036854775807 ∧ in64 x.f ∧ in64 x.t) : SqR w A cap (l.map toQ) :=
  ⟨by rw [List.length_map]; exact h.le, h.mx, fun y hy => by
    obtain ⟨x, hx, rfl⟩ := List.mem_map.1 hy
    have := hw x hx
    exact ⟨⟨by simp only [toQ]; omega, this.1⟩, this.2⟩, fun i y hy => by
    rw [List.getElem?_map] at hy
    cases hx : l[i]? with
    | none => rw [hx] at hy; cases hy
    | some x =>
      rw [hx] at hy
      simp only [Option.map_some, Option.some.injEq] at hy
      subst hy
      exact h.at_ i x hx⟩
theorem sqr_own {B : Nat} {w : World} {v : Value} {l : List Sq} (h : w.ownsRow B TSp 3 v l.length (sqC l)) (hw : ∀ x ∈ l, in64 x.j ∧ in64 x.f ∧ in64 x.t) : ∃ A cap, v = .slice A l.length cap ∧ SqR w A cap l := by
  obtain ⟨A, cap, hv, hle, hmx⟩ := own_len h
  refine ⟨A, cap, hv, ⟨hle, by unfold maxLen at hmx; omega, hw, fun i x hx => ?_⟩⟩
  have hi := (List.getElem?_eq_some_iff.1 hx).1
  obtain ⟨g, cap', hv', hB, hgl, _, _, _⟩ := own_form h (by omega)
  rw [hv] at hv'
  simp only [Value.slice.injEq] at hv'
  obtain ⟨rfl, _, rfl⟩ := hv'
  refine ⟨g, 0, rfl, fun j u hu => ?_⟩
  rw [Nat.zero_add]
  exact own_cell h (g := g) (by rw [hv]; rfl) (sqC_get l i x hx j u hu)

/-! ### Ends -/
def totQ (i : Int) : List Sq → Int
  | [] => 0
  | x :: l => (if x.j = i ∧ 0 < x.t - x.f then x.t - x.f else 0) + totQ i l
def endQ (i : Int) : Int → List Sq → Int
  | _, [] => -1
  | W, x :: l => if x.j = i ∧ 0 < x.t - x.f then (if W ≤ x.t - x.f then x.f + W else endQ i (W - (x.t - x.f)) l) else endQ i W l
theorem totQ_pos (i : Int) : ∀ l : List Sq, 0 ≤ totQ i l
  | [] => by simp [totQ]
  | x :: l => by have := totQ_pos i l; rw [totQ]; split <;> omega
theorem totQ_app (i : Int) : ∀ a b : List Sq, totQ i (a ++ b) = totQ i a + totQ i b
  | [], b => by simp [totQ]
  | x :: a, b => by rw [List.cons_append, totQ, totQ, totQ_app i a b]; omega
theorem totQ_one (i : Int) (x : Sq) : totQ i [x] = if x.j = i ∧ 0 < x.t - x.f then x.t - x.f else 0 := by simp [totQ]
theorem endQ_snoc (i : Int) (x : Sq) : ∀ (l : List Sq) (W : Int), 1 ≤ W → endQ i W (l ++ [x]) = if W ≤ totQ i l then endQ i W l else if x.j = i ∧ 0 < x.t - x.f then (if W - totQ i l ≤ x.t - x.f then x.f + (W - totQ i l) else -1) else -1
  | [], W, hW => by
    rw [List.nil_append, if_neg (by simp [totQ]; omega)]
    simp [endQ, totQ]
  | y :: l, W, hW => by
    have h0 := totQ_pos i l
    rw [List.cons_append, endQ, totQ]
    by_cases hy : y.j = i ∧ 0 < y.t - y.f
    · rw [if_pos hy, if_pos hy]
      by_cases h1 : W ≤ y.t - y.f
      · rw [if_pos h1, if_pos (by omega), endQ, if_pos hy, if_pos h1]
      · rw [if_neg h1, endQ_snoc i x l _ (by omega)]
        by_cases h2 : W - (y.t - y.f) ≤ totQ i l
        · rw [if_pos h2, if_pos (by omega), endQ, if_pos hy, if_neg h1]
        · rw [if_neg h2, if_neg (show ¬ W ≤ y.t - y.f + totQ i l by omega), show W - (y.t - y.f + totQ i l) = W - (y.t - y.f) - totQ i l by omega]
    · rw [if_neg hy, if_neg hy, endQ_snoc i x l W hW, Int.zero_add]
      by_cases h2 : W ≤ totQ i l
      · rw [if_pos h2, if_pos h2, endQ, if_neg hy]
      · rw [if_neg h2, if_neg h2]
/-- It has not ended as long as it has run for less. -/
theorem endQ_no (i : Int) : ∀ (l : List Sq) (W : Int), totQ i l < W → endQ i W l = -1
  | [], W, h => rfl
  | x :: l, W, h => by
    have h0 := totQ_pos i l
    rw [totQ] at h
    rw [endQ]
    by_cases hx : x.j = i ∧ 0 < x.t - x.f
    · rw [if_pos hx] at h ⊢
      rw [if_neg (by omega)]
      exact endQ_no i l _ (by omega)
    · rw [if_neg hx] at h ⊢
      exact endQ_no i l _ (by omega)
/-- It ends within a span. -/
theorem endQ_in (i : Int) : ∀ (l : List Sq) (W : Int), 1 ≤ W → W ≤ totQ i l → ∃ x ∈ l, x.f < endQ i W l ∧ endQ i W l ≤ x.t
  | [], W, hW, h => by simp [totQ] at h; omega
  | x :: l, W, hW, h => by
    rw [totQ] at h
    rw [endQ]
    by_cases hx : x.j = i ∧ 0 < x.t - x.f
    · rw [if_pos hx] at h ⊢
      by_cases h1 : W ≤ x.t - x.f
      · rw [if_pos h1]
        exact ⟨x, by simp, by omega, by omega⟩
      · rw [if_neg h1]
        obtain ⟨y, hy, h2⟩ := endQ_in i l _ (by omega) (show W - (x.t - x.f) ≤ totQ i l by omega)
        exact ⟨y, by simp [hy], h2⟩
    · rw [if_neg hx] at h ⊢
      obtain ⟨y, hy, h2⟩ := endQ_in i l _ hW (by omega)
      exact ⟨y, by simp [hy], h2⟩
/-- All ends, by places. -/
def endsQ (js : List Fv) (l : List Sq) : List Int := (List.range js.length).map fun (i : Nat) => endQ (i : Int) (jb js i).k l
theorem endsQ_len (js : List Fv) (l : List Sq) : (endsQ js l).length = js.length := by simp [endsQ]
theorem endsQ_get {js : List Fv} {l : List Sq} {i : Nat} (hi : i < js.length) : kO (endsQ js l) i = endQ (i : Int) (jb js i).k l := by
  simp [endsQ, kO, hi]
/-- For how long a job has run, up to its Work; none: it has not begun. -/
def ranQ (js : List Fv) (l : List Sq) (i : Int) : Option Int :=
  if 0 ≤ i ∧ i < js.length ∧ 0 < totQ i l then some (min (jb js i.toNat).k (totQ i l)) else none

/-! ### Responses -/
def respS (js : List Fv) (en : List Int) (i : Int) : Option Int :=
  if 0 ≤ i ∧ i < js.length ∧ i < en.length ∧ 0 ≤ kO en i.toNat then some (kO en i.toNat - (jb js i.toNat).a) else none
def worst1 (js : List Fv) (en : List Int) (task : Int) (a : Option (Int × Nat)) (i : Nat) : Option (Int × Nat) :=
  if (jb js i).t = task then
    match respS js en (i : Int), a with
    | some r, some (g, p) => if g < r then some (r, i) else some (g, p)
    | some r, none => some (r, i)
    | none, a => a
  else a
def worstS (js : List Fv) (en : List Int) (task : Int) (n : Nat) : Option (Int × Nat) := (List.range n).foldl (worst1 js en task) none
theorem worstS_succ (js : List Fv) (en : List Int) (task : Int) (n : Nat) : worstS js en task (n + 1) = worst1 js en task (worstS js en task n) n := by
  simp [worstS, List.range_succ]
def missB (ts : List Ts) (js : List Fv) (en : List Int) (i : Nat) : Bool :=
  decide (0 ≤ (jb js i).t) && decide ((jb js i).t < ts.length) && (match respS js en (i : Int) with | none => true | some r => decide ((tk ts (jb js i).t).d < r))
def missS (ts : List Ts) (js : List Fv) (en : List Int) (n : Nat) : List Nat := (List.range n).filter (missB ts js en)
theorem missS_succ (ts : List Ts) (js : List Fv) (en : List Int) (n : Nat) : missS ts js en (n + 1) = missS ts js en n ++ (if missB ts js en n then [n] else []) := by
  rw [missS, List.range_succ, List.filter_append, missS]
  congr 1
  cases h : missB ts js en n <;> simp [h]
theorem missS_len (ts : List Ts) (js : List Fv) (en : List Int) (n : Nat) : (missS ts js en n).length ≤ n := by
  have := List.length_filter_le (missB ts js en) (List.range n)
  rw [List.length_range] at this
  exact this

/-! ### Busy rows -/
/-- A row of ticks goes on: what comes behind it, and where it ends. -/
def runQ : Int → List Sq → Int × List Sq
  | e, [] => (e, [])
  | e, x :: l => if x.f = e then runQ x.t l else (e, x :: l)
theorem runQ_len : ∀ (e : Int) (l : List Sq), (runQ e l).2.length ≤ l.length
  | e, [] => Nat.le_refl _
  | e, x :: l => by
    rw [runQ]
    split
    · have := runQ_len x.t l; simp; omega
    · exact Nat.le_refl _
def busyQ : List Sq → List (Int × Int)
  | [] => []
  | x :: l => (x.f, (runQ x.t l).1) :: busyQ (runQ x.t l).2
termination_by l => l.length
decreasing_by have := runQ_len x.t l; simp; omega
def longQ (l : List Sq) : Int := ((busyQ l).map fun p => p.2 - p.1).sum
end Go.Proofs.Ytngmaiiibinkaaa
/- slices.Repeat of one number; places. -/
namespace Go.Proofs.Ytngmaiiibinkaaa
open Go.RowKit Go.Shelf
set_option linter.unusedVariables false
set_option linter.unusedSimpArgs false
attribute [local go_sem ↓] Go.wp_at_zero Go.wp_at_succ
theorem isPlace_any (i n : Int) (w : World) : Calls Try.prog 38 #[.int .i64 i, .int .i64 n] w fun e w' => e = .returned (.bool (decide (0 ≤ i) && decide (i < n))) ∧ w = w' := by
  by_cases h1 : 0 ≤ i <;> by_cases h2 : i < n <;>
    (go_enter Try.func38, Try.ntmps38
     go_wp2
     go_ret
     simp [h1, h2])
/-- A row whose first m things are -1, all others 0. -/
def repL (m n : Nat) : List Value := List.replicate m (Value.int .i64 (-1)) ++ List.replicate (n - m) (Value.int .i64 0)
theorem repL_len {m n : Nat} (h : m ≤ n) : (repL m n).length = n := by simp [repL]; omega
theorem repL_get {m n j : Nat} (hj : j < m) : (repL m n)[j]? = some (.int .i64 (-1)) := by
  rw [repL, List.getElem?_append_left (by simpa using hj)]
  simp [hj]
theorem repL_splice {m c n : Nat} (h : m + c ≤ n) : splice (repL m n) m (List.replicate c (Value.int .i64 (-1))) = repL (m + c) n := by
  have e1 : (repL m n).take m = List.replicate m (Value.int .i64 (-1)) := by
    rw [repL, List.take_left' (by simp)]
  have e2 : (repL m n).drop (m + c) = List.replicate (n - (m + c)) (Value.int .i64 0) := by
    rw [repL, List.drop_append, List.drop_of_length_le (by simp), List.nil_append, List.length_replicate, List.drop_replicate]
    congr 1
    omega
  rw [splice, List.length_replicate, e1, e2, repL, ← List.append_assoc, List.replicate_append_replicate]
theorem cut_l (g n m : Nat) (hm : m < n) (hn : n ≤ 1000000000) (W : World) : (Instr.slice 25 (.slice (some ⟨g, 0, none⟩) n n) (some (.int .i64 (m : Int))) none none).run Try.prog W = .ok (.slice (some ⟨g, m, none⟩) (n - m) (n - m)) W := by
  have hs : (sizeOf (Try.prog.elem 25)).run Try.prog W = .ok 1 W := by kernel_rfl
  rw [run_slice_l W 25 (some ⟨g, 0, none⟩) n n (by kernel_rfl) .i64 m (by omega) (by omega), hs]
  simp only [Result.andThen, sliced, Int.toNat_natCast, Nat.mul_one]
  rw [if_neg (by omega)]
  simp [add_none]
theorem cut_h (g n m : Nat) (hm : m ≤ n) (hn : n ≤ 1000000000) (W : World) : (Instr.slice 25 (.slice (some ⟨g, 0, none⟩) n n) none (some (.int .i64 (m : Int))) none).run Try.prog W = .ok (.slice (some ⟨g, 0, none⟩) m n) W := by
  have hs : (sizeOf (Try.prog.elem 25)).run Try.prog W = .ok 1 W := by kernel_rfl
  rw [run_slice_h W 25 (some ⟨g, 0, none⟩) n n (by kernel_rfl) .i64 m (by omega) (by omega), hs]
  simp only [Result.andThen, sliced, Int.toNat_natCast, Nat.mul_one, Nat.sub_zero]
  split <;> simp [add_none]
theorem repL_splice0 {n : Nat} (h : 1 ≤ n) : splice (repL 0 n) 0 [Value.int .i64 (-1)] = repL 1 n := repL_splice (m := 0) (c := 1) (by omega)
structure RpS (w : World) (g n m : Nat) (wr : World) : Prop where
  is : wr.heap[g]? = some (.cells (repL m n).toArray T64 (0, 0))
  bel : Below w.heap.size w wr
def RepP (n : Nat) (w : World) (e : Ending) (w' : World) : Prop := ∃ g, e = .returned (.slice (some ⟨g, 0, none⟩) n n) ∧ w.heap.size ≤ g ∧ w'.ownsRow w.heap.size T64 1 (.slice (some ⟨g, 0, none⟩) n n) n (List.replicate n (.int .i64 (-1))) ∧ Below w.heap.size w w'
theorem RpS.end_ {w wr : World} {g n : Nat} (h : RpS w g n n wr) (hg : w.heap.size ≤ g) (hn : n ≤ 1000) : RepP n w (.returned (.slice (some ⟨g, 0, none⟩) n n)) wr := by
  have e : repL n n = List.replicate n (.int .i64 (-1)) := by simp [repL]
  refine ⟨g, rfl, hg, ⟨by simp, .inr ⟨g, n, _, rfl, hg, h.is, Nat.le_refl _, by unfold maxLen; omega, by rw [e]; simp, by rw [e]; simp⟩⟩, h.bel⟩
theorem mulL (n : Nat) (hn : n ≤ 1000) (w : World) : Calls Try.prog 41 #[.int .u64 1, .int .u64 (n : Int)] w fun e w' => e = .returned (.tuple #[.int .u64 0, .int .u64 (n : Int)]) ∧ w = w' := by
  have h := Try.bits_Mul 1 n (by omega) (by omega) w
  have e1 : ((1 * n / 18446744073709551616 : Nat) : Int) = 0 := by omega
  have e2 : ((1 * n % 18446744073709551616 : Nat) : Int) = (n : Int) := by omega
  rw [e1, e2] at h
  exact h.mono fun e w' h => ⟨h.1, h.2.symm⟩
theorem wrapU (n : Nat) (hn : n ≤ 1000) : IntKind.u64.wrap (n : Int) = (n : Int) := by rw [IntKind.wrap_u64]; omega
theorem wrapI (n : Nat) (hn : n ≤ 1000) : IntKind.i64.wrap (n : Int) = (n : Int) := IntWalk.i64_in _ (by omega)
theorem notUp (n : Nat) (hn : n ≤ 1000) : decide ((n : Int) > 9223372036854775807) = false := decide_eq_false (by omega)
theorem wrapMC (m c n : Nat) (hn : n ≤ 1000) (h : m + c ≤ n) : wrap64 ((m : Int) + (c : Int)) = ((m + c : Nat) : Int) := by rw [IntWalk.wrap64_in _ (by omega)]; omega
set_option maxRecDepth 100000 in
set_option maxHeartbeats 4000000 in
theorem repeat_any (n bx : Nat) (hn : n ≤ 1000) (w : World) (hx : w.cell? ⟨bx, 0, none⟩ = some (.int .i64 (-1))) :
    Calls Try.prog 37 #[.slice (some ⟨bx, 0, none⟩) 1 1, .int .i64 (n : Int)] w (RepP n w) := by
  have HM := Lib.hid (fun W => mulL n hn W)
  have HK := fun W => make_64 n hn W
  have hc1 := wrapU n hn
  have hc2 := wrapI n hn
  have t1 : decide ((n : Int) < 0) = false := decide_eq_false (by omega)
  have t2 := notUp n hn
  obtain ⟨W1, hW1⟩ : ∃ W1, w.alloc (.cells (madeCells #[Value.int .i64 0] n) T64) = W1 := ⟨_, rfl⟩
  have R0 : RpS w w.heap.size n 0 W1 := by
    rw [← hW1]
    refine ⟨?_, (Below.refl _ _).alloc (Nat.le_refl _) _⟩
    rw [heap_alloc_new]
    congr 2
    apply Array.ext'
    rw [toList_madeCells_one]
    simp [repL]
  have HX1 : W1.cell? ⟨bx, 0, none⟩ = some (.int .i64 (-1)) := by
    rw [← hW1]; exact cells_below ((Below.refl _ _).alloc (Nat.le_refl _) _) _ _ _ hx
  have HX := Lib.hid HX1
  obtain ⟨g, hg⟩ : ∃ g, w.heap.size = g := ⟨_, rfl⟩
  rw [hg] at R0
  have HR := Lib.hid R0
  have HG := Lib.hid hg
  have HW1 := Lib.hid hW1
  clear R0 HX1 hW1 hx
  clear hg
  go_enter Try.func37, Try.ntmps37
  go_upto_region 7 with (go_at_call 41; (with_reducible refine (HM.out _).mono ?_); rintro e w2 ⟨rfl, rfl⟩)
  rw [HW1.out, HG.out]
  by_cases h0 : n = 0
  · subst h0
    have hr0 : (Builtin.copy_ #[25, 25] 3 #[.slice (some ⟨g, 0, none⟩) 0 0, .slice (some ⟨bx, 0, none⟩) 1 1]).run Try.prog W1 = .ok (.int .i64 0) W1 :=
      run_copy_none (P := Try.prog) W1 25 25 3 T64 (some ⟨g, 0, none⟩) (some ⟨bx, 0, none⟩) 0 0 1 1 Try.underlying25 (by kernel_rfl) rfl
    go_wp2
    go_loopw [8] (fun i wr => i = .int .i64 0 ∧ wr = W1) (fun i _ => 0)
    case atStart => exact ⟨rfl, rfl⟩
    case round =>
      obtain ⟨rfl, rfl⟩ := hrel
      go_wp2
      go_ret
      exact HR.out.end_ (by rw [HG.out]; exact Nat.le_refl _) (by omega)
  · have HN0 := Lib.hid h0
    have hsrc : ∀ (j : Nat) (v : Value), [Value.int .i64 (-1)][j]? = some v → W1.cell? ((⟨bx, 0, none⟩ : Addr).add j) = some v := by
      intro j v hj
      cases j with
      | zero => simp at hj; subst hj; rw [add_none]; exact HX.out
      | succ j => simp at hj
    have hmin : [Value.int .i64 (-1)].length = Nat.min 1 n := by show 1 = min 1 n; omega
    have hfit : 0 + [Value.int .i64 (-1)].length ≤ (repL 0 n).length := by rw [repL_len (by omega)]; simp; omega
    have hone : ∀ v ∈ [Value.int .i64 (-1)], v.oneCell' = true := by intro v hv; simp at hv; subst hv; rfl
    have hbg : w.heap.size ≤ g := by rw [HG.out]; exact Nat.le_refl _
    have HA := Lib.hid hsrc
    have HA2 := Lib.hid hmin
    have HA3 := Lib.hid hfit
    have HA4 := Lib.hid hone
    have HA5 := Lib.hid hbg
    clear hsrc hmin hfit hone hbg
    go_wp2_with ((with_reducible show wpList _ _ _ (⟨some 33, _, _, _, _, _⟩ :: _) _ _); go_loud (refine wpList_copy_splice rfl (.tmp 31) (.tmp 32) 25 25 rfl T64 Try.underlying25 (by kernel_rfl) (some ⟨g, 0, none⟩) (some ⟨bx, 0, none⟩) n n 1 1 rfl rfl g 0 (repL 0 n) T64 HR.out.is [Value.int .i64 (-1)] HA2.out (fun _ => ⟨rfl, _, rfl, HA.out⟩) HA3.out HA4.out _ _ HR.out.bel HA5.out ?_; intro w4 hg4 hb4))
    have HG4 : Hid (RpS w g n 1 w4) := Lib.hid ⟨by rw [repL_splice0 (by omega)] at hg4; exact hg4.out, hb4⟩
    clear hg4 hb4 HA HA2 HA3 HA4 HA5 HR
    have HK0 := Lib.hid (show 0 < n by omega)
    clear h0
    go_loopw [8] (fun i wr => ∃ m : Nat, 0 < m ∧ m ≤ n ∧ i = .int .i64 (m : Int) ∧ Hid (RpS w g n m wr)) (fun i _ => n - (intOf i).toNat)
    case atStart => exact ⟨1, by omega, HK0.out, rfl, HG4⟩
    case round =>
      obtain ⟨m, hm0, hm, rfl, hS⟩ := hrel
      by_cases hlt : m < n
      · have hi0 : (0 : Int) ≤ (m : Int) := by omega
        have hi1 : (m : Int) < (n : Int) := by omega
        have HL := fun W => cut_l g n m hlt (by omega) W
        have HH := fun W => cut_h g n m hm (by omega) W
        have HLT := Lib.hid hlt
        obtain ⟨c, hc⟩ : ∃ c, min m (n - m) = c := ⟨_, rfl⟩
        have hc0 : 0 < c ∧ m + c ≤ n := by omega
        obtain ⟨cs, hcs⟩ : ∃ cs, List.replicate c (Value.int .i64 (-1)) = cs := ⟨_, rfl⟩
        obtain ⟨cu, hcu⟩ : ∃ cu, repL m n = cu := ⟨_, rfl⟩
        have A1 := Lib.hid (show cs.length = Nat.min m (n - m) by rw [← hcs, List.length_replicate]; exact hc.symm)
        have A1' := Lib.hid (show cs.length = c by rw [← hcs, List.length_replicate])
        have A2 := Lib.hid (show wr.drew.heap[g]? = some (.cells cu.toArray T64 (0, 0)) by rw [← hcu]; exact hS.out.is)
        have A3 := Lib.hid (show ∀ (j : Nat) (v : Value), cs[j]? = some v → wr.drew.cell? ((⟨g, 0, none⟩ : Addr).add j) = some v from fun j v hj => by
          rw [← hcs] at hj
          have hjl := (List.getElem?_eq_some_iff.1 hj).1
          rw [List.length_replicate] at hjl
          have hv := (List.getElem?_eq_some_iff.1 hj).2
          rw [List.getElem_replicate] at hv
          rw [add_none, Nat.zero_add, cell_of_row wr.drew g j _ _ _ A2.out, ← hcu, ← hv, List.getElem?_toArray]
          exact repL_get (by omega))
        have A4 := Lib.hid (show m + cs.length ≤ cu.length by rw [← hcu, repL_len hm, A1'.out]; omega)
        have A5 := Lib.hid (show ∀ v ∈ cs, v.oneCell' = true from fun v hv => by rw [← hcs] at hv; rw [List.eq_of_mem_replicate hv]; rfl)
        have hrun := run_copy_row (P := Try.prog) wr.drew 25 25 3 T64 g m (n - m) (n - m) ⟨g, 0, none⟩ m n cu.toArray T64 cs Try.underlying25 (by kernel_rfl) A2.out A1.out A3.out (by simpa using A4.out) A5.out
        obtain ⟨W5, hW5⟩ : ∃ W5, wr.drew.setRow g (cu.toArray.toList.take m ++ cs ++ cu.toArray.toList.drop (m + cs.length)).toArray = W5 := ⟨_, rfl⟩
        rw [hW5, A1'.out] at hrun
        have hrun : (Builtin.copy_ #[25, 25] 3 #[.slice (some ⟨g, m, none⟩) (n - m) (n - m), .slice (some ⟨g, 0, none⟩) m n]).run Try.prog wr.drew = .ok (.int .i64 (c : Int)) W5 := hrun
        have HG5 : Hid (RpS w g n (m + c) W5) := Lib.hid ⟨by
          rw [← hW5, ← repL_splice hc0.2, splice, List.length_replicate, hcu, hcs]
          have h := setRow_heap wr.drew g _ (cu.toArray.toList.take m ++ cs ++ cu.toArray.toList.drop (m + cs.length)).toArray T64 _ A2.out
          rw [h, A1'.out, List.append_assoc], by
          rw [← hW5]; exact below_setRow hS.out.bel.drew (by rw [HG.out]; exact Nat.le_refl _) _⟩
        obtain ⟨q, hq⟩ : ∃ q, m + c = q := ⟨_, rfl⟩
        have hw1 := wrapMC m c n hn hc0.2
        rw [hq] at hw1 HG5 hc0
        have HC := Lib.hid (show m < q ∧ q ≤ n by omega)
        clear hq
        clear hS hc hc0 hcs hcu hW5 A1 A1' A2 A3 A4 A5
        go_upto_region 9 with (fail)
        go_region
        simp only [hw1]
        clear hw1
        all_goals go_wp2
        all_goals go_roundw
        case rel => exact ⟨q, by have := HC.out.1; omega, HC.out.2, rfl, HG5⟩
        case measure => have := HC.out.1; simp [intOf]; omega
      · obtain rfl : m = n := by omega
        go_wp2
        go_ret
        exact hS.out.end_ (by rw [HG.out]; exact Nat.le_refl _) (by omega)
end Go.Proofs.Ytngmaiiibinkaaa
/- A map of numbers by numbers. -/
namespace Go.Proofs.Ytngmaiiibinkaaa
open Go.RowKit
set_option linter.unusedVariables false
set_option linter.unusedSimpArgs false
def alook (s : Int) : List (Int × Int) → Option Int
  | [] => none
  | p :: l => if s = p.1 then some p.2 else alook s l
def aput (s v : Int) : List (Int × Int) → List (Int × Int)
  | [] => [(s, v)]
  | p :: l => if s = p.1 then (s, v) :: l else p :: aput s v l
theorem alook_put (s v k : Int) : ∀ l : List (Int × Int), alook k (aput s v l) = if k = s then some v else alook k l
  | [] => by simp [aput, alook]
  | p :: l => by
    rw [aput]
    by_cases h : s = p.1
    · rw [if_pos h, alook, alook]
      by_cases hk : k = s
      · simp [hk]
      · rw [if_neg hk, if_neg hk, if_neg (by rw [← h]; exact hk)]
    · rw [if_neg h, alook, alook, alook_put s v k l]
      by_cases hk : k = s
      · rw [if_pos hk, if_neg (by rw [hk]; exact h), if_pos hk]
      · rw [if_neg hk, if_neg hk]
def entK (al : List (Int × Int)) : List Value := al.map fun p => .int .i64 p.1
def entV (al : List (Int × Int)) : List Value := al.map fun p => .int .i64 p.2
/-- Block r holds a map that tells f. -/
def MapI (w : World) (r : Nat) (f : Int → Option Int) : Prop := ∃ es c al, w.heap[r]? = some (.map es c) ∧ es.toList.map (·.key) = entK al ∧ es.toList.map (·.val) = entV al ∧ ∀ k, alook k al = f k
theorem MapI.lt {w : World} {r : Nat} {f : Int → Option Int} (h : MapI w r f) : r < w.heap.size := by
  obtain ⟨es, c, al, h1, _⟩ := h
  exact (Array.getElem?_eq_some_iff.1 h1).1
theorem MapI.same {w w' : World} {r : Nat} {f : Int → Option Int} (h : MapI w r f) (hb : w'.heap[r]? = w.heap[r]?) : MapI w' r f := by
  obtain ⟨es, c, al, h1, h2⟩ := h
  exact ⟨es, c, al, hb.trans h1, h2⟩
theorem MapI.later {w w' : World} {r : Nat} {f : Int → Option Int} (h : MapI w r f) (hb : Below w.heap.size w w') : MapI w' r f := h.same (hb.block r h.lt)
theorem MapI.made (w : World) : MapI (w.alloc (.map #[] 0)) w.heap.size (fun _ => none) := ⟨#[], 0, [], heap_alloc_new w _, rfl, rfl, fun _ => rfl⟩
theorem MapI.of {w : World} {r : Nat} {f g : Int → Option Int} (h : MapI w r f) (e : ∀ k, f k = g k) : MapI w r g := by
  obtain ⟨es, c, al, h1, h2, h3, h4⟩ := h
  exact ⟨es, c, al, h1, h2, h3, fun k => (h4 k).trans (e k)⟩
theorem find_al (s : Int) (kk : IntKind) : ∀ (es : List MapEntry) (al : List (Int × Int)) (i : Nat), es.map (·.key) = entK al → es.map (·.val) = entV al →
    (alook s al = none → Instr.findNow (.int kk) (.int .i64 s) es i = some none ∧ ∀ v, aput s v al = al ++ [(s, v)]) ∧
    (∀ v, alook s al = some v → ∃ j e, es[j]? = some e ∧ e.key = .int .i64 s ∧ Instr.findNow (.int kk) (.int .i64 s) es i = some (some (i + j, .int .i64 v)) ∧
      ∀ v', (es.modify j fun e => { e with key := .int .i64 s, val := .int .i64 v' }).map (·.key) = entK (aput s v' al) ∧ (es.modify j fun e => { e with key := .int .i64 s, val := .int .i64 v' }).map (·.val) = entV (aput s v' al))
  | [], al, i, h, h' => by
    cases al with
    | nil => exact ⟨fun _ => ⟨rfl, fun v => rfl⟩, fun v hv => by simp [alook] at hv⟩
    | cons a r => simp [entK] at h
  | e :: es, al, i, h, h' => by
    cases al with
    | nil => simp [entK] at h
    | cons a r =>
      simp only [entK, entV, List.map_cons, List.cons.injEq] at h h'
      obtain ⟨h1, h2⟩ := h
      obtain ⟨h3, h4⟩ := h'
      have ih := find_al s kk es r (i + 1) h2 h4
      unfold Instr.findNow
      rw [h1]
      simp only [Instr.sameNow, if_true]
      by_cases hs : s = a.1
      · have hb : (s == a.1) = true := by simpa using hs
        simp only [hb]
        refine ⟨fun hn => (by rw [alook, if_pos hs] at hn; cases hn), fun v hv => ?_⟩
        rw [alook, if_pos hs] at hv
        simp only [Option.some.injEq] at hv
        refine ⟨0, e, rfl, by rw [h1, ← hs], (by rw [h3, hv]; rfl), fun v' => ?_⟩
        rw [aput, if_pos hs]
        simp [entK, entV, h2, h4]
      · have hb : (s == a.1) = false := by simpa using hs
        simp only [hb]
        refine ⟨fun hn => ?_, fun v hv => ?_⟩
        · rw [alook, if_neg hs] at hn
          obtain ⟨f1, f2⟩ := ih.1 hn
          exact ⟨f1, fun v => by rw [aput, if_neg hs, f2 v]; rfl⟩
        · rw [alook, if_neg hs] at hv
          obtain ⟨j, e', g1, g2, g3, g4⟩ := ih.2 v hv
          refine ⟨j + 1, e', g1, g2, (by rw [g3]; congr 3; omega), fun v' => ?_⟩
          obtain ⟨q1, q2⟩ := g4 v'
          rw [aput, if_neg hs]
          simp only [List.modify_succ_cons, List.map_cons, entK, entV] at q1 q2 ⊢
          exact ⟨by rw [h1, q1], by rw [h3, q2]⟩
/-- A look-up, with ok. -/
theorem MapI.look {w : World} {r : Nat} {f : Int → Option Int} (h : MapI w r f) (s : Int) :
    (Instr.lookup 81 (.map (some r)) (.int .i64 s) true).run Try.prog w = .ok (.tuple #[.int .i64 ((f s).getD 0), .bool (f s).isSome]) w := by
  obtain ⟨es, c, al, h1, h2, h3, h4⟩ := h
  have hg := getObj_map h1
  have hf := fun k => find_al s k es.toList al 0 h2 h3
  cases hb : f s with
  | none =>
    have hn := fun k => ((hf k).1 ((h4 s).trans hb)).1
    simp [Instr.lookup, hg, checkKey_int, Instr.findKey, hn]
  | some v =>
    obtain ⟨j, e, -, -, hfe, -⟩ := (hf .i64).2 v ((h4 s).trans hb)
    simp [Instr.lookup, hg, checkKey_int, Instr.findKey, hfe]
theorem same_int (n : Nat) (s : Int) : Instr.sameBits n (.int .i64 s) (.int .i64 s) = true := by
  cases n <;> simp [Instr.sameBits]
/-- A store. -/
theorem MapI.put {w : World} {r : Nat} {f : Int → Option Int} (h : MapI w r f) (s v : Int) :
    ∃ o, (Instr.mapUpdate 81 (.map (some r)) (.int .i64 s) (.int .i64 v)).run Try.prog w = .ok () (w.putObj r o) ∧ MapI (w.putObj r o) r (fun k => if k = s then some v else f k) := by
  have hlt := h.lt
  obtain ⟨es, c, al, h1, h2, h3, h4⟩ := h
  have hg := getObj_map h1
  have hs := setObj_map h1
  have hf := fun k => find_al s k es.toList al 0 h2 h3
  cases hb : alook s al with
  | none =>
    have hn := fun k => ((hf k).1 hb).1
    have ha := ((hf .i64).1 hb).2 v
    refine ⟨.map (es.push { key := .int .i64 s, val := .int .i64 v, born := c }) (c + 1), by simp [Instr.mapUpdate, hg, checkKey_int, Instr.findKey, hn, hs], _, _, aput s v al, World.putObj_heap_same hlt, ?_, ?_, fun k => by rw [alook_put, h4]⟩
    · rw [ha]; simp [h2, entK]
    · rw [ha]; simp [h3, entV]
  | some v0 =>
    obtain ⟨j, e, he, hk, hfe, hm⟩ := (hf .i64).2 v0 hb
    obtain ⟨m1, m2⟩ := hm v
    have hej : es[j]? = some e := by simpa using he
    rw [Nat.zero_add] at hfe
    refine ⟨.map (es.modify j fun e => { e with key := .int .i64 s, val := .int .i64 v }) c, ?_, _, _, aput s v al, World.putObj_heap_same hlt, ?_, ?_, fun k => by rw [alook_put, h4]⟩
    · simp [Instr.mapUpdate, hg, checkKey_int, Instr.findKey, hfe, hej, hk, Instr.keyThatStays, same_int, hs]
    · simpa using m1
    · simpa using m2
end Go.Proofs.Ytngmaiiibinkaaa
/- trace.Ends. -/
namespace Go.Proofs.Ytngmaiiibinkaaa
open Go.RowKit Go.Shelf
set_option linter.unusedVariables false
set_option linter.unusedSimpArgs false
attribute [local go_sem ↓] Go.wp_at_zero Go.wp_at_succ
structure EdH (js : List Fv) (l : List Sq) : Prop where
  k1 : ∀ i, i < js.length → 1 ≤ (jb js i).k ∧ (jb js i).k ≤ 1000000000000000000
  bd : ∀ x ∈ l, -1000000000000000000 ≤ x.f ∧ x.f ≤ 1000000000000000000 ∧ -1000000000000000000 ≤ x.t ∧ x.t ≤ 1000000000000000000
  fj : js.length ≤ 1000
  fl : l.length ≤ 1000000
structure EdS (w0 : World) (g r n : Nat) (js : List Fv) (l : List Sq) (w : World) : Prop where
  own : ∃ es : List Int, w.ownsRow w0.heap.size T64 1 (.slice (some ⟨g, 0, none⟩) n n) n (numL es) ∧ es.length = n ∧ ∀ i, i < n → kO es i = endQ (i : Int) (jb js i).k l
  map : MapI w r (ranQ js l)
  bel : Below w0.heap.size w0 w
  ge : w0.heap.size ≤ r
  ne : g ≠ r
section
variable {w0 w w' : World} {g r n : Nat} {js : List Fv} {l : List Sq} {x : Sq}
theorem EdS.later (h : EdS w0 g r n js l w) (hb : Below w.heap.size w w') : EdS w0 g r n js l w' := by
  obtain ⟨es, h1, h2, h3⟩ := h.own
  exact ⟨⟨es, (Kept.of [] hb).row h1 (by simp), h2, h3⟩, h.map.later hb, h.bel.trans (hb.mono h.bel.size), h.ge, h.ne⟩
theorem EdS.fz (h : EdS w0 g r n js l w) (hn : 0 < n) (i : Nat) : w.frozen? ⟨g, i, none⟩ = false := by
  obtain ⟨es, h1, h2, h3⟩ := h.own
  obtain ⟨g', c', hv, -, -, -, -, hf⟩ := own_form h1 hn
  simp only [Value.slice.injEq, Option.some.injEq, Addr.mk.injEq, and_true] at hv
  obtain ⟨rfl, -⟩ := hv
  exact hf i
theorem EdS.cell (h : EdS w0 g r n js l w) {i : Nat} (hi : i < n) : ∃ v, w.cell? ⟨g, i, none⟩ = some v := by
  obtain ⟨es, h1, h2, h3⟩ := h.own
  exact ⟨_, own_cell h1 (g := g) rfl (i := i) (by rw [numL, List.getElem?_map, List.getElem?_eq_getElem (show i < es.length by omega)]; rfl)⟩
theorem ranQ_snoc {s : Int} : ranQ js (l ++ [x]) s = if s = x.j ∧ 0 < x.t - x.f ∧ 0 ≤ s ∧ s < js.length then some (min (jb js s.toNat).k (totQ s l + (x.t - x.f))) else ranQ js l s := by
  have h0 := totQ_pos s l
  unfold ranQ
  rw [totQ_app, totQ_one]
  by_cases hc : s = x.j ∧ 0 < x.t - x.f ∧ 0 ≤ s ∧ s < js.length
  · rw [if_pos hc, if_pos (show x.j = s ∧ 0 < x.t - x.f from ⟨hc.1.symm, hc.2.1⟩), if_pos (by omega)]
  · rw [if_neg hc]
    by_cases h1 : x.j = s ∧ 0 < x.t - x.f
    · rw [if_neg (by omega), if_neg (by omega)]
    · rw [if_neg h1, Int.add_zero]
theorem EdS.skip (h : EdS w0 g r n js l w) (hk : ∀ i, i < js.length → 1 ≤ (jb js i).k) (hn : n = js.length) (hx : ¬ (0 ≤ x.j ∧ x.j < n) ∨ x.t - x.f ≤ 0) : EdS w0 g r n js (l ++ [x]) w := by
  obtain ⟨es, h1, h2, h3⟩ := h.own
  refine ⟨⟨es, h1, h2, fun i hi => ?_⟩, h.map.of (fun s => ?_), h.bel, h.ge, h.ne⟩
  · rw [h3 i hi, endQ_snoc _ _ _ _ (hk i (by omega))]
    split
    · rfl
    · rename_i hlt
      rw [if_neg (by omega), endQ_no _ _ _ (by omega)]
  · rw [ranQ_snoc, if_neg (by omega)]
theorem EdS.past {i : Nat} (h : EdS w0 g r n js l w) (hk : ∀ i, i < js.length → 1 ≤ (jb js i).k) (hn : n = js.length) (hi : i < n) (hx : x.j = (i : Int)) (hW : (jb js i).k ≤ totQ (i : Int) l) : EdS w0 g r n js (l ++ [x]) w := by
  obtain ⟨es, h1, h2, h3⟩ := h.own
  refine ⟨⟨es, h1, h2, fun q hq => ?_⟩, h.map.of (fun s => ?_), h.bel, h.ge, h.ne⟩
  · rw [h3 q hq, endQ_snoc _ _ _ _ (hk q (by omega))]
    split
    · rfl
    · rename_i hlt
      have : q ≠ i := fun e => by subst e; exact hlt hW
      rw [if_neg (by omega), endQ_no _ _ _ (by omega)]
  · rw [ranQ_snoc]
    split
    · rename_i hc
      obtain ⟨rfl, h5, h6, h7⟩ := hc
      have hk1 := hk i (by omega)
      unfold ranQ
      rw [hx, if_pos (by omega)]
      simp only [Int.toNat_natCast]
      exact congrArg some (by omega)
    · rfl
theorem EdS.look {i : Nat} (h : EdS w0 g r n js l w) (hk : ∀ i, i < js.length → 1 ≤ (jb js i).k) (hn : n = js.length) (hi : i < n) :
    (Instr.lookup 81 (.map (some r)) (.int .i64 (i : Int)) true).run Try.prog w = .ok (.tuple #[.int .i64 (min (jb js i).k (totQ (i : Int) l)), .bool (decide (0 < totQ (i : Int) l))]) w := by
  rw [h.map.look]
  have h0 := totQ_pos (i : Int) l
  have h1 := hk i (by omega)
  unfold ranQ
  by_cases h2 : 0 < totQ (i : Int) l
  · rw [if_pos (by omega), decide_eq_true h2]; simp
  · rw [if_neg (by omega), decide_eq_false h2, show min (jb js i).k (totQ (i : Int) l) = 0 by omega]; simp
/-- It runs on. -/
theorem EdS.more {i : Nat} (h : EdS w0 g r n js l w) (hk : ∀ i, i < js.length → 1 ≤ (jb js i).k) (hn : n = js.length) (hi : i < n) (hx : x.j = (i : Int)) (hl : 0 < x.t - x.f) (hW : totQ (i : Int) l < (jb js i).k) (hm : x.t - x.f < (jb js i).k - totQ (i : Int) l) {v : Int} (hv : v = totQ (i : Int) l + (x.t - x.f)) :
    ∃ o, (Instr.mapUpdate 81 (.map (some r)) (.int .i64 (i : Int)) (.int .i64 v)).run Try.prog w = .ok () (w.putObj r o) ∧ EdS w0 g r n js (l ++ [x]) (w.putObj r o) := by
  obtain ⟨o, ho, hm2⟩ := h.map.put (i : Int) v
  obtain ⟨es, h1, h2, h3⟩ := h.own
  have kp : Kept [r] w (w.putObj r o) := (Kept.refl [r] w).put r o (by simp)
  refine ⟨o, ho, ⟨es, kp.row h1 (by intro q hq; simp [Value.ownBlock] at hq; simp; have := h.ne; omega), h2, fun q hq => ?_⟩, hm2.of (fun s => ?_), h.bel.trans (kp.below h.bel.size (fun k hk => by simp at hk; have := h.ge; omega)), h.ge, h.ne⟩
  · rw [h3 q hq, endQ_snoc _ _ _ _ (hk q (by omega))]
    split
    · rfl
    · rename_i hlt
      by_cases e : q = i
      · subst e
        rw [if_pos ⟨hx, hl⟩, if_neg (by omega), endQ_no _ _ _ (by omega)]
      · rw [if_neg (by omega), endQ_no _ _ _ (by omega)]
  · rw [ranQ_snoc]
    by_cases e : s = (i : Int)
    · rw [e, if_pos rfl, if_pos ⟨hx.symm, hl, by omega, by omega⟩, hv]
      simp only [Int.toNat_natCast]
      exact congrArg some (by omega)
    · rw [if_neg e, if_neg (by omega)]
/-- It ends. -/
theorem EdS.ends {i : Nat} (h : EdS w0 g r n js l w) (hk : ∀ i, i < js.length → 1 ≤ (jb js i).k) (hn : n = js.length) (hi : i < n) (hx : x.j = (i : Int)) (hl : 0 < x.t - x.f) (hW : totQ (i : Int) l < (jb js i).k) (hm : (jb js i).k - totQ (i : Int) l ≤ x.t - x.f) {v e : Int} (hv : v = (jb js i).k) (he : e = x.f + ((jb js i).k - totQ (i : Int) l)) :
    ∃ o, (Instr.mapUpdate 81 (.map (some r)) (.int .i64 (i : Int)) (.int .i64 v)).run Try.prog (w.setCell ⟨g, i, none⟩ (.int .i64 e)) = .ok () ((w.setCell ⟨g, i, none⟩ (.int .i64 e)).putObj r o) ∧ EdS w0 g r n js (l ++ [x]) ((w.setCell ⟨g, i, none⟩ (.int .i64 e)).putObj r o) := by
  obtain ⟨es, h1, h2, h3⟩ := h.own
  have hg := (h1.lt g rfl).1
  have kp1 : Kept [g] w (w.setCell ⟨g, i, none⟩ (.int .i64 e)) := (Kept.refl [g] w).set g i _ (by simp)
  have hmp : MapI (w.setCell ⟨g, i, none⟩ (.int .i64 e)) r (ranQ js l) := h.map.same (kp1.block r h.map.lt (by simp; have := h.ne; omega))
  obtain ⟨o, ho, hm2⟩ := hmp.put (i : Int) v
  have kp : Kept [r] (w.setCell ⟨g, i, none⟩ (.int .i64 e)) ((w.setCell ⟨g, i, none⟩ (.int .i64 e)).putObj r o) := (Kept.refl [r] _).put r o (by simp)
  have h1' := own_set h1 (g := g) rfl (i := i) (by omega) (.int .i64 e)
  have en : (numL es).set i (.int .i64 e) = numL (es.set i e) := by simp [numL, List.map_set]
  rw [en] at h1'
  refine ⟨o, ho, ⟨es.set i e, kp.row h1' (by intro q hq; simp [Value.ownBlock] at hq; simp; have := h.ne; omega), by rw [List.length_set]; exact h2, fun q hq => ?_⟩, hm2.of (fun s => ?_), (h.bel.setCell (p := ⟨g, i, none⟩) hg _).trans (kp.below (by have := h.bel.size; simp [World.setCell]; exact this) (fun k hk => by simp at hk; have := h.ge; omega)), h.ge, h.ne⟩
  · rw [kO_set _ _ (by omega), endQ_snoc _ _ _ _ (hk q (by omega))]
    by_cases e' : q = i
    · subst e'
      rw [if_pos rfl, if_neg (by omega), if_pos ⟨hx, hl⟩, if_pos hm, he]
    · rw [if_neg e', h3 q hq]
      split
      · rfl
      · rename_i hlt
        rw [if_neg (by omega), endQ_no _ _ _ (by omega)]
  · rw [ranQ_snoc]
    by_cases e' : s = (i : Int)
    · rw [e', if_pos rfl, if_pos ⟨hx.symm, hl, by omega, by omega⟩, hv]
      simp only [Int.toNat_natCast]
      exact congrArg some (by omega)
    · rw [if_neg e', if_neg (by omega)]
end
def EndP (js : List Fv) (l : List Sq) (w : World) (e : Ending) (w' : World) : Prop := ∃ g, e = .returned (.slice (some ⟨g, 0, none⟩) js.length js.length) ∧ CRow w' (some ⟨g, 0, none⟩) js.length (endsQ js l) ∧ Below w.heap.size w w'
theorem endsQ_bd {js : List Fv} {l : List Sq} (h : EdH js l) : ∀ x ∈ endsQ js l, in64 x := by
  intro x hx
  obtain ⟨i, hi, rfl⟩ := List.mem_map.1 hx
  rw [List.mem_range] at hi
  have hk := h.k1 i hi
  rcases Int.lt_or_le (totQ (i : Int) l) (jb js i).k with h1 | h1
  · rw [endQ_no _ _ _ h1]; unfold in64; omega
  · obtain ⟨y, hy, h2⟩ := endQ_in (i : Int) l _ hk.1 h1
    have := h.bd y hy
    unfold in64; omega
theorem EdS.done {w0 w : World} {g r n : Nat} {js : List Fv} {l : List Sq} (h : EdS w0 g r n js l w) (hn : n = js.length) (hH : EdH js l) : EndP js l w0 (.returned (.slice (some ⟨g, 0, none⟩) n n)) w := by
  obtain ⟨es, h1, h2, h3⟩ := h.own
  have e : es = endsQ js l := by
    apply List.ext_getElem
    · rw [h2, endsQ_len, hn]
    · intro i hi1 hi2
      have a := h3 i (by omega)
      have b := endsQ_get (js := js) (l := l) (i := i) (by omega)
      have a1 : kO es i = es[i] := by simp [kO, hi1]
      have b1 : kO (endsQ js l) i = (endsQ js l)[i] := by simp [kO, hi2]
      rw [← a1, ← b1, a, b]
  rw [e] at h1
  obtain ⟨A, c, hv, hl, hC, _⟩ := crow_own h1 (endsQ_bd hH)
  simp only [Value.slice.injEq] at hv
  obtain ⟨rfl, hv2, rfl⟩ := hv
  subst hn
  exact ⟨g, rfl, hC, h.bel⟩
end Go.Proofs.Ytngmaiiibinkaaa
/- The law's few raw jobs. -/
namespace Go.Proofs.Ytngmaiiibinkaaa
open Go.RowKit
set_option linter.unusedVariables false
set_option linter.unusedSimpArgs false

def fewTS1 (r : Fv) : Fv := { r with a := r.a % 12, c := r.c.take 5 }
def fewTS (rs : List Fv) : List Fv := (rs.take 10).map fewTS1
def fewTSPost (rs : List Fv) (w : World) (e : Ending) (w' : World) : Prop := ∃ v gs, e = .returned v ∧ FOwn 58 w.heap.size w' v gs ∧ gs.map (·.x) = fewTS rs ∧ Below w.heap.size w w'
structure fewTSIn (w wr : World) (v : Value) (rs : List Fv) : Prop where
  own : ∃ gs, FOwn 58 w.heap.size wr v gs ∧ gs.map (·.x) = rs.map fewTS1
  bel : Below w.heap.size w wr
set_option maxRecDepth 100000 in
set_option maxHeartbeats 8000000 in
theorem fewT_any (R : Option Addr) (rc : Nat) (rs : List Fv) (w : World) (hR : FRow w R rc rs) :
    Calls Try.prog 7 #[.slice R rs.length rc, .int .i64 10] w (fewTSPost rs w) := by
  obtain ⟨i0, hi, hz0, hz1, hz2⟩ := info_parts infoRs
  have hle := hR.le
  have hmx := hR.mx
  have RAW := Lib.hid hR
  clear hR
  go_enter Try.func7, Try.ntmps7
  go_wp2
  go_loopw [5, 6] (fun v i wr => ∃ k : Nat, k ≤ min rs.length 10 ∧ i = .int .i64 k ∧ Hid (fewTSIn w wr v (rs.take k))) (fun _ i _ => 10 - (intOf i).toNat)
  case atStart => exact ⟨0, Nat.zero_le _, rfl, Lib.hid ⟨⟨[], FOwn.nil _ _ _, rfl⟩, Below.refl _ _⟩⟩
  case round =>
    obtain ⟨k, hk, rfl, hI⟩ := hrel
    have hk1 : k ≤ rs.length := by omega
    have hk2 : k ≤ 10 := by omega
    by_cases hlt : k < rs.length ∧ k < 10
    · obtain ⟨hl1, hl2⟩ := hlt
      obtain ⟨rb, ro, x, C, cc, rfl, hx, hrb, hF0⟩ := RAW.out.get (k := k) (by omega)
      have hF := hF0.later hI.out.bel
      have c0 := hF.c0
      have c1 := hF.c1
      have c2 := hF.c2
      have c3 := hF.c3
      have c4 := hF.c4
      have g1 : decide ((k : Int) < (rs.length : Int)) = true := decide_eq_true (by omega)
      have g2 : decide ((k : Int) < 10) = true := decide_eq_true (by omega)
      have g2' : decide (k < 10) = true := decide_eq_true (by omega)
      have hi0 : (0 : Int) ≤ (k : Int) := by omega
      have hi1 : (k : Int) < (rs.length : Int) := by omega
      obtain ⟨gs, hG, hgs⟩ := hI.out.own
      have hgl : gs.length = k := by
        have := congrArg List.length hgs
        rw [List.length_map, List.length_map, List.length_take] at this
        omega
      have hlc := hF.s.le
      have hmc := hF.s.mx
      have HSF : Hid (Safe 58 w.heap.size w C x.c) := Lib.hid (fun hne a ha => by
        obtain ⟨b, o, n, hA, _, _, hbl, _⟩ := hF0.s.get (k := 0) (by rcases Nat.eq_zero_or_pos x.c.length with h0 | h0; exact absurd (List.length_eq_zero_iff.1 h0) hne; exact h0)
        rw [ha] at hA
        cases hA
        exact .inl hbl)
      have hgb := emod_bd x.a 12 (by omega)
      have HGB := Lib.hid hgb
      have KR0 := fun W => r8rest_any x.a 12 W hF.wf.a (by omega) (by omega)
      obtain ⟨ga, hga⟩ : ∃ ga, x.a % 12 = ga := ⟨_, rfl⟩
      have KR1 := KR0
      rw [hga] at KR1
      have KR := Lib.hid KR1
      have HGA0 := Lib.hid hga
      clear hgb KR0 KR1 hga
      have HX := Lib.hid hx
      have HF := Lib.hid hF
      have HG := Lib.hid hG
      have HGA := Lib.hid hG
      have HGS := Lib.hid hgs
      have HGL := Lib.hid hgl
      have HBW := Lib.hid hI.out.bel
      clear hF hF0 hx hG hgs hgl hI
      go_upto_region 6 with (fail)
      have F1 := Lib.hid (FB.new wr 58 (.int .i64 x.t) (.int .i64 x.a) (.int .i64 x.r) (.int .i64 x.k) (.slice C x.c.length cc))
      have B1 : Hid (Below wr.heap.size wr (wr.alloc (.cells #[.int .i64 x.t, .int .i64 x.a, .int .i64 x.r, .int .i64 x.k, .slice C x.c.length cc] 58))) := Lib.hid ((Below.refl _ _).alloc (Nat.le_refl _) _)
      generalize (wr.alloc (.cells #[.int .i64 x.t, .int .i64 x.a, .int .i64 x.r, .int .i64 x.k, .slice C x.c.length cc] 58)) = W1 at *
      obtain ⟨bx, hbx⟩ : ∃ bx, bx = wr.heap.size := ⟨_, rfl⟩
      have F1 : Hid (FB W1 bx 58 (.int .i64 x.t) (.int .i64 x.a) (.int .i64 x.r) (.int .i64 x.k) (.slice C x.c.length cc)) := by rw [hbx]; exact F1
      have HBX : Hid (wr.heap.size ≤ bx) := Lib.hid (by rw [hbx]; exact Nat.le_refl _)
      rw [← hbx]
      clear c0 c1 c2 c3 c4 hbx
      obtain ⟨z0, z1, z2, z3, z4⟩ := F1.out.z
      have y1 := F1.out.fz 1
      go_upto_region 7 with (go_at_call 15; (with_reducible refine (KR.out _).mono ?_); rintro e w2 ⟨rfl, rfl⟩)
      have F2 := Lib.hid (F1.out.set (i := 1) (.int .i64 ga) rfl)
      have B2 : Hid (Below wr.heap.size wr (W1.setCell ⟨bx, 1, none⟩ (.int .i64 ga))) := Lib.hid (B1.out.setCell (p := ⟨bx, 1, none⟩) HBX.out _)
      generalize W1.setCell ⟨bx, 1, none⟩ (.int .i64 ga) = W2 at *
      clear z0 z1 z2 z3 z4 y1
      obtain ⟨z0, z1, z2, z3, z4⟩ := F2.out.z
      have y1 := F2.out.fz 1
      by_cases hlong : 5 < x.c.length
      · have g5 : decide ((x.c.length : Int) > 5) = true := decide_eq_true (by omega)
        have g5' : decide (5 < x.c.length) = true := decide_eq_true hlong
        have hc6 : (5 : Int) ≤ (cc : Int) := by omega
        have hcz : cc ≠ 0 := by omega
        have y4 := F2.out.fz 4
        have HCL : Hid (x.c.take 5 = x.c.take 5) := Lib.hid rfl
        have hc66 : (x.c.take 5).length = 5 := by rw [List.length_take]; omega
        have HC66 := Lib.hid hc66
        clear hc66
        go_upto_region 9 with (fail)
        have F3 := Lib.hid (F2.out.set (i := 4) (.slice C 5 cc) rfl)
        have B3 : Hid (Below wr.heap.size wr (W2.setCell ⟨bx, 4, none⟩ (.slice C 5 cc))) := Lib.hid (B2.out.setCell (p := ⟨bx, 4, none⟩) HBX.out _)
        generalize W2.setCell ⟨bx, 4, none⟩ (.slice C 5 cc) = W3 at *
        clear z0 z1 z2 z3 z4 y1 y4
        have G3 : Hid (GOk 58 w.heap.size W3 ⟨⟨x.t, ga, x.r, x.k, x.c.take 5⟩, C, cc⟩) := Lib.hid ⟨⟨HF.out.wf.t, ⟨by show _ ≤ ga; have := HGB.out; have := HGA0.out; omega, by show ga ≤ _; have := HGB.out; have := HGA0.out; omega⟩, HF.out.wf.r, HF.out.wf.k⟩, (HF.out.s.later B3.out).take 5, fun hne a ha => by
          rcases HSF.out (by intro h0; rw [h0] at hne; exact hne (by simp)) a ha with h1 | ⟨cs, T, fr, h1, h2⟩
          · exact .inl h1
          · exact .inl (by have := (Array.getElem?_eq_some_iff.1 h1).1; exact this)⟩
        obtain ⟨z0, z1, z2, z3, z4⟩ := F3.out.z
        have hO := G3.out
        have HFA := Lib.hid (fun j u hu => by
          have := (FAt.new W3 ⟨x.t, ga, x.r, x.k, x.c.take 5⟩ C cc 58 hO.wf hO.s).r j u hu
          rw [Nat.zero_add] at this
          rw [add_none, Nat.zero_add]
          simp only [HC66.out] at this
          exact this : ∀ j u, (fvL ⟨x.t, ga, x.r, x.k, x.c.take 5⟩ C cc)[j]? = some u → (W3.alloc (.cells #[.int .i64 x.t, .int .i64 ga, .int .i64 x.r, .int .i64 x.k, .slice C 5 cc] 58)).cell? ((⟨W3.heap.size, 0, none⟩ : Addr).add j) = some u)
        have HG2 := Lib.hid (HGA.out.later B3.out)
        clear hO
        go_wp2_with (refine wpList_append_own _ rfl _ _ 23 rfl w.heap.size 58 i0 _ 5 56 Try.underlying23 hi hz0 hz1 hz2 rfl (by decide) _ gs.length (gvC gs) rfl (HG2.out.row.alloc _) ⟨W3.heap.size, 0, none⟩ 1 1 (fvL ⟨x.t, ga, x.r, x.k, x.c.take 5⟩ C cc) rfl rfl HFA.out (fvL_one _ _ _) (by have := HGL.out; unfold maxLen; omega) (by have := HGL.out; omega) (by have := HBW.out.size; have := B3.out.size; simp; omega) ?_; intro v' w8 hown' hgrow hnil')
        go_roundw
        case rel =>
          have ba : Below W3.heap.size W3 (W3.alloc (.cells #[.int .i64 x.t, .int .i64 ga, .int .i64 x.r, .int .i64 x.k, .slice C 5 cc] 58)) := (Below.refl _ _).alloc (Nat.le_refl _) _
          have hG8 := (HG2.out.later ba).push (G3.out.kept fun b hl _ => ba.block b hl) hown' hgrow
          have hB2 := HBW.out.trans (B3.out.mono HBW.out.size)
          have hL8 : Below w.heap.size w w8 := (hB2.trans (ba.mono hB2.size)).grown hgrow (by have := hB2.size; simp; omega) (fun q hq => (HG2.out.row.lt q hq).1)
          refine ⟨k + 1, by omega, by go_num, Lib.hid ⟨⟨_, hG8, ?_⟩, hL8⟩⟩
          rw [take_one HX.out, List.map_append, List.map_append, HGS.out]
          simp [fewTS1, HCL.out, HGA0.out]
        case measure => simp [intOf]; omega
      · have g5 : decide ((x.c.length : Int) > 5) = false := decide_eq_false (by omega)
        have g5' : decide (5 < x.c.length) = false := decide_eq_false hlong
        have HCL : Hid (x.c.take 5 = x.c) := Lib.hid (List.take_of_length_le (by omega))
        go_upto_region 9 with (fail)
        have F3 := F2
        have B3 := B2
        clear z0 z1 z2 z3 z4 y1
        have G3 : Hid (GOk 58 w.heap.size W2 ⟨⟨x.t, ga, x.r, x.k, x.c⟩, C, cc⟩) := Lib.hid ⟨⟨HF.out.wf.t, ⟨by show _ ≤ ga; have := HGB.out; have := HGA0.out; omega, by show ga ≤ _; have := HGB.out; have := HGA0.out; omega⟩, HF.out.wf.r, HF.out.wf.k⟩, HF.out.s.later B3.out, fun hne a ha => by
          rcases HSF.out hne a ha with h1 | ⟨cs, T, fr, h1, h2⟩
          · exact .inl h1
          · exact .inl (by have := (Array.getElem?_eq_some_iff.1 h1).1; exact this)⟩
        obtain ⟨z0, z1, z2, z3, z4⟩ := F3.out.z
        have hO := G3.out
        have HFA := Lib.hid (fun j u hu => by
          have := (FAt.new W2 ⟨x.t, ga, x.r, x.k, x.c⟩ C cc 58 hO.wf hO.s).r j u hu
          rw [Nat.zero_add] at this
          rw [add_none, Nat.zero_add]
          exact this : ∀ j u, (fvL ⟨x.t, ga, x.r, x.k, x.c⟩ C cc)[j]? = some u → (W2.alloc (.cells #[.int .i64 x.t, .int .i64 ga, .int .i64 x.r, .int .i64 x.k, .slice C x.c.length cc] 58)).cell? ((⟨W2.heap.size, 0, none⟩ : Addr).add j) = some u)
        have HG2 := Lib.hid (HGA.out.later B3.out)
        clear hO
        go_wp2_with (refine wpList_append_own _ rfl _ _ 23 rfl w.heap.size 58 i0 _ 5 56 Try.underlying23 hi hz0 hz1 hz2 rfl (by decide) _ gs.length (gvC gs) rfl (HG2.out.row.alloc _) ⟨W2.heap.size, 0, none⟩ 1 1 (fvL ⟨x.t, ga, x.r, x.k, x.c⟩ C cc) rfl rfl HFA.out (fvL_one _ _ _) (by have := HGL.out; unfold maxLen; omega) (by have := HGL.out; omega) (by have := HBW.out.size; have := B3.out.size; simp; omega) ?_; intro v' w8 hown' hgrow hnil')
        go_roundw
        case rel =>
          have ba : Below W2.heap.size W2 (W2.alloc (.cells #[.int .i64 x.t, .int .i64 ga, .int .i64 x.r, .int .i64 x.k, .slice C x.c.length cc] 58)) := (Below.refl _ _).alloc (Nat.le_refl _) _
          have hG8 := (HG2.out.later ba).push (G3.out.kept fun b hl _ => ba.block b hl) hown' hgrow
          have hB2 := HBW.out.trans (B3.out.mono HBW.out.size)
          have hL8 : Below w.heap.size w w8 := (hB2.trans (ba.mono hB2.size)).grown hgrow (by have := hB2.size; simp; omega) (fun q hq => (HG2.out.row.lt q hq).1)
          refine ⟨k + 1, by omega, by go_num, Lib.hid ⟨⟨_, hG8, ?_⟩, hL8⟩⟩
          rw [take_one HX.out, List.map_append, List.map_append, HGS.out]
          simp [fewTS1, HCL.out, HGA0.out]
        case measure => simp [intOf]; omega
    · obtain ⟨gs, hG, hgs⟩ := hI.out.own
      have HB := Lib.hid hI.out.bel
      have HG := Lib.hid hG
      have HGS := Lib.hid hgs
      clear hG hgs hI
      by_cases hkr : k < rs.length
      · have g1 : decide ((k : Int) < (rs.length : Int)) = true := decide_eq_true (by omega)
        have g2 : decide ((k : Int) < 10) = false := decide_eq_false (by omega)
        have g2' : decide (k < 10) = false := decide_eq_false (by omega)
        have HK : Hid (k = 10) := Lib.hid (by omega)
        go_wp2
        go_ret
        refine ⟨_, gs, rfl, HG.out, ?_, HB.out⟩
        rw [HGS.out, fewTS, HK.out]
      · have g1 : decide ((k : Int) < (rs.length : Int)) = false := decide_eq_false (by omega)
        have g1' : decide (k < rs.length) = false := decide_eq_false hkr
        have HK : Hid (rs.take 10 = rs.take k) := Lib.hid (by rw [List.take_of_length_le (by omega), List.take_of_length_le (by omega)])
        go_wp2
        go_ret
        refine ⟨_, gs, rfl, HG.out, ?_, HB.out⟩
        rw [HGS.out, fewTS, HK.out]
end Go.Proofs.Ytngmaiiibinkaaa
