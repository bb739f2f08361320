/- Texts about the program, one after the other: EWrk, EUrg, ESnd, NRefs, NSums, DPure, DRef. -/
import Derived.WalkKit
import Derived.ProofKit
import Derived.Handy
import Derived.Lib.Hide
import Derived.Deep.MidRow
import Derived.Deep.QuietTactic
import Derived.BigQuiet
import Derived.Deep.RegionHeld3
import Derived.Laws.Externs
import Derived.RangeFuncBox
import Derived.Deep.CutBlock
import Derived.Deep.LoopGhost
import Derived.WalkMore
import Derived.Below
import Derived.LaidMore
import Derived.Laws.AppendOwn
import Derived.Laws.CopyOwn
import Derived.IntWalk
import Derived.OwnWalk
import Derived.Deep.RegionLaw
import Derived.BigRegion
import Derived.Deep.DrawnRows
import Derived.Deep.Quiet
import Derived.Deep.RegionHeldLaw
import Derived.LoopIn
import Derived.LoopNIn
import Derived.TacticsInMore
import Derived.OwnWalkIn
import Derived.RangeFuncNested
import Derived.RangeFuncBound
import Derived.RangeFuncCalls
import Derived.RangeFuncLeaves
import Derived.RangeFuncWrites
import Derived.Shelf.Abstract
import Derived.StillTailTactics
import Derived.Lib.SliceRun
import Derived.Deep.AppendSrc
import Derived.Deep.Upon
import Derived.Deep.DeepAppendWide
import Derived.OrdersIn
import Derived.Sort.LoopGhostIn
import Derived.Laws.OwnMore
import Derived.Laws.BytesString
import Derived.RangeFuncRecord
import Derived.MapKept
import Derived.Shelf.Small.Bits
import Derived.Shelf.Small.Strs
import Derived.Shelf.Small.Wraps
import Derived.Shelf.Strconv.Itoa0
import Derived.Shelf.LaysM
import Derived.Shelf.Strconv.Clone
import Derived.Shelf.Strings.Search1
import Derived.Shelf.Bits.Mul64
import Derived.Ground.Names2Prog
import Derived.Shelf.Slices.SearchI
import Derived.ChangeOld
import Derived.OpenShut
import Derived.Maps.AppendAt
import Derived.Test.YthfkbbiaemmndaaGreatDoorRows
import Derived.Test.YthfkbbiaemmndaaGreatDoorProg
import Derived.Laws.AppendOwnNone
import Derived.Deep.CutRange
import Derived.Test.YthfkbbiaemmndaaGreatDoorG3
import Derived.Test.YthfkbbiaemmndaaGreatDoorG4
import Derived.Test.YthfkbbiaemmndaaGreatDoorG6
import Derived.Test.YthfkbbiaemmndaaGreatDoorG7
import Derived.Test.YthfkbbiaemmndaaGreatDoorG8
import Derived.Test.YthfkbbiaemmndaaGreatDoorG9
import Derived.Test.YthfkbbiaemmndaaGreatDoorG28
import Derived.Test.YthfkbbiaemmndaaGreatDoorG29
import Derived.Test.YthfkbbiaemmndaaGreatDoorG36
set_option linter.unusedVariables false
set_option linter.unusedSimpArgs false
set_option maxRecDepth 100000
set_option maxHeartbeats 16000000
namespace Go.Proofs.YthfkbbiaemmndaaGreatDoor
section
def lenS (sp : List Spn) (i : Nat) : Int := ((sp.filter fun x => decide (x.j = i)).map fun x => x.t - x.f).sum
theorem lenS_app (a b : List Spn) (i : Nat) : lenS (a ++ b) i = lenS a i + lenS b i := by simp [lenS]
theorem lenS_one (x : Spn) (i : Nat) : lenS [x] i = if x.j = i then x.t - x.f else 0 := by
 unfold lenS
 by_cases h : x.j = i <;> simp [h]
def Gap (js : List Fv) (en : List Int) (a b : Int) : Prop := ∀ i, i < js.length → (jb js i).r < b → kO en i ≤ a ∧ 0 < kO en i
def chn (js : List Fv) (en : List Int) : Int → List Spn → Prop
 | _, [] => True
 | a, x :: l => a ≤ x.f ∧ x.f < x.t ∧ x.j < js.length ∧ (jb js x.j).r ≤ x.f ∧ (a < x.f → Gap js en a x.f) ∧ chn js en x.t l
def lastA (sp : List Spn) : Int := (sp.getLast?.map (·.t)).getD 0
theorem lastA_app (l : List Spn) (x : Spn) : lastA (l ++ [x]) = x.t := by simp [lastA]
theorem chn_app {js : List Fv} {en : List Int} (x : Spn) : ∀ (a : Int) (l : List Spn), chn js en a (l ++ [x]) ↔ chn js en a l ∧ chn js en ((l.getLast?.map (·.t)).getD a) [x]
 | a, [] => by simp [chn]
 | a, y :: l => by
   rw [List.cons_append, chn, chn, chn_app x y.t l]
   have : ((y :: l).getLast?.map (·.t)).getD a = (l.getLast?.map (·.t)).getD y.t := by
    rcases List.eq_nil_or_concat l with h | ⟨m, z, h⟩
    ·subst h; rfl
    ·rw [List.concat_eq_append] at h; subst h
     rw [← List.cons_append, List.getLast?_concat, List.getLast?_concat]
     rfl
   rw [this]
   constructor
   ·rintro ⟨h1, h2, h3, h4, h5, h6, h7⟩; exact ⟨⟨h1, h2, h3, h4, h5, h6⟩, h7⟩
   ·rintro ⟨⟨h1, h2, h3, h4, h5, h6⟩, h7⟩; exact ⟨h1, h2, h3, h4, h5, h6, h7⟩
theorem chn_en {js : List Fv} {en en' : List Int} (h : ∀ i, i < js.length → 0 < kO en i → kO en' i = kO en i) : ∀ (a : Int) (l : List Spn), chn js en a l → chn js en' a l
 | _, [], _ => trivial
 | a, x :: l, ⟨h1, h2, h3, h4, h5, h6⟩ => ⟨h1, h2, h3, h4, fun hl i hi hr => by
     have := h5 hl i hi hr
     rw [h i hi this.2]; exact this, chn_en h x.t l h6⟩
def exS0 (sp : List Spn) (i : Nat) (t : Int) : Bool := match sp.getLast? with | none => false | some x => decide (x.j = i) && decide (x.t = t)
theorem ex0_no {sp : List Spn} {i : Nat} {t m : Int} (h : exS0 sp i t = false) : addN sp i t m = sp ++ [⟨i, t, t + m⟩] := by
 unfold exS0 at h
 unfold addN
 cases hl : sp.getLast? with
 | none => rfl
 | some x =>
   rw [hl] at h
   simp only at h ⊢
   rw [if_neg]
   rintro ⟨h1, h2⟩
   rw [decide_eq_true h1, decide_eq_true h2] at h
   cases h
theorem ex0_yes {sp : List Spn} {i : Nat} {t m : Int} (h : exS0 sp i t = true) : ∃ l x, sp = l ++ [x] ∧ x.j = i ∧ x.t = t ∧ addN sp i t m = l ++ [⟨x.j, x.f, t + m⟩] := by
 unfold exS0 at h
 unfold addN
 cases hl : sp.getLast? with
 | none => rw [hl] at h; cases h
 | some x =>
   rw [hl] at h
   simp only [Bool.and_eq_true, decide_eq_true_eq] at h ⊢
   obtain ⟨l, rfl⟩ := List.getLast?_eq_some_iff.1 hl
   refine ⟨l, x, rfl, h.1, h.2, ?_⟩
   rw [if_pos h]
   simp [h.1]
theorem chn_mem {js : List Fv} {en : List Int} : ∀ {a : Int} {l : List Spn}, chn js en a l → ∀ x ∈ l, x.j < js.length ∧ (a ≤ x.f ∧ x.f < x.t) ∧ x.t ≤ (l.getLast?.map (·.t)).getD a
 | _, [], _, x, hx => by cases hx
 | a, y :: l, ⟨h1, h2, h3, h4, h5, h6⟩, x, hx => by
   have hl : ((y :: l).getLast?.map (·.t)).getD a = (l.getLast?.map (·.t)).getD y.t := by
    rcases List.eq_nil_or_concat l with h | ⟨m, z, h⟩
    ·subst h; rfl
    ·rw [List.concat_eq_append] at h; subst h
     rw [← List.cons_append, List.getLast?_concat, List.getLast?_concat]
     rfl
   rw [hl]
   rcases List.mem_cons.1 hx with rfl | hx
   ·refine ⟨h3, ⟨h1, h2⟩, ?_⟩
    cases hg : l.getLast? with
    | none => simp
    | some z =>
      have hz := List.mem_of_getLast? hg
      have := chn_mem h6 z hz
      simp
      omega
   ·have := chn_mem h6 x hx
    exact ⟨this.1, ⟨by omega, this.2.1.2⟩, this.2.2⟩
structure Wk (js : List Fv) (n : Int) (s : TSt) : Prop where
 ch : chn js s.en 0 s.sp
 la : lastA s.sp ≤ n
 l0 : 0 ≤ lastA s.sp
 gp : lastA s.sp < n → Gap js s.en (lastA s.sp) n
 wk : ∀ i, i < js.length → lenS s.sp i = kO s.dn i
 en : ∀ x ∈ s.sp, kO s.dn x.j = (jb js x.j).k → x.t ≤ kO s.en x.j
 tm : ∀ i, i < js.length → 0 < kO s.dn i → (jb js i).r + kO s.dn i ≤ n ∧ (kO s.dn i = (jb js i).k → (jb js i).r + kO s.dn i ≤ kO s.en i)
section
variable {ts : List Ts} {js : List Fv}
theorem wk_all (hl : Lg js) : ∀ n : Nat, Wk js n (tst ts js n)
 | 0 => by
   refine ⟨trivial, Int.le_refl _, Int.le_refl _, fun h => by simp [tst, lastA] at h, fun i hi => ?_, fun x hx => by simp [tst] at hx, fun i hi hp => ?_⟩
   ·simp only [tst]; rw [kO_rep _ _ _ hi]; rfl
   ·simp only [tst] at hp; rw [kO_rep _ _ _ hi] at hp; omega
 | n + 1 => by
   have h := wk_all hl n
   have hI := ti_all (ts := ts) hl n
   have hn : ((n + 1 : Nat) : Int) = (n : Int) + 1 := by omega
   rw [tst_succ]
   cases hw : whoS ts js (tst ts js n) n with
   | none =>
     have hno := hI.who_none hl hw
     rw [tstep_none hw]
     refine ⟨h.ch, by have := h.la; simp only; omega, h.l0, fun hlt i hi hr => ?_, h.wk, h.en, fun i hi hp => ⟨by have := (h.tm i hi hp).1; simp only; omega, (h.tm i hi hp).2⟩⟩
     have hd : kO (tst ts js n).dn i = (jb js i).k := not_rdy (hI.d0 i hi).2 (hno i hi) (by omega)
     have hk := hl.k1 i hi
     rcases hI.en i hi with he | he
     ·omega
     ·refine ⟨?_, he.2.1⟩
      by_cases hla : lastA (tst ts js n).sp < n
      ·by_cases hr2 : (jb js i).r < n
       ·exact (h.gp hla i hi hr2).1
       ·exfalso
        have := (h.tm i hi (by omega)).1
        omega
      ·have := h.la
       simp only
       omega
   | some i =>
     obtain ⟨h1, h2, h3⟩ := hI.who_some hl hw
     have hid : i < (tst ts js n).dn.length := by rw [hI.ld]; exact h1
     have hie : i < (tst ts js n).en.length := by rw [hI.le]; exact h1
     have hd0 := hI.d0 i h1
     have hr0 := hl.r0 i h1
     have hki := hl.k1 i h1
     rw [tstep_some hw]
     have hen : ∀ j, j < js.length → 0 < kO (tst ts js n).en j → kO (runM js (tst ts js n) n i 1).en j = kO (tst ts js n).en j := by
      intro j hj hp
      simp only [runM]
      split
      ·rw [kO_set _ _ hie]
       split
       ·subst j
        rcases hI.en i h1 with he | he <;> omega
       ·rfl
      ·rfl
     have hch := chn_en hen 0 _ h.ch
     obtain ⟨sp', hsp⟩ : ∃ sp', (runM js (tst ts js n) n i 1).sp = sp' := ⟨_, rfl⟩
     have hsp2 : addN (tst ts js n).sp i n 1 = sp' := hsp
     have hla := h.la
     have key : chn js (runM js (tst ts js n) n i 1).en 0 sp' ∧ lastA sp' = (n : Int) + 1 ∧ (∀ j, lenS sp' j = lenS (tst ts js n).sp j + (if i = j then 1 else 0)) ∧ (∀ x ∈ sp', (x ∈ (tst ts js n).sp) ∨ (x.j = i ∧ x.t = (n : Int) + 1)) := by
      cases hx : exS0 (tst ts js n).sp i n with
      | false =>
        have e : sp' = (tst ts js n).sp ++ [⟨i, n, (n : Int) + 1⟩] := by rw [← hsp2]; exact ex0_no hx
        subst e
        refine ⟨(chn_app _ _ _).2 ⟨hch, hla, by simp only; omega, h1, h2, fun hlt => ?_, trivial⟩, lastA_app _ _, fun j => ?_, fun x hx => ?_⟩
        ·have hg := h.gp hlt
         intro j hj hr
         have := hg j hj hr
         rw [hen j hj this.2]; exact this
        ·rw [lenS_app, lenS_one]
         simp only
         split <;> omega
        ·rcases List.mem_append.1 hx with hx | hx
         ·exact .inl hx
         ·rw [List.mem_singleton.1 hx]; exact .inr ⟨rfl, rfl⟩
      | true =>
        obtain ⟨l, x, e1, e2, e3, e4⟩ := ex0_yes (m := 1) hx
        rw [hsp2] at e4
        subst e4
        rw [e1] at hch
        obtain ⟨c1, c2⟩ := (chn_app _ _ _).1 hch
        obtain ⟨d1, d2, d3, d4, d5, -⟩ := c2
        refine ⟨(chn_app _ _ _).2 ⟨c1, d1, by simp only; omega, d3, d4, d5, trivial⟩, lastA_app _ _, fun j => ?_, fun y hy => ?_⟩
        ·rw [e1, lenS_app, lenS_app, lenS_one, lenS_one]
         simp only
         rw [e2]
         split <;> omega
        ·rw [e1]
         rcases List.mem_append.1 hy with hy | hy
         ·exact .inl (by simp [hy])
         ·rw [List.mem_singleton.1 hy]; exact .inr ⟨e2, rfl⟩
     obtain ⟨k1, k2, k3, k4⟩ := key
     have hdn : ∀ j, kO (runM js (tst ts js n) n i 1).dn j = if j = i then kO (tst ts js n).dn i + 1 else kO (tst ts js n).dn j := fun j => by simp only [runM]; rw [kO_set _ _ hid]
     refine ⟨by rw [hsp]; exact k1, by rw [hsp, k2]; omega, by rw [hsp, k2]; omega, fun hlt => by rw [hsp, k2] at hlt; omega, fun j hj => ?_, fun x hx => ?_, fun j hj hp => ?_⟩
     ·rw [hsp, k3, hdn, h.wk j hj]
      by_cases e : j = i
      ·subst e; simp
      ·rw [if_neg e, if_neg (fun h => e h.symm)]; omega
     ·rw [hsp] at hx
      rw [hdn]
      intro hk
      have hei : x.j = i → kO (runM js (tst ts js n) n i 1).en x.j = (n : Int) + 1 := fun e => by
       rw [e] at hk ⊢
       rw [if_pos rfl] at hk
       simp only [runM]
       rw [if_pos hk, kO_set _ _ hie, if_pos rfl]
      rcases k4 x hx with hm | ⟨e1, e2⟩
      ·by_cases e : x.j = i
       ·rw [hei e]
        have := (chn_mem hch x hm).2.2
        have h9 := h.la
        unfold lastA at h9
        omega
       ·rw [if_neg e] at hk
        have := h.en x hm hk
        have hxl := (chn_mem hch x hm).1
        rw [hen x.j hxl (by
         have := hl.k1 _ hxl
         rcases hI.en x.j hxl with h | h
         ·omega
         ·exact h.2.1)]
        exact this
      ·rw [hei e1, e2]; exact Int.le_refl _
     ·rw [hdn] at hp ⊢
      by_cases e : j = i
      ·subst e
       rw [if_pos rfl] at hp ⊢
       have hb : (jb js j).r + kO (tst ts js n).dn j ≤ n := by
        rcases Int.lt_or_le 0 (kO (tst ts js n).dn j) with hq | hq
        ·exact (h.tm j hj hq).1
        ·omega
       refine ⟨by omega, fun hk => ?_⟩
       simp only [runM]
       rw [if_pos hk, kO_set _ _ hie, if_pos rfl]
       omega
      ·rw [if_neg e] at hp ⊢
       have := h.tm j hj hp
       refine ⟨by omega, fun hk => ?_⟩
       rw [hen j hj (by
        have := hl.k1 j hj
        rcases hI.en j hj with h | h
        ·omega
        ·exact h.2.1)]
       exact this.2 hk
end
end
section
theorem wth_row (q : Int) : ∀ (c : List Int) (lo hi : Int), Pos1 c → (∀ y ∈ c, y ≤ q) → lo ≤ hi → (∀ d, lo ≤ d → d ≤ hi → wthS c d = true) → hi - lo + 1 ≤ q - 1
 | [], lo, hi, _, _, h, hw => by have := hw lo (Int.le_refl _) h; simp [wthS] at this
 | a :: c, lo, hi, hp, hq, h, hw => by
   have ha := hp.head
   have haq := hq a (by simp)
   have hlo := (wthS_lt hp (hw lo (Int.le_refl _) h)).1
   rcases Int.lt_or_le hi a with h1 | h1
   ·omega
   ·rcases Int.lt_or_le lo a with h2 | h2
    ·exfalso
     have := hw a (by omega) h1
     rw [wthS, Int.sub_self, wthS_neg c 0 hp.tail (Int.le_refl _), decide_eq_false (show ¬ a < a by omega)] at this
     simp at this
    ·have := wth_row q c (lo - a) (hi - a) hp.tail (fun y hy => hq y (List.mem_cons_of_mem _ hy)) (by omega) (fun d hd1 hd2 => by
      have := hw (d + a) (by omega) (by omega)
      rw [wthS, decide_eq_false (show ¬ d + a < a by omega), Bool.and_false, Bool.false_or, show d + a - a = d by omega] at this
      exact this)
     omega
end
section
theorem rs_zero (f : Nat → Int) : rs 0 f = 0 := rfl
theorem rs_add (f g : Nat → Int) : ∀ n, rs n (fun k => f k + g k) = rs n f + rs n g
 | 0 => rfl
 | n + 1 => by rw [rs_succ, rs_succ, rs_succ, rs_add f g n]; omega
theorem rs_one (n i : Nat) (v : Int) (hi : i < n) : rs n (fun k => if k = i then v else 0) = v := by
 have h0 : rs n (fun _ => 0) = 0 := by
  have : ∀ n, rs n (fun _ => 0) = 0 := fun n => by induction n with | zero => rfl | succ n ih => rw [rs_succ, ih]; rfl
  exact this n
 rw [rs_upd (g := fun _ => 0) (i := i) (d := v) n hi (fun k _ hk => by simp [hk]) (by simp), h0]
 omega
theorem rs_two (h : Nat → Int) (P : Nat → Bool) (t : Nat → Nat) (T : Nat) : ∀ n, (∀ k, k < n → t k < T) →
  rs n (fun k => if P k then h (t k) else 0) = rs T (fun τ => h τ * rs n (fun k => if P k && decide (t k = τ) then 1 else 0))
 | 0, _ => by
   rw [rs_zero, rs_congr T (g := fun _ => 0) (fun k _ => by rw [rs_zero]; simp), rs_nil]
 | n + 1, hT => by
   rw [rs_succ, rs_two h P t T n (fun k hk => hT k (by omega))]
   have hn := hT n (by omega)
   have e : ∀ τ, h τ * rs (n + 1) (fun k => if P k && decide (t k = τ) then 1 else 0) = h τ * rs n (fun k => if P k && decide (t k = τ) then 1 else 0) + (if τ = t n then (if P n then h (t n) else 0) else 0) := by
    intro τ
    rw [rs_succ, Int.mul_add]
    congr 1
    by_cases e1 : τ = t n
    ·subst e1
     cases P n <;> simp
    ·rw [if_neg e1, if_neg (by simp; exact fun _ h => e1 h.symm)]
     simp
   rw [rs_congr T (fun τ _ => e τ), rs_add, rs_one T (t n) _ hn]
theorem count_apart (P : Nat → Bool) (a : Nat → Int) (A T : Int) (hT : 1 ≤ T) : ∀ n, (∀ k, k < n → P k = true → A ≤ a k) → (∀ k l, k < l → l < n → P k = true → P l = true → a k + T ≤ a l) →
  rs n (fun k => if P k then 1 else 0) = 0 ∨ ∃ k, k < n ∧ P k = true ∧ A + (rs n (fun k => if P k then 1 else 0) - 1) * T ≤ a k
 | 0, _, _ => .inl rfl
 | n + 1, h1, h2 => by
   rw [rs_succ]
   cases hp : P n with
   | false =>
     simp only [Bool.false_eq_true, if_false, Int.add_zero]
     rcases count_apart P a A T hT n (fun k hk => h1 k (by omega)) (fun k l hk hl => h2 k l hk (by omega)) with h | ⟨k, hk, h3, h4⟩
     ·exact .inl h
     ·exact .inr ⟨k, by omega, h3, h4⟩
   | true =>
     simp only [if_true]
     right
     refine ⟨n, by omega, hp, ?_⟩
     rcases count_apart P a A T hT n (fun k hk => h1 k (by omega)) (fun k l hk hl => h2 k l hk (by omega)) with h | ⟨k, hk, h3, h4⟩
     ·rw [h]; have := h1 n (by omega) hp; simp; omega
     ·have h5 := h2 k n hk (by omega) h3 hp
      have e : (rs n (fun k => if P k then 1 else 0) + 1 - 1) * T = (rs n (fun k => if P k then 1 else 0) - 1) * T + T := by
       rw [Int.add_sub_cancel, Int.sub_mul, Int.one_mul]; omega
      rw [e]; omega
theorem count_ceil (P : Nat → Bool) (a : Nat → Int) (A L T : Int) (hT : 1 ≤ T) (hL : 1 ≤ L) (n : Nat) (h1 : ∀ k, k < n → P k = true → A ≤ a k ∧ a k < A + L) (h2 : ∀ k l, k < l → l < n → P k = true → P l = true → a k + T ≤ a l) :
  rs n (fun k => if P k then 1 else 0) ≤ ceilI L T := by
 unfold ceilI
 rw [Int.le_ediv_iff_mul_le (by omega)]
 rcases count_apart P a A T hT n (fun k hk hp => (h1 k hk hp).1) h2 with h | ⟨k, hk, h3, h4⟩
 ·rw [h]; omega
 ·have h5 := (h1 k hk h3).2
  rw [Int.sub_mul] at h4
  omega
section
variable {ts : List Ts} {js : List Fv}
def qui (ts : List Ts) (js : List Fv) (p : Int) (n : Nat) : Prop := ∀ k, k < js.length → prO ts js k ≤ p → (jb js k).r < n → kO (tst ts js n).dn k = (jb js k).k
theorem last_quiet (P : Nat → Prop) (h0 : P 0) : ∀ r : Nat, ∃ t0, t0 ≤ r ∧ P t0 ∧ ∀ t, t0 < t → t ≤ r → ¬ P t
 | 0 => ⟨0, Nat.le_refl _, h0, fun t h1 h2 => by omega⟩
 | r + 1 => by
   by_cases h : P (r + 1)
   ·exact ⟨r + 1, Nat.le_refl _, h, fun t h1 h2 => by omega⟩
   ·obtain ⟨t0, h1, h2, h3⟩ := last_quiet P h0 r
    refine ⟨t0, by omega, h2, fun t h4 h5 => ?_⟩
    rcases Nat.lt_or_ge t (r + 1) with h6 | h6
    ·exact h3 t h4 (by omega)
    ·obtain rfl : t = r + 1 := by omega
     exact h
theorem who_low (hl : Lg js) {p : Int} {u : Nat} (hn : ¬ qui ts js p (u + 1)) :
  (∃ y, whoS ts js (tst ts js u) u = some y ∧ prO ts js y ≤ p) ∨ ∃ x, whoS ts js (tst ts js u) u = some x ∧ p < prO ts js x ∧ (tst ts js u).ru = some x ∧ wthS (jb js x).c (kO (tst ts js u).dn x) = true := by
 have hI := ti_all (ts := ts) hl u
 have hI1 := ti_all (ts := ts) hl (u + 1)
 obtain ⟨k, hk, hp, hr, hd⟩ : ∃ k, k < js.length ∧ prO ts js k ≤ p ∧ (jb js k).r < ((u + 1 : Nat) : Int) ∧ kO (tst ts js (u + 1)).dn k ≠ (jb js k).k := by
  simp only [qui, Classical.not_forall] at hn
  obtain ⟨k, h1, h2, h3, h4⟩ := hn
  exact ⟨k, h1, h2, h3, h4⟩
 have h1 := (hI1.d0 k hk).2
 have h2 := dn_mono1 (ts := ts) hl u k
 have hrd : rdy js (tst ts js u).dn u k = true := rdy_iff.2 ⟨by omega, by omega⟩
 cases hw : whoS ts js (tst ts js u) u with
 | none => have := hI.who_none hl hw k hk; rw [hrd] at this; cases this
 | some x =>
   by_cases hx : prO ts js x ≤ p
   ·exact .inl ⟨x, rfl, hx⟩
   ·right
    have hnp : pkN ts js (tst ts js u).dn u js.length ≠ some x := fun hpk => by
     have := ((pkN_spec _).2 x hpk).2.2 k hk hrd
     omega
    unfold whoS at hw
    cases hru : (tst ts js u).ru with
    | none => rw [hru] at hw; exact absurd hw hnp
    | some c =>
      rw [hru] at hw
      simp only at hw
      split at hw
      ·rename_i hwt
       injection hw with hw
       subst hw
       exact ⟨c, rfl, by omega, rfl, hwt⟩
      ·exact absurd hw hnp
theorem lv_ticks (hl : Lg js) {p B : Int} (hB0 : 0 ≤ B) (hB : ∀ x, x < js.length → p < prO ts js x → ∀ y ∈ (jb js x).c, y ≤ B + 1) {t0 w : Nat} (hno : ∀ t, t0 < t → t ≤ t0 + w → ¬ qui ts js p t) :
  ∀ m : Nat, m ≤ w → (m = 0) ∨
   (∃ x, x < js.length ∧ p < prO ts js x ∧ (tst ts js (t0 + m)).ru = some x ∧ lvW ts js p (tst ts js (t0 + m)).dn = lvW ts js p (tst ts js t0).dn ∧ kO (tst ts js (t0 + m)).dn x = kO (tst ts js t0).dn x + m ∧ (m : Int) ≤ B ∧ ∀ u : Nat, u < m → wthS (jb js x).c (kO (tst ts js t0).dn x + u) = true) ∨
   (∃ y, (tst ts js (t0 + m)).ru = some y ∧ prO ts js y ≤ p ∧ lvW ts js p (tst ts js t0).dn + m ≤ lvW ts js p (tst ts js (t0 + m)).dn + B)
 | 0, _ => .inl rfl
 | m + 1, hm => by
   right
   have hI := ti_all (ts := ts) hl (t0 + m)
   rcases who_low (ts := ts) hl (hno (t0 + m + 1) (by omega) (by omega)) with ⟨y, hw, hy⟩ | ⟨x, hw, hx, hru, hwt⟩
   ·right
    obtain ⟨e1, e2, e3⟩ := lvW_run (p := p) hl hw
    rw [if_pos hy] at e1
    refine ⟨y, e3, hy, ?_⟩
    rw [← Nat.add_assoc, e1]
    rcases lv_ticks hl hB0 hB hno m (by omega) with h | ⟨x, _, _, _, h4, _, h6, _⟩ | ⟨y', _, _, h3⟩
    ·subst h; simp; omega
    ·rw [h4]; omega
    ·omega
   ·obtain ⟨e1, e2, e3⟩ := lvW_run (p := p) hl hw
    rw [if_neg (by omega)] at e1
    have hxl := (hI.who_some hl hw).1
    rcases lv_ticks hl hB0 hB hno m (by omega) with h | ⟨x', q1, q2, q3, q4, q5, q6, q7⟩ | ⟨y', q1, q2, q3⟩
    ·left
     subst h
     have hrow := wth_row (B + 1) (jb js x).c (kO (tst ts js t0).dn x) (kO (tst ts js t0).dn x) (hl.pos x) (hB x hxl hx) (Int.le_refl _) (fun d h1 h2 => by
      obtain rfl : d = kO (tst ts js t0).dn x := by omega
      exact hwt)
     refine ⟨x, hxl, hx, e3, by rw [← Nat.add_assoc, e1]; simp, by rw [← Nat.add_assoc, e2]; simp, by simp; omega, fun u hu => ?_⟩
     obtain rfl : u = 0 := by omega
     simpa using hwt
    ·left
     have hxx : x = x' := by rw [q3] at hru; injection hru with hru; exact hru.symm
     subst hxx
     have hall : ∀ u : Nat, u < m + 1 → wthS (jb js x).c (kO (tst ts js t0).dn x + u) = true := fun u hu => by
      rcases Nat.lt_or_ge u m with h | h
      ·exact q7 u h
      ·obtain rfl : u = m := by omega
       rw [← q5]; exact hwt
     have hrow := wth_row (B + 1) (jb js x).c (kO (tst ts js t0).dn x) (kO (tst ts js t0).dn x + m) (hl.pos x) (hB x hxl hx) (by omega) (fun d h1 h2 => by
      obtain ⟨u, hu⟩ : ∃ u : Nat, d = kO (tst ts js t0).dn x + u := ⟨(d - kO (tst ts js t0).dn x).toNat, by omega⟩
      subst hu
      exact hall u (by omega))
     refine ⟨x, hxl, hx, e3, by rw [← Nat.add_assoc, e1, q4]; omega, by rw [← Nat.add_assoc, e2, q5]; omega, by omega, hall⟩
    ·exfalso
     rw [q1] at hru
     injection hru with hru
     subst hru
     omega
theorem lv_work (hv : Vs ts) (L : LJs ts js) (hD : Dist ts) {i : Int} {p : Int} (hi0 : 0 ≤ i) (hi1 : i < ts.length) (hp : p = (tk ts i).p) {t0 w : Nat} (hw : 1 ≤ w) (hwT : (w : Int) + (tk ts i).j ≤ (tk ts i).t) :
  rs js.length (fun k => if decide ((t0 : Int) ≤ (jb js k).r) && decide ((jb js k).r < ((t0 + w : Nat) : Int)) then (if prO ts js k ≤ p then (jb js k).k else 0) else 0) ≤ (tk ts i).c + hiS ts i w := by
 let P : Nat → Bool := fun k => decide ((t0 : Int) ≤ (jb js k).r) && decide ((jb js k).r < ((t0 + w : Nat) : Int))
 let h : Nat → Int := fun τ => if (tk ts (τ : Int)).p ≤ p then (tk ts (τ : Int)).c else 0
 have hjt : ∀ k, k < js.length → (((jb js k).t.toNat : Nat) : Int) = (jb js k).t ∧ (jb js k).t.toNat < ts.length := fun k hk => by
  have l := jb_lj L hk
  have := l.t0; have := l.t1
  omega
 have s1 : rs js.length (fun k => if P k then (if prO ts js k ≤ p then (jb js k).k else 0) else 0) ≤ rs js.length (fun k => if P k then h ((jb js k).t.toNat) else 0) := by
  refine rs_le _ fun k hk => ?_
  simp only [h]
  rw [(hjt k hk).1]
  split
  ·unfold prO
   split
   ·exact (jb_lj L hk).k1
   ·exact Int.le_refl _
  ·exact Int.le_refl _
 rw [rs_two h P (fun k => (jb js k).t.toNat) ts.length js.length (fun k hk => (hjt k hk).2)] at s1
 have s2 : rs ts.length (fun τ => h τ * rs js.length (fun k => if P k && decide ((jb js k).t.toNat = τ) then 1 else 0)) ≤ rs ts.length (fun τ => (if (tk ts (τ : Int)).p < p then ceilI ((w : Int) + (tk ts (τ : Int)).j) (tk ts (τ : Int)).t * (tk ts (τ : Int)).c else 0) + (if τ = i.toNat then (tk ts i).c else 0)) := by
  refine rs_le _ fun τ hτ => ?_
  have hx := hv.tk (τ : Int)
  have hc := count_ceil (fun k => P k && decide ((jb js k).t.toNat = τ)) (fun k => (jb js k).a) ((t0 : Int) - (tk ts (τ : Int)).j) ((w : Int) + (tk ts (τ : Int)).j) (tk ts (τ : Int)).t hx.t0 (by have := hx.j0; omega) js.length (fun k hk hP => by
   simp only [P, Bool.and_eq_true, decide_eq_true_eq] at hP
   have l := jb_lj L hk
   have e : (jb js k).t = (τ : Int) := by rw [← (hjt k hk).1, hP.2]
   have r0 := l.r0
   have r1 := l.r1
   rw [e] at r1
   omega) (fun k l hkl hl hPk hPl => by
   simp only [P, Bool.and_eq_true, decide_eq_true_eq] at hPk hPl
   have hk : k < js.length := by omega
   have e1 : (jb js k).t = (τ : Int) := by rw [← (hjt k hk).1, hPk.2]
   have e2 : (jb js l).t = (τ : Int) := by rw [← (hjt l hl).1, hPl.2]
   have g := List.pairwise_iff_getElem.1 L.pw k l hk hl hkl
   rw [← jb_get (List.getElem?_eq_getElem hk), ← jb_get (List.getElem?_eq_getElem hl)] at g
   have := g (by rw [e1, e2])
   rw [e1] at this
   exact this)
  generalize rs js.length (fun k => if P k && decide ((jb js k).t.toNat = τ) then 1 else 0) = cn at *
  simp only [h]
  have hc0 := hx.c0
  by_cases h1 : (tk ts (τ : Int)).p < p
  ·rw [if_pos (by omega), if_pos h1]
   have := Int.mul_le_mul_of_nonneg_left hc (show 0 ≤ (tk ts (τ : Int)).c by omega)
   rw [Int.mul_comm (ceilI _ _)]
   have hci := (hv.tk i).c0
   split <;> omega
  ·rw [if_neg h1]
   by_cases h2 : (tk ts (τ : Int)).p ≤ p
   ·have hτi : τ = i.toNat := by
     have e1 : ts[τ]? = some ts[τ] := List.getElem?_eq_getElem hτ
     have hin : i.toNat < ts.length := by omega
     have e2 : ts[i.toNat]? = some ts[i.toNat] := List.getElem?_eq_getElem hin
     have e3 : tk ts i = ts[i.toNat] := by have := tk_get e2; rwa [show ((i.toNat : Nat) : Int) = i by omega] at this
     refine hD τ i.toNat _ _ e1 e2 ?_
     rw [← e3, ← tk_get e1]; omega
    have e4 : tk ts (τ : Int) = tk ts i := by rw [hτi, show ((i.toNat : Nat) : Int) = i by omega]
    rw [if_pos h2, if_pos hτi, e4]
    rw [e4] at hc
    have hci := (hv.tk i).c0
    have hti := (hv.tk i).t0
    have hj0 := (hv.tk i).j0
    have hle : ceilI ((w : Int) + (tk ts i).j) (tk ts i).t ≤ 1 := by
     unfold ceilI
     have : ((w : Int) + (tk ts i).j + (tk ts i).t - 1) / (tk ts i).t < 2 := Int.ediv_lt_of_lt_mul (by omega) (by omega)
     omega
    have := Int.mul_le_mul_of_nonneg_left (show cn ≤ 1 by omega) (show 0 ≤ (tk ts i).c by omega)
    omega
   ·rw [if_neg h2]
    have hci := (hv.tk i).c0
    split <;> omega
 rw [rs_add, rs_one _ _ _ (by omega)] at s2
 have e : hiS ts i w = rs ts.length (fun τ => if (tk ts (τ : Int)).p < p then ceilI ((w : Int) + (tk ts (τ : Int)).j) (tk ts (τ : Int)).t * (tk ts (τ : Int)).c else 0) := by
  unfold hiS
  rw [rs_list, hp]
 rw [e]
 have s3 : rs js.length (fun k => if P k then (if prO ts js k ≤ p then (jb js k).k else 0) else 0) ≤ _ := Int.le_trans s1 s2
 have s4 : rs js.length (fun k => if decide ((t0 : Int) ≤ (jb js k).r) && decide ((jb js k).r < ((t0 + w : Nat) : Int)) then (if prO ts js k ≤ p then (jb js k).k else 0) else 0) = rs js.length (fun k => if P k then (if prO ts js k ≤ p then (jb js k).k else 0) else 0) := rfl
 rw [s4]
 omega
theorem enough_sound (hv : Vs ts) (L : LJs ts js) (hD : Dist ts) {j : Nat} (hj : j < js.length) {w : Nat} (hw : 1 ≤ w) (hwT : (w : Int) + (tk ts (jb js j).t).j ≤ (tk ts (jb js j).t).t) (hn : needS ts (jb js j).t w ≤ w) :
  ∃ n : Nat, (n : Int) ≤ (jb js j).r + w ∧ kO (tst ts js n).dn j = (jb js j).k ∧ kO (tst ts js n).en j ≤ (jb js j).r + w := by
 have hl := lg_of L
 have l := jb_lj L hj
 obtain ⟨r, hr⟩ : ∃ r : Nat, (jb js j).r = (r : Int) := ⟨(jb js j).r.toNat, by have := hl.r0 j hj; omega⟩
 obtain ⟨p, hp⟩ : ∃ p, prO ts js j = p := ⟨_, rfl⟩
 obtain ⟨t0, ht0, hq0, hmax⟩ := last_quiet (qui ts js p) (fun k hk _ h => by have := hl.r0 k hk; simp at h; omega) r
 have hex : ∃ t, t0 < t ∧ t ≤ t0 + w ∧ qui ts js p t := by
  refine Classical.byContradiction fun hcon => ?_
  have hno : ∀ t, t0 < t → t ≤ t0 + w → ¬ qui ts js p t := fun t h1 h2 h3 => hcon ⟨t, h1, h2, h3⟩
  have hB0 := blk_pos ts (jb js j).t
  have hlt := lv_ticks (ts := ts) hl hB0 (fun x hx hpx y hy => by
   have lx := jb_lj L hx
   obtain ⟨u, hu⟩ : ∃ u : Nat, (jb js x).t = (u : Int) := ⟨(jb js x).t.toNat, by have := lx.t0; omega⟩
   have h1 := lx.q y hy
   have h2 := lx.t1
   rw [hu] at h1 h2
   have h3 := blk_le (ts := ts) (i := (jb js j).t) (u := u) (by omega) (by
    rw [← hp] at hpx
    unfold prO at hpx
    rw [hu] at hpx
    exact hpx)
   omega) hno w (Nat.le_refl _)
  have hW : lvW ts js p (tst ts js t0).dn + w ≤ lvW ts js p (tst ts js (t0 + w)).dn + blkS ts (jb js j).t := by
   rcases hlt with h | ⟨x, _, _, _, h4, _, h6, _⟩ | ⟨y, _, _, h3⟩
   ·omega
   ·rw [h4]; omega
   ·exact h3
  have hI0 := ti_all (ts := ts) hl t0
  have hI1 := ti_all (ts := ts) hl (t0 + w)
  have hup : lvW ts js p (tst ts js (t0 + w)).dn < lvW ts js p (tst ts js t0).dn + rs js.length (fun k => if decide ((t0 : Int) ≤ (jb js k).r) && decide ((jb js k).r < ((t0 + w : Nat) : Int)) then (if prO ts js k ≤ p then (jb js k).k else 0) else 0) := by
   unfold lvW
   rw [← rs_add]
   have hpt : ∀ k, k < js.length → prO ts js k ≤ p → (kO (tst ts js (t0 + w)).dn k ≤ (jb js k).k) ∧ 0 ≤ kO (tst ts js t0).dn k ∧ ((jb js k).r < (t0 : Int) → kO (tst ts js t0).dn k = (jb js k).k) ∧ (¬ (jb js k).r < ((t0 + w : Nat) : Int) → kO (tst ts js (t0 + w)).dn k = 0) := fun k hk hpk => by
    refine ⟨(hI1.d0 k hk).2, (hI0.d0 k hk).1, fun h => hq0 k hk hpk h, fun h => ?_⟩
    rcases Int.lt_or_le 0 (kO (tst ts js (t0 + w)).dn k) with h1 | h1
    ·exact absurd (hI1.dr k hk h1) h
    ·have := (hI1.d0 k hk).1; omega
   refine rs_lt _ (fun k hk => ?_) ?_
   ·by_cases hpk : prO ts js k ≤ p
    ·obtain ⟨g1, g2, g3, g4⟩ := hpt k hk hpk
     simp only [if_pos hpk]
     by_cases c1 : (t0 : Int) ≤ (jb js k).r
     ·by_cases c2 : (jb js k).r < ((t0 + w : Nat) : Int)
      ·rw [if_pos (by simp only [Bool.and_eq_true, decide_eq_true_eq]; exact ⟨c1, c2⟩)]; omega
      ·rw [if_neg (by simp only [Bool.and_eq_true, decide_eq_true_eq]; exact fun h => c2 h.2), g4 c2]; omega
     ·rw [if_neg (by simp only [Bool.and_eq_true, decide_eq_true_eq]; exact fun h => c1 h.1)]
      have := g3 (by omega)
      omega
    ·simp only [if_neg hpk]
     split <;> omega
   ·have hnq := hno (t0 + w) (by omega) (Nat.le_refl _)
    simp only [qui, Classical.not_forall] at hnq
    obtain ⟨k, hk, hpk, hrk, hdk⟩ := hnq
    obtain ⟨g1, g2, g3, g4⟩ := hpt k hk hpk
    refine ⟨k, hk, ?_⟩
    have c1 : (t0 : Int) ≤ (jb js k).r := by
     rcases Int.lt_or_le (jb js k).r (t0 : Int) with h | h
     ·have := g3 h
      have := dn_mono (ts := ts) hl t0 k w
      omega
     ·exact h
    simp only [if_pos hpk]
    rw [if_pos (by simp only [Bool.and_eq_true, decide_eq_true_eq]; exact ⟨c1, hrk⟩)]
    omega
  have hwk := lv_work (js := js) hv L hD (i := (jb js j).t) (p := p) l.t0 l.t1 (by rw [← hp]; rfl) (t0 := t0) hw hwT
  unfold needS at hn
  omega
 obtain ⟨t, h1, h2, h3⟩ := hex
 have htr : r < t := by
  rcases Nat.lt_or_ge r t with h | h
  ·exact h
  ·exact absurd h3 (hmax t h1 h)
 have hd := h3 j hj (by omega) (by rw [hr]; omega)
 have hI := ti_all (ts := ts) hl t
 refine ⟨t, by omega, hd, ?_⟩
 have := hl.k1 j hj
 rcases hI.en j hj with h | h <;> omega
theorem sound_end (hv : Vs ts) (L : LJs ts js) (hD : Dist ts) {j : Nat} (hj : j < js.length) {w : Nat} (hw : 1 ≤ w) (hwT : (w : Int) + (tk ts (jb js j).t).j ≤ (tk ts (jb js j).t).t) (hn : needS ts (jb js j).t w ≤ w) {T : Nat} (hd : kO (tst ts js T).dn j = (jb js j).k) :
  kO (tst ts js T).en j - (jb js j).a ≤ w + (tk ts (jb js j).t).j := by
 obtain ⟨n, h1, h2, h3⟩ := enough_sound hv L hD hj hw hwT hn
 have hl := lg_of L
 have l := jb_lj L hj
 have := l.r1
 rcases Nat.le_total n T with h | h
 ·obtain ⟨m, rfl⟩ := Nat.exists_eq_add_of_le h
  rw [(en_stay hl hj h2 m).2]; omega
 ·obtain ⟨m, rfl⟩ := Nat.exists_eq_add_of_le h
  rw [(en_stay hl hj hd m).2] at h3; omega
end
end
section
open Go.RowKit
theorem refAdd_any (a b : Int) (ha : 0 ≤ a) (ha1 : a ≤ 18446744073709551615) (hb : 0 ≤ b) (hb1 : b ≤ 18446744073709551615) (w : World) :
  Calls Tryz.prog 98 #[.int .u64 a, .int .u64 b] w fun e w' => e = .returned (.agg #[.int .u64 (addNN a b), .bool (addB a b)]) ∧ Below w.heap.size w w' := by
 by_cases h : a + b ≤ 18446744073709551615
 ·have e1 : addNN a b = a + b := by simp [addNN, h]
  have e2 : addB a b = true := by simp [addB, h]
  have h' : ¬ 18446744073709551615 - b < a := by omega
  rw [e1, e2]
  clear e1 e2
  go_enter Tryz.func98, Tryz.ntmps98
  go_wp2
  go_returns
  exact ⟨rfl, by go_grown⟩
 ·have e1 : addNN a b = 0 := by simp [addNN, h]
  have e2 : addB a b = false := by simp [addB, h]
  have h' : 18446744073709551615 - b < a := by omega
  rw [e1, e2]
  clear e1 e2
  go_enter Tryz.func98, Tryz.ntmps98
  go_wp2
  go_returns
  exact ⟨rfl, by go_grown⟩
theorem mul_over (a b : Int) (hb : 0 < b) (h : 18446744073709551615 / b < a) : ¬ a * b ≤ 18446744073709551615 := by
 intro hle
 have := (Int.le_ediv_iff_mul_le hb).2 hle
 omega
theorem mul_under (a b : Int) (hb : 0 < b) (h : ¬ 18446744073709551615 / b < a) : a * b ≤ 18446744073709551615 :=
 (Int.le_ediv_iff_mul_le hb).1 (by omega)
theorem refMul_any (a b : Int) (ha : 0 ≤ a) (ha1 : a ≤ 18446744073709551615) (hb : 0 ≤ b) (hb1 : b ≤ 18446744073709551615) (w : World) :
  Calls Tryz.prog 100 #[.int .u64 a, .int .u64 b] w fun e w' => e = .returned (.agg #[.int .u64 (mulN a b), .bool (mulB a b)]) ∧ Below w.heap.size w w' := by
 by_cases hb0 : 0 < b
 ·by_cases h : 18446744073709551615 / b < a
  ·have e1 : mulN a b = 0 := by simp [mulN, mul_over a b hb0 h]
   have e2 : mulB a b = false := by simp [mulB, mul_over a b hb0 h]
   rw [e1, e2]
   clear e1 e2
   go_enter Tryz.func100, Tryz.ntmps100
   go_wp2
   go_returns
   exact ⟨rfl, by go_grown⟩
  ·have hm := mul_under a b hb0 h
   have e1 : mulN a b = a * b := by simp [mulN, hm]
   have e2 : mulB a b = true := by simp [mulB, hm]
   have hp := mul_nonneg' a b ha hb
   rw [e1, e2]
   clear e1 e2
   go_enter Tryz.func100, Tryz.ntmps100
   go_wp2
   go_returns
   exact ⟨rfl, by go_grown⟩
 ·obtain rfl : b = 0 := by omega
  have e1 : mulN a 0 = 0 := by simp [mulN]
  have e2 : mulB a 0 = true := by simp [mulB]
  rw [e1, e2]
  clear e1 e2
  go_enter Tryz.func100, Tryz.ntmps100
  go_wp2
  go_returns
  exact ⟨by simp, by go_grown⟩
theorem refCeil_any (a b : Int) (ha : 0 ≤ a) (ha1 : a ≤ 18446744073709551615) (hb : 0 ≤ b) (hb1 : b ≤ 18446744073709551615) (w : World) :
  Calls Tryz.prog 99 #[.int .u64 a, .int .u64 b] w fun e w' => e = .returned (.agg #[.int .u64 (ceilN a b), .bool (ceilB b)]) ∧ Below w.heap.size w w' := by
 by_cases h0 : b = 0
 ·subst h0
  have e1 : ceilN a 0 = 0 := by simp [ceilN]
  have e2 : ceilB 0 = false := by simp [ceilB]
  rw [e1, e2]
  clear e1 e2
  go_enter Tryz.func99, Tryz.ntmps99
  go_wp2
  go_returns
  exact ⟨rfl, by go_grown⟩
 ·have hp : 0 < b := by omega
  have hz : (b == 0) = false := by simp; omega
  have hq := quo_le a b ha hb
  have e2 : ceilB b = true := by simp [ceilB, h0]
  have hm := Int.emod_nonneg a h0
  by_cases hr : a % b = 0
  ·have e1 : ceilN a b = a / b := by simp [ceilN, h0, hr]
   have hrb : ¬ 0 < a % b := by omega
   rw [e1, e2]
   clear e1 e2 hr h0
   go_enter Tryz.func99, Tryz.ntmps99
   go_wp2
   go_returns
   exact ⟨rfl, by go_grown⟩
  ·have e1 : ceilN a b = a / b + 1 := by simp [ceilN, h0, hr]
   have hrb : 0 < a % b := by omega
   have hl := quo_lt a b ha ha1 hp hr
   rw [e1, e2]
   clear e1 e2 hr h0
   go_enter Tryz.func99, Tryz.ntmps99
   go_wp2
   go_returns
   exact ⟨rfl, by go_grown⟩
theorem end_any (n : Int) (k : Bool) (w : World) :
  Calls Tryz.prog 97 #[.agg #[.int .u64 n, .bool k]] w fun e w' => e = .returned (.int .u64 (endN k n)) ∧ Below w.heap.size w w' := by
 cases k
 all_goals
  simp only [endN]
  go_enter Tryz.func97, Tryz.ntmps97
  go_wp2
  go_ret
  exact ⟨rfl, by go_grown⟩
end
section
open Go.RowKit
theorem endN_sat (s z : Int) : endN (addB s z) (addNN s z) = satAdd s z := by
 simp only [satAdd, endN, addB, addNN]
 by_cases hle : s + z ≤ 18446744073709551615 <;> simp [hle]
def KeptW (w w' : World) : Prop := Below w.heap.size w w'
theorem refSum_nums (v : Value) (zs : List Int) (w : World) (hv : Nums w v zs) (hz : ∀ n ∈ zs, 0 ≤ n ∧ n ≤ 18446744073709551615) :
  Calls Tryz.prog 77 #[v] w fun e w' => e = .returned (.int .u64 (satSum 0 zs)) ∧ Below w.heap.size w w' := by
 rcases hv with ⟨rfl, rfl⟩ | ⟨x, cap, rfl, hle, hmax, hc⟩
 ·go_enter Tryz.func77, Tryz.ntmps77
  go_wp2
  go_rounds 1
  go_ret
  exact ⟨rfl, Below.refl _ _⟩
 ·unfold maxLen at hmax
  have HC := Lib.hid hc
  have HZ := Lib.hid hz
  clear hc hz
  generalize hl : zs.length = len at *
  have HL := Lib.hid hl
  clear hl
  go_enter Tryz.func77, Tryz.ntmps77
  go_wp2
  go_loopw [3, 4] (fun s i wr => ∃ k : Nat, k ≤ len ∧ i = .int .i64 k ∧ s = .int .u64 (satSum 0 (zs.take k)) ∧ KeptW w wr) (fun _ i _ => len - (intOf i).toNat)
  case atStart => exact ⟨0, Nat.zero_le _, rfl, rfl, Below.refl _ _⟩
  case round =>
   obtain ⟨k, hk, rfl, rfl, hbw⟩ := hrel
   have hnn : ∀ n ∈ zs.take k, 0 ≤ n := fun n hn => (HZ.out n (List.mem_of_mem_take hn)).1
   have hb := satSum_bd (zs.take k) 0 (by omega) (by omega) hnn
   clear hnn
   by_cases hlt : k < len
   ·have hkz : k < zs.length := by rw [HL.out]; exact hlt
    have hcell : wr.cell? (x.add k) = some (.int .u64 (zs.getD k 0)) := by
     have h := HC.out k hlt
     rw [Below.cell hbw (World.block_lt_of_cell? w _ h)]; exact h
    have hzb : 0 ≤ zs.getD k 0 ∧ zs.getD k 0 ≤ 18446744073709551615 := HZ.out _ (by rw [List.getD_eq_getElem?_getD, List.getElem?_eq_getElem hkz]; exact List.getElem_mem _)
    have HS := Lib.hid (satSum_snoc 0 zs k hkz)
    clear hkz
    generalize zs.getD k 0 = z at *
    generalize satSum 0 (zs.take k) = s at *
    have HA := Lib.hid (refAdd_any s z hb.1 hb.2 hzb.1 hzb.2)
    have HE := Lib.hid (endN_sat s z)
    have HB : Hid (Below w.heap.size w wr) := Lib.hid hbw
    clear hbw
    generalize addNN s z = n1 at *
    generalize addB s z = k1 at *
    go_wp2_with (first
     | (go_at_call 98; refine (HA.out _).mono ?_; rintro e w1 ⟨rfl, hb1⟩)
     | (go_at_call 97; refine (end_any _ _ _).mono ?_; rintro e w2 ⟨rfl, hb2⟩))
    have s1 := HB.out.size
    have s2 := hb1.size
    go_roundw
    case rel => exact ⟨k + 1, by omega, by go_num, by rw [HS.out, ← HE.out], (HB.out.trans (hb1.mono (by omega))).trans (hb2.mono (by omega))⟩
    case measure => simp [intOf]; omega
   ·have HB : Hid (Below w.heap.size w wr) := Lib.hid hbw
    clear hbw
    go_wp2
    go_ret
    exact ⟨ret_u64 (by rw [List.take_of_length_le (by rw [HL.out]; omega)]), HB.out⟩
end
section
open Go.RowKit
theorem foldl_snoc {α β : Type} (f : β → α → β) (b : β) (l : List α) (k : Nat) (x : α) (h : l[k]? = some x) : (l.take (k + 1)).foldl f b = f ((l.take k).foldl f b) x := by
 obtain ⟨hk, e⟩ := List.getElem?_eq_some_iff.1 h
 rw [List.take_succ_eq_append_getElem hk, List.foldl_append, e]
 rfl
end
section
open Go.RowKit
theorem ret_k {k : IntKind} {a b : Int} (h : a = b) : Ending.returned (.int k a) = .returned (.int k b) := by rw [h]
theorem rblock_any (A : Option Addr) (cap : Nat) (l : List Ts) (i : Int) (w : World) (hR : Row w A cap l) (hi : in64 i) :
  Calls Tryz.prog 78 #[.slice A l.length cap, .int .i64 i] w fun e w' => e = .returned (.int .i64 (blockI l i)) ∧ Below w.heap.size w w' := by
 have K := Lib.hid (ris_any A cap l i w hR hi)
 have hle := hR.le
 have hmx := hR.mx
 cases hb : isB l i
 ·rw [hb] at K
  have e : blockI l i = 0 := by unfold blockI; rw [hb]; rfl
  rw [e]
  clear hb e hR
  generalize l.length = N at *
  go_enter Tryz.func78, Tryz.ntmps78
  go_wp2_with (go_at_call 46; (with_reducible refine K.out.mono ?_); rintro e w1 ⟨rfl, h⟩)
  go_loopw [6, 7] (fun b j wr => b = .int .i64 0 ∧ j = .int .i64 0 ∧ wr = w1) (fun _ _ _ => 0)
  case atStart => exact ⟨rfl, rfl, rfl⟩
  case round =>
   obtain ⟨rfl, rfl, rfl⟩ := hrel
   by_cases h0 : 0 < N
   ·have u0 : decide ((0 : Int) < (N : Int)) = true := decide_eq_true (by omega)
    go_wp2
    go_ret
    exact ⟨rfl, h⟩
   ·have u0 : decide ((0 : Int) < (N : Int)) = false := decide_eq_false (by omega)
    go_wp2
    go_ret
    exact ⟨rfl, h⟩
 ·rw [hb] at K
  have hv := isB_vs hb
  obtain ⟨ki, y, rfl, hki, hy⟩ := isB_get hb
  have hE : blockI l (ki : Int) = blkU y.p l := by unfold blockI; rw [hb, if_pos rfl, (pOf_get hy).1]
  have HE := Lib.hid hE
  have HV := Lib.hid hv
  have ROW := Lib.hid hR
  have HY := Lib.hid hy
  rw [hE]
  clear hb hE hR hv hy
  generalize hN : l.length = N at *
  have HN := Lib.hid hN
  clear hN
  have hI0 : (0 : Int) ≤ (ki : Int) := by omega
  have hI1 : (ki : Int) < ((N : Nat) : Int) := by omega
  go_enter Tryz.func78, Tryz.ntmps78
  go_wp2_with (go_at_call 46; (with_reducible refine K.out.mono ?_); rintro e w1 ⟨rfl, h⟩)
  have HW1 := Lib.hid h
  clear h
  go_loopw [6, 7] (fun b j wr => ∃ k : Nat, k ≤ N ∧ j = .int .i64 k ∧ b = .int .i64 ((l.take k).foldl (blkUF y.p) 0) ∧ Hid (Lt w wr)) (fun _ j _ => N - (intOf j).toNat)
  case atStart => exact ⟨0, Nat.zero_le _, rfl, rfl, Lib.hid HW1.out⟩
  case round =>
   obtain ⟨k, hk, rfl, rfl, HL⟩ := hrel
   have hbd := blk_take_bd (p := y.p) HV.out k
   by_cases hlt : k < N
   ·obtain ⟨b', o, x, rfl, hx, hxw, hbl, hT⟩ := ROW.out.get (k := k) (by rw [HN.out]; exact hlt)
    have hTr := hT.later HL.out
    have c5 := hTr.c5
    have c6 := hTr.c6
    have hTy := (ROW.out.at2 HY.out).later HL.out
    have d6 := hTy.c6
    have hi0 : (0 : Int) ≤ (k : Int) := by omega
    have hi1 : (k : Int) < ((N : Nat) : Int) := by omega
    have hok := HV.out.all x (List.mem_of_getElem? hx)
    have q0 := hok.q0
    have q1 := hok.q1
    have HS := Lib.hid (foldl_snoc (blkUF y.p) 0 l k x hx)
    generalize (l.take k).foldl (blkUF y.p) 0 = b at *
    clear hT hTr hTy hx hxw hbl hok
    by_cases hp : x.p > y.p
    ·have u1 : decide (x.p > y.p) = true := decide_eq_true hp
     have u1' : decide (y.p < x.p) = true := decide_eq_true hp
     have HF : Hid (blkUF y.p b x = max b (x.q - 1)) := Lib.hid (by unfold blkUF; rw [if_pos hp])
     clear hp
     go_upto_region 6 with (fail)
     go_quiet (fail)
     go_wp2
     go_roundw
     case rel => exact ⟨k + 1, by omega, by go_num, by rw [HS.out, HF.out], Lib.hid (below_drewN HL.out _)⟩
     case measure => simp [intOf]; omega
    ·have u1 : decide (x.p > y.p) = false := decide_eq_false hp
     have u1' : decide (y.p < x.p) = false := decide_eq_false hp
     have HF : Hid (blkUF y.p b x = b) := Lib.hid (by unfold blkUF; rw [if_neg hp])
     clear hp
     go_upto_region 6 with (fail)
     go_quiet (fail)
     go_wp2
     go_roundw
     case rel => exact ⟨k + 1, by omega, by go_num, by rw [HS.out, HF.out], Lib.hid (below_drewN HL.out _)⟩
     case measure => simp [intOf]; omega
   ·obtain rfl : k = N := by omega
    go_wp2
    go_ret
    exact ⟨ret_k (by rw [List.take_of_length_le (by rw [HN.out]; exact Nat.le_refl _)]; rfl), HL.out⟩
theorem num_field (n : Int) (k : Bool) (w : World) : (Instr.field 156 (.agg #[.int .u64 n, .bool k]) 0).run Tryz.prog w = .ok (.int .u64 n) w := by rfl
theorem endN_add (a b : Int) : endN (addB a b) (addNN a b) = satAdd a b := by
 unfold endN addB addNN satAdd
 by_cases h : a + b ≤ 18446744073709551615
 ·rw [decide_eq_true h, if_pos rfl, if_pos h, if_pos h]
 ·rw [decide_eq_false h, if_neg (by decide), if_neg h]
theorem rhigher_any (A : Option Addr) (cap : Nat) (l : List Ts) (i v : Int) (w : World) (hR : Row w A cap l) (hi : in64 i) (hv0 : U v) :
  Calls Tryz.prog 79 #[.slice A l.length cap, .int .i64 i, .int .u64 v] w fun e w' => e = .returned (.int .u64 (higherI l i v)) ∧ Below w.heap.size w w' := by
 have K := Lib.hid (ris_any A cap l i w hR hi)
 have hle := hR.le
 have hmx := hR.mx
 by_cases hb : isB l i = true ∧ v ≠ 0
 ·obtain ⟨hb, hvn⟩ := hb
  rw [hb] at K
  have hv := isB_vs hb
  obtain ⟨ki, y, rfl, hki, hy⟩ := isB_get hb
  have hE : higherI l (ki : Int) v = l.foldl (hiUF y.p v) 0 := by unfold higherI hiU; rw [hb, if_pos rfl, if_neg hvn, (pOf_get hy).1]
  have HV := Lib.hid hv
  have ROW := Lib.hid hR
  have HY := Lib.hid hy
  rw [hE]
  obtain ⟨v0, v1⟩ := hv0
  have hvp : decide (v > 0) = true := decide_eq_true (by omega)
  have hvp' : decide (0 < v) = true := decide_eq_true (by omega)
  clear hb hE hR hv hy
  generalize hN : l.length = N at *
  have HN := Lib.hid hN
  clear hN
  have hI0 : (0 : Int) ≤ (ki : Int) := by omega
  have hI1 : (ki : Int) < ((N : Nat) : Int) := by omega
  go_enter Tryz.func79, Tryz.ntmps79
  go_wp2_with (go_at_call 46; (with_reducible refine K.out.mono ?_); rintro e w1 ⟨rfl, h⟩)
  have HW1 := Lib.hid h
  clear h
  go_loopw [8, 9] (fun b j wr => ∃ k : Nat, k ≤ N ∧ j = .int .i64 k ∧ b = .int .u64 ((l.take k).foldl (hiUF y.p v) 0) ∧ Hid (Lt w wr)) (fun _ j _ => N - (intOf j).toNat)
  case atStart => exact ⟨0, Nat.zero_le _, rfl, rfl, Lib.hid HW1.out⟩
  case round =>
   obtain ⟨k, hk, rfl, rfl, HL⟩ := hrel
   have hsu := hi_take_u (p := y.p) (w := v) HV.out ⟨v0, v1⟩ k
   by_cases hlt : k < N
   ·obtain ⟨b', o, x, rfl, hx, hxw, hbl, hT⟩ := ROW.out.get (k := k) (by rw [HN.out]; exact hlt)
    have hTr := hT.later HL.out
    have HTR := Lib.hid hTr
    have c6 := hTr.c6
    have hTy := (ROW.out.at2 HY.out).later HL.out
    have d6 := hTy.c6
    have hi0 : (0 : Int) ≤ (k : Int) := by omega
    have hi1 : (k : Int) < ((N : Nat) : Int) := by omega
    have hok := HV.out.all x (List.mem_of_getElem? hx)
    have HS := Lib.hid (foldl_snoc (hiUF y.p v) 0 l k x hx)
    generalize (l.take k).foldl (hiUF y.p v) 0 = s at *
    by_cases hp : x.p < y.p
    ·have u1 : decide (x.p < y.p) = true := decide_eq_true hp
     have HF : Hid (hiUF y.p v s x = satAdd s (satMul (oftS x v) x.c)) := Lib.hid (by unfold hiUF; rw [if_pos hp])
     have hou := oft_u hok ⟨v0, v1⟩
     have hlu := satAdd_u v0 hok.j0
     have hmu := satMul_u hou.1 (show 0 ≤ x.c by have := hok.c0; omega)
     have hw1 : IntKind.u64.wrap x.j = x.j := by rw [IntKind.wrap_u64]; have := hok.j0; have := hok.j1; omega
     have hw2 : IntKind.u64.wrap x.t = x.t := by rw [IntKind.wrap_u64]; have := hok.t0; have := hok.t1; omega
     have hw3 : IntKind.u64.wrap x.c = x.c := by rw [IntKind.wrap_u64]; have := hok.c0; have := hok.c1; omega
     have j0 := hok.j0
     have j1 := hok.j1
     have t0 : 0 ≤ x.t := by have := hok.t0; omega
     have t1 := hok.t1
     have cc0 : 0 ≤ x.c := by have := hok.c0; omega
     have cc1 := hok.c1
     have KA := Lib.hid (fun W => refAdd_any v x.j v0 v1 j0 (by omega) W)
     have KE := fun W => end_any (addNN v x.j) (addB v x.j) W
     rw [endN_add] at KE
     have KC := fun W => refCeil_any (satAdd v x.j) x.t hlu.1 hlu.2 t0 (by omega) W
     have ho : ceilN (satAdd v x.j) x.t = oftS x v := rfl
     rw [ho] at KC
     have KM := Lib.hid (fun W => refMul_any (oftS x v) x.c hou.1 hou.2 cc0 (by omega) W)
     have KF := fun W => end_any (mulN (oftS x v) x.c) (mulB (oftS x v) x.c) W
     have hm : endN (mulB (oftS x v) x.c) (mulN (oftS x v) x.c) = satMul (oftS x v) x.c := rfl
     rw [hm] at KF
     have KA2 := Lib.hid (fun W => refAdd_any s (satMul (oftS x v) x.c) hsu.1 hsu.2 hmu.1 hmu.2 W)
     have KE2 := fun W => end_any (addNN s (satMul (oftS x v) x.c)) (addB s (satMul (oftS x v) x.c)) W
     rw [endN_add] at KE2
     have KE := Lib.hid KE
     have KC := Lib.hid KC
     have KF := Lib.hid KF
     have KE2 := Lib.hid KE2
     have hnf := num_field
     clear ho hm
     generalize satAdd v x.j = la at *
     generalize addNN v x.j = n1 at *
     generalize addB v x.j = k1 at *
     generalize ceilB x.t = k2 at *
     generalize oftS x v = of at *
     generalize mulN of x.c = n3 at *
     generalize mulB of x.c = k3 at *
     generalize satMul of x.c = mu at *
     generalize satAdd s mu = s' at *
     generalize addNN s mu = n4 at *
     generalize addB s mu = k4 at *
     clear hT hTr hTy hx hxw hbl hok hp hou hlu hmu hsu
     go_upto_region 6 with (fail)
     go_quiet (fail)
     have HLL := Lib.hid (below_drewN HL.out nq)
     have HT := Lib.hid (HTR.out.later (below_drewN (Below.refl _ _) nq))
     clear HL HTR c6 d6
     generalize wr.drewN nq = W1 at *
     have c1 := HT.out.c1
     have c2 := HT.out.c2
     have c4 := HT.out.c4
     go_wp2_with (first
      | (go_at_call 98; (with_reducible refine (KA.out _).mono ?_); rintro e v2 ⟨rfl, h⟩; have HT := Lib.hid (HT.out.later h); have HLL := Lib.hid (lt_step _ _ HLL.out h); have c1 := HT.out.c1; have c2 := HT.out.c2; have c4 := HT.out.c4; clear h)
      | (go_at_call 98; (with_reducible refine (KA2.out _).mono ?_); rintro e v2 ⟨rfl, h⟩; have HT := Lib.hid (HT.out.later h); have HLL := Lib.hid (lt_step _ _ HLL.out h); have c1 := HT.out.c1; have c2 := HT.out.c2; have c4 := HT.out.c4; clear h)
      | (go_at_call 97; (with_reducible refine (KE.out _).mono ?_); rintro e v2 ⟨rfl, h⟩; have HT := Lib.hid (HT.out.later h); have HLL := Lib.hid (lt_step _ _ HLL.out h); have c1 := HT.out.c1; have c2 := HT.out.c2; have c4 := HT.out.c4; clear h)
      | (go_at_call 97; (with_reducible refine (KF.out _).mono ?_); rintro e v2 ⟨rfl, h⟩; have HT := Lib.hid (HT.out.later h); have HLL := Lib.hid (lt_step _ _ HLL.out h); have c1 := HT.out.c1; have c2 := HT.out.c2; have c4 := HT.out.c4; clear h)
      | (go_at_call 97; (with_reducible refine (KE2.out _).mono ?_); rintro e v2 ⟨rfl, h⟩; have HT := Lib.hid (HT.out.later h); have HLL := Lib.hid (lt_step _ _ HLL.out h); have c1 := HT.out.c1; have c2 := HT.out.c2; have c4 := HT.out.c4; clear h)
      | (go_at_call 99; (with_reducible refine (KC.out _).mono ?_); rintro e v2 ⟨rfl, h⟩; have HT := Lib.hid (HT.out.later h); have HLL := Lib.hid (lt_step _ _ HLL.out h); have c1 := HT.out.c1; have c2 := HT.out.c2; have c4 := HT.out.c4; clear h)
      | (go_at_call 100; (with_reducible refine (KM.out _).mono ?_); rintro e v2 ⟨rfl, h⟩; have HT := Lib.hid (HT.out.later h); have HLL := Lib.hid (lt_step _ _ HLL.out h); have c1 := HT.out.c1; have c2 := HT.out.c2; have c4 := HT.out.c4; clear h)
      | fail)
     go_roundw
     case rel => exact ⟨k + 1, by omega, by go_num, by rw [HS.out, HF.out], HLL⟩
     case measure => simp [intOf]; omega
    ·have u1 : decide (x.p < y.p) = false := decide_eq_false hp
     have HF : Hid (hiUF y.p v s x = s) := Lib.hid (by unfold hiUF; rw [if_neg hp])
     clear hT hTr hTy hx hxw hbl hok hp hsu
     go_upto_region 6 with (fail)
     go_quiet (fail)
     go_wp2
     go_roundw
     case rel => exact ⟨k + 1, by omega, by go_num, by rw [HS.out, HF.out], Lib.hid (below_drewN HL.out _)⟩
     case measure => simp [intOf]; omega
   ·obtain rfl : k = N := by omega
    go_wp2
    go_ret
    exact ⟨ret_k (by rw [List.take_of_length_le (by rw [HN.out]; exact Nat.le_refl _)]), HL.out⟩
 ·have hE : higherI l i v = 0 := by
   unfold higherI hiU
   by_cases h1 : isB l i = true
   ·rw [if_pos h1, if_pos (Classical.byContradiction fun h2 => hb ⟨h1, h2⟩)]
   ·rw [if_neg h1]
  rw [hE]
  obtain ⟨v0, v1⟩ := hv0
  generalize hbb : isB l i = b at *
  have hq : b = true → v = 0 := fun h1 => Classical.byContradiction fun h2 => hb ⟨h1, h2⟩
  clear hE hR hbb hb
  generalize l.length = N at *
  go_enter Tryz.func79, Tryz.ntmps79
  go_wp2_with (go_at_call 46; (with_reducible refine K.out.mono ?_); rintro e w1 ⟨rfl, h⟩)
  go_loopw [8, 9] (fun s j wr => s = .int .u64 0 ∧ j = .int .i64 0 ∧ wr = w1) (fun _ _ _ => 0)
  case atStart => exact ⟨rfl, rfl, rfl⟩
  case round =>
   obtain ⟨rfl, rfl, rfl⟩ := hrel
   by_cases h0 : 0 < N
   ·have u0 : decide ((0 : Int) < (N : Int)) = true := decide_eq_true (by omega)
    cases b
    ·clear hq
     go_wp2
     go_ret
     exact ⟨rfl, h⟩
    ·obtain rfl := hq rfl
     clear hq
     go_wp2
     go_ret
     exact ⟨rfl, h⟩
   ·have u0 : decide ((0 : Int) < (N : Int)) = false := decide_eq_false (by omega)
    clear hq
    go_wp2
    go_ret
    exact ⟨rfl, h⟩
end
end Go.Proofs.YthfkbbiaemmndaaGreatDoor
