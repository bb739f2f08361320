/- Texts about the program, one after the other: EFin, EGen, EWrk, EUrg, ETrc, ESame, KPure, KRep, KMap, KEnds. -/
import Derived.Test.YtngmaiiibinkaaaGreatG7
import Derived.Laws.CopyOwn
import Derived.Laws.OwnMore
import Derived.Lib.SliceRun
/- All end at some time. -/
namespace Go.Proofs.YtngmaiiibinkaaaGreat
set_option linter.unusedVariables false
set_option linter.unusedSimpArgs false
/-- How many have not ended. -/
def lftC (js : List Fv) (dn : List Int) : Nat := (List.range js.length).countP fun i => decide (kO dn i < (jb js i).k)
section
variable {ts : List Ts} {js : List Fv}
theorem lftC_zero {dn : List Int} (h0 : ∀ i, i < js.length → kO dn i ≤ (jb js i).k) : lftC js dn = 0 ↔ ∀ i, i < js.length → kO dn i = (jb js i).k := by
  unfold lftC
  rw [List.countP_eq_zero]
  constructor
  · intro h i hi
    have := h i (List.mem_range.2 hi)
    have := h0 i hi
    simp at *
    omega
  · intro h i hi
    have := h i (List.mem_range.1 hi)
    simp; omega
theorem countP_one (f g : Nat → Bool) (i : Nat) : ∀ l : List Nat, l.Nodup → i ∈ l → f i = true → g i = false → (∀ j, j ≠ i → g j = f j) → l.countP f = l.countP g + 1
  | [], _, h, _, _, _ => by simp at h
  | a :: l, hn, h, hf, hg, he => by
    have hnd := List.nodup_cons.1 hn
    by_cases ha : a = i
    · subst ha
      rw [List.countP_cons_of_pos hf, List.countP_cons_of_neg (by simp [hg])]
      congr 1
      refine List.countP_congr fun j hj => ?_
      rw [he j (fun e => hnd.1 (by rw [← e]; exact hj))]
    · have hi : i ∈ l := by
        rcases List.mem_cons.1 h with h | h
        · exact absurd h.symm ha
        · exact h
      have := countP_one f g i l hnd.2 hi hf hg he
      rw [List.countP_cons, List.countP_cons, he a ha, this]
      omega
theorem lftC_set {dn : List Int} {i : Nat} {v : Int} (hl : dn.length = js.length) (hi : i < js.length) (hk : kO dn i < (jb js i).k) : lftC js (dn.set i v) + (if v < (jb js i).k then 0 else 1) = lftC js dn := by
  unfold lftC
  by_cases hv : v < (jb js i).k
  · rw [if_pos hv]
    refine List.countP_congr fun j hj => ?_
    rw [kO_set _ _ (by omega)]
    by_cases e : j = i
    · subst e; simp [hv, hk]
    · simp [e]
  · rw [if_neg hv]
    symm
    refine countP_one _ _ i _ List.nodup_range (List.mem_range.2 hi) (by simp [hk]) ?_ (fun j hj => ?_)
    · rw [kO_set _ _ (by omega), if_pos rfl]; simp; omega
    · rw [kO_set _ _ (by omega), if_neg hj]
theorem lftC_init (hl : Lg js) : lftC js (tst ts js 0).dn = js.length := by
  unfold lftC
  rw [List.countP_eq_length.2]
  · simp
  · intro i hi
    have hi := List.mem_range.1 hi
    have := hl.k1 i hi
    have e : kO (tst ts js 0).dn i = 0 := kO_rep _ _ _ hi
    exact decide_eq_true (by rw [e]; omega)
/-- By then all have ended. -/
theorem done_by (hl : Lg js) (R : Nat) (hR : ∀ i, i < js.length → (jb js i).r ≤ R) : ∀ m : Nat, (∀ i, i < js.length → kO (tst ts js (R + m)).dn i = (jb js i).k) ∨ (m : Int) ≤ (tst ts js (R + m)).dn.sum
  | 0 => by
    right
    have hI := ti_all (ts := ts) hl R
    have := sum_le (List.replicate js.length 0) (tst ts js R).dn (by simp [hI.ld]) (fun i hi => by
      have hi' : i < js.length := by simpa using hi
      rw [kO_rep _ _ _ hi']
      exact (hI.d0 i hi').1)
    simpa using this
  | m + 1 => by
    have hI := ti_all (ts := ts) hl (R + m)
    rcases done_by hl R hR m with h | h
    · left
      have := (run_done hl h 1).1
      intro i hi
      rw [← Nat.add_assoc, this]
      exact h i hi
    · by_cases hd : ∀ i, i < js.length → kO (tst ts js (R + m)).dn i = (jb js i).k
      · left
        have := (run_done hl hd 1).1
        intro i hi
        rw [← Nat.add_assoc, this]
        exact hd i hi
      · right
        rw [← Nat.add_assoc, tst_succ]
        cases hw : whoS ts js (tst ts js (R + m)) ((R + m : Nat) : Int) with
        | none =>
          exfalso
          apply hd
          intro i hi
          exact not_rdy (hI.d0 i hi).2 (hI.who_none hl hw i hi) (by have := hR i hi; omega)
        | some i =>
          rw [tstep_some hw]
          simp only [runM]
          rw [sum_set _ _ _ (by rw [hI.ld]; exact (hI.who_some hl hw).1)]
          omega
theorem done_at (hl : Lg js) (R S : Nat) (hR : ∀ i, i < js.length → (jb js i).r ≤ R) (hS : (js.map (·.k)).sum ≤ S) : ∀ i, i < js.length → kO (tst ts js (R + (S + 1))).dn i = (jb js i).k := by
  rcases done_by (ts := ts) hl R hR (S + 1) with h | h
  · exact h
  · exfalso
    have hI := ti_all (ts := ts) hl (R + (S + 1))
    have h2 := sum_le (tst ts js (R + (S + 1))).dn (js.map (·.k)) (by rw [hI.ld, List.length_map]) (fun i hi => by
      have hi' : i < js.length := by rw [← hI.ld]; exact hi
      have := (hI.d0 i hi').2
      have e : kO (js.map (·.k)) i = (jb js i).k := by simp [kO, jb, hi']
      omega)
    omega
theorem done_later (hl : Lg js) {a b : Nat} (hab : a ≤ b) (h : ∀ i, i < js.length → kO (tst ts js a).dn i = (jb js i).k) : (tst ts js b).dn = (tst ts js a).dn ∧ (tst ts js b).sp = (tst ts js a).sp ∧ (tst ts js b).en = (tst ts js a).en := by
  have := run_done (ts := ts) hl h (b - a)
  rwa [show a + (b - a) = b by omega] at this
end
end Go.Proofs.YtngmaiiibinkaaaGreat
/- What is legal; runs of jobs that are made out of others. -/
namespace Go.Proofs.YtngmaiiibinkaaaGreat
set_option linter.unusedVariables false
set_option linter.unusedSimpArgs false

/-! ### What is legal -/
theorem fitB_of (q : Int) : ∀ (left : Int) (l : List Int), Pos1 l → l.sum ≤ left → (∀ x ∈ l, x ≤ q) → fitB q left l = true
  | left, [], _, _, _ => rfl
  | left, c :: r, h1, h2, h3 => by
    rw [List.sum_cons] at h2
    have := h1.head
    have := h1.tail.sum
    have := h3 c (by simp)
    rw [fitB, fitB_of q (left - c) r h1.tail (by omega) (fun x hx => h3 x (List.mem_cons_of_mem _ hx)), decide_eq_true (by omega)]
    rfl
theorem leg_of {ts : List Ts} : ∀ js : List Fv, (∀ j ∈ js, LJ ts j) → js.Pairwise (fun x y => x.t = y.t → x.a + (tk ts x.t).t ≤ y.a) → legF ts [] js = true := by
  refine snoc_ind (fun _ _ => rfl) fun js j ih h1 h2 => ?_
  rw [List.pairwise_append] at h2
  have hj := h1 j (by simp)
  rw [legF_app, ih (fun x hx => h1 x (by simp [hx])) h2.1, List.nil_append, legF, legF, Bool.true_and, Bool.and_true]
  have hs : soonI ts js j.t ≤ j.a := by
    unfold soonI
    cases hl : lastT js j.t with
    | none => exact hj.a0
    | some l =>
      obtain ⟨m1, m2⟩ := lastT_mem hl
      have := h2.2.2 l m1 j (by simp) m2
      rw [m2] at this
      exact this
  rw [legJ, inB_yes ⟨hj.t0, by have := hj.t1; omega⟩, inB_yes ⟨hs, hj.a1⟩, inB_yes ⟨hj.r0, hj.r1⟩, inB_yes ⟨hj.k0, hj.k1⟩, fitB_of _ _ _ hj.pos hj.fit hj.q]
  rfl
theorem legS_of {ts : List Ts} {js : List Fv} (hc : (chkAll ts).2 = 0) (hl : js.length ≤ 4096) (h1 : ∀ j ∈ js, LJ ts j) (h2 : js.Pairwise (fun x y => x.t = y.t → x.a + (tk ts x.t).t ≤ y.a)) : legS ts js = true := by
  rw [legS, leg_of js h1 h2, decide_eq_true ⟨hc, hl⟩]
  rfl

/-! ### Who runs, of two rows of jobs -/
theorem pkN_congr {ts ts' : List Ts} {js js' : List Fv} {dn dn' : List Int} {t t' : Int} : ∀ n, (∀ i, i < n → rdy js' dn' t' i = rdy js dn t i) → (∀ i j, i < n → j < n → decide (prO ts' js' i < prO ts' js' j) = decide (prO ts js i < prO ts js j)) → pkN ts' js' dn' t' n = pkN ts js dn t n
  | 0, _, _ => rfl
  | n + 1, h1, h2 => by
    have e := pkN_congr n (fun i hi => h1 i (by omega)) (fun i j hi hj => h2 i j (by omega) (by omega))
    rw [pkN_succ, pkN_succ, e]
    unfold pk1
    rw [h1 n (by omega)]
    cases hp : pkN ts js dn t n with
    | none => rfl
    | some b =>
      have hb := ((pkN_spec n).2 b hp).1
      have h3 := h2 n b (by omega) (by omega)
      simp only [h3]
theorem jb_map {f : Fv → Fv} {js : List Fv} {i : Nat} (hi : i < js.length) : jb (js.map f) i = f (jb js i) := by
  have e : js[i]? = some js[i] := List.getElem?_eq_getElem hi
  rw [jb_get e, jb_get (x := f js[i]) (by rw [List.getElem?_map, e]; rfl)]
theorem jb_out {js : List Fv} {i : Nat} (hi : js.length ≤ i) : jb js i = ⟨0, 0, 0, 1, []⟩ := by
  have : js[i]? = none := List.getElem?_eq_none hi
  simp [jb, this]
theorem kO_map {f : Int → Int} {l : List Int} {i : Nat} (hi : i < l.length) : kO (l.map f) i = f (kO l i) := by
  simp [kO, hi]
theorem addN_map (f : Int → Int) (hf : ∀ a b, f a = f b → a = b) (sp : List Spn) (i : Nat) (t u m m' : Int) (ht : f t = u) (hm : f (t + m) = u + m') :
    addN (sp.map fun x => ⟨x.j, f x.f, f x.t⟩) i u m' = (addN sp i t m).map fun x => ⟨x.j, f x.f, f x.t⟩ := by
  rcases List.eq_nil_or_concat sp with h | ⟨l, x, h⟩
  · subst h
    simp [addN, ht, hm]
  · rw [List.concat_eq_append] at h
    subst h
    unfold addN
    rw [List.map_append, List.map_singleton]
    simp only [List.getLast?_concat, List.dropLast_concat]
    by_cases hc : x.j = i ∧ x.t = t
    · rw [if_pos hc, if_pos ⟨hc.1, by rw [hc.2, ht]⟩]
      simp [hm]
    · rw [if_neg hc, if_neg (fun h => hc ⟨h.1, hf _ _ (by rw [h.2, ht])⟩)]
      simp [ht, hm]
end Go.Proofs.YtngmaiiibinkaaaGreat
/- What spans tell: work, gaps, and who is more urgent. -/
namespace Go.Proofs.YtngmaiiibinkaaaGreat
set_option linter.unusedVariables false
set_option linter.unusedSimpArgs false
/-- How long a job runs, by spans. -/
def lenS (sp : List Spn) (i : Nat) : Int := ((sp.filter fun x => decide (x.j = i)).map fun x => x.t - x.f).sum
theorem lenS_app (a b : List Spn) (i : Nat) : lenS (a ++ b) i = lenS a i + lenS b i := by simp [lenS]
theorem lenS_one (x : Spn) (i : Nat) : lenS [x] i = if x.j = i then x.t - x.f else 0 := by
  unfold lenS
  by_cases h : x.j = i <;> simp [h]
/-- Spans from a tick on; what is idle between is idle, as nobody waits. -/
def Gap (js : List Fv) (en : List Int) (a b : Int) : Prop := ∀ i, i < js.length → (jb js i).r < b → kO en i ≤ a ∧ 0 < kO en i
def chn (js : List Fv) (en : List Int) : Int → List Spn → Prop
  | _, [] => True
  | a, x :: l => a ≤ x.f ∧ x.f < x.t ∧ x.j < js.length ∧ (jb js x.j).r ≤ x.f ∧ (a < x.f → Gap js en a x.f) ∧ chn js en x.t l
def lastA (sp : List Spn) : Int := (sp.getLast?.map (·.t)).getD 0
theorem lastA_app (l : List Spn) (x : Spn) : lastA (l ++ [x]) = x.t := by simp [lastA]
theorem chn_app {js : List Fv} {en : List Int} (x : Spn) : ∀ (a : Int) (l : List Spn), chn js en a (l ++ [x]) ↔ chn js en a l ∧ chn js en ((l.getLast?.map (·.t)).getD a) [x]
  | a, [] => by simp [chn]
  | a, y :: l => by
    rw [List.cons_append, chn, chn, chn_app x y.t l]
    have : ((y :: l).getLast?.map (·.t)).getD a = (l.getLast?.map (·.t)).getD y.t := by
      rcases List.eq_nil_or_concat l with h | ⟨m, z, h⟩
      · subst h; rfl
      · rw [List.concat_eq_append] at h; subst h
        rw [← List.cons_append, List.getLast?_concat, List.getLast?_concat]
        rfl
    rw [this]
    constructor
    · rintro ⟨h1, h2, h3, h4, h5, h6, h7⟩; exact ⟨⟨h1, h2, h3, h4, h5, h6⟩, h7⟩
    · rintro ⟨⟨h1, h2, h3, h4, h5, h6⟩, h7⟩; exact ⟨h1, h2, h3, h4, h5, h6, h7⟩
theorem chn_en {js : List Fv} {en en' : List Int} (h : ∀ i, i < js.length → 0 < kO en i → kO en' i = kO en i) : ∀ (a : Int) (l : List Spn), chn js en a l → chn js en' a l
  | _, [], _ => trivial
  | a, x :: l, ⟨h1, h2, h3, h4, h5, h6⟩ => ⟨h1, h2, h3, h4, fun hl i hi hr => by
      have := h5 hl i hi hr
      rw [h i hi this.2]; exact this, chn_en h x.t l h6⟩
/-- The last span goes on. -/
def exS0 (sp : List Spn) (i : Nat) (t : Int) : Bool := match sp.getLast? with | none => false | some x => decide (x.j = i) && decide (x.t = t)
theorem ex0_no {sp : List Spn} {i : Nat} {t m : Int} (h : exS0 sp i t = false) : addN sp i t m = sp ++ [⟨i, t, t + m⟩] := by
  unfold exS0 at h
  unfold addN
  cases hl : sp.getLast? with
  | none => rfl
  | some x =>
    rw [hl] at h
    simp only at h ⊢
    rw [if_neg]
    rintro ⟨h1, h2⟩
    rw [decide_eq_true h1, decide_eq_true h2] at h
    cases h
theorem ex0_yes {sp : List Spn} {i : Nat} {t m : Int} (h : exS0 sp i t = true) : ∃ l x, sp = l ++ [x] ∧ x.j = i ∧ x.t = t ∧ addN sp i t m = l ++ [⟨x.j, x.f, t + m⟩] := by
  unfold exS0 at h
  unfold addN
  cases hl : sp.getLast? with
  | none => rw [hl] at h; cases h
  | some x =>
    rw [hl] at h
    simp only [Bool.and_eq_true, decide_eq_true_eq] at h ⊢
    obtain ⟨l, rfl⟩ := List.getLast?_eq_some_iff.1 hl
    refine ⟨l, x, rfl, h.1, h.2, ?_⟩
    rw [if_pos h]
    simp [h.1]
theorem chn_mem {js : List Fv} {en : List Int} : ∀ {a : Int} {l : List Spn}, chn js en a l → ∀ x ∈ l, x.j < js.length ∧ (a ≤ x.f ∧ x.f < x.t) ∧ x.t ≤ (l.getLast?.map (·.t)).getD a
  | _, [], _, x, hx => by cases hx
  | a, y :: l, ⟨h1, h2, h3, h4, h5, h6⟩, x, hx => by
    have hl : ((y :: l).getLast?.map (·.t)).getD a = (l.getLast?.map (·.t)).getD y.t := by
      rcases List.eq_nil_or_concat l with h | ⟨m, z, h⟩
      · subst h; rfl
      · rw [List.concat_eq_append] at h; subst h
        rw [← List.cons_append, List.getLast?_concat, List.getLast?_concat]
        rfl
    rw [hl]
    rcases List.mem_cons.1 hx with rfl | hx
    · refine ⟨h3, ⟨h1, h2⟩, ?_⟩
      cases hg : l.getLast? with
      | none => simp
      | some z =>
        have hz := List.mem_of_getLast? hg
        have := chn_mem h6 z hz
        simp
        omega
    · have := chn_mem h6 x hx
      exact ⟨this.1, ⟨by omega, this.2.1.2⟩, this.2.2⟩
/-- What holds of spans at tick n. -/
structure Wk (js : List Fv) (n : Int) (s : TSt) : Prop where
  ch : chn js s.en 0 s.sp
  la : lastA s.sp ≤ n
  l0 : 0 ≤ lastA s.sp
  gp : lastA s.sp < n → Gap js s.en (lastA s.sp) n
  wk : ∀ i, i < js.length → lenS s.sp i = kO s.dn i
  en : ∀ x ∈ s.sp, kO s.dn x.j = (jb js x.j).k → x.t ≤ kO s.en x.j
  tm : ∀ i, i < js.length → 0 < kO s.dn i → (jb js i).r + kO s.dn i ≤ n ∧ (kO s.dn i = (jb js i).k → (jb js i).r + kO s.dn i ≤ kO s.en i)
section
variable {ts : List Ts} {js : List Fv}
theorem wk_all (hl : Lg js) : ∀ n : Nat, Wk js n (tst ts js n)
  | 0 => by
    refine ⟨trivial, Int.le_refl _, Int.le_refl _, fun h => by simp [tst, lastA] at h, fun i hi => ?_, fun x hx => by simp [tst] at hx, fun i hi hp => ?_⟩
    · simp only [tst]; rw [kO_rep _ _ _ hi]; rfl
    · simp only [tst] at hp; rw [kO_rep _ _ _ hi] at hp; omega
  | n + 1 => by
    have h := wk_all hl n
    have hI := ti_all (ts := ts) hl n
    have hn : ((n + 1 : Nat) : Int) = (n : Int) + 1 := by omega
    rw [tst_succ]
    cases hw : whoS ts js (tst ts js n) n with
    | none =>
      have hno := hI.who_none hl hw
      rw [tstep_none hw]
      refine ⟨h.ch, by have := h.la; simp only; omega, h.l0, fun hlt i hi hr => ?_, h.wk, h.en, fun i hi hp => ⟨by have := (h.tm i hi hp).1; simp only; omega, (h.tm i hi hp).2⟩⟩
      have hd : kO (tst ts js n).dn i = (jb js i).k := not_rdy (hI.d0 i hi).2 (hno i hi) (by omega)
      have hk := hl.k1 i hi
      rcases hI.en i hi with he | he
      · omega
      · refine ⟨?_, he.2.1⟩
        by_cases hla : lastA (tst ts js n).sp < n
        · by_cases hr2 : (jb js i).r < n
          · exact (h.gp hla i hi hr2).1
          · exfalso
            have := (h.tm i hi (by omega)).1
            omega
        · have := h.la
          simp only
          omega
    | some i =>
      obtain ⟨h1, h2, h3⟩ := hI.who_some hl hw
      have hid : i < (tst ts js n).dn.length := by rw [hI.ld]; exact h1
      have hie : i < (tst ts js n).en.length := by rw [hI.le]; exact h1
      have hd0 := hI.d0 i h1
      have hr0 := hl.r0 i h1
      have hki := hl.k1 i h1
      rw [tstep_some hw]
      have hen : ∀ j, j < js.length → 0 < kO (tst ts js n).en j → kO (runM js (tst ts js n) n i 1).en j = kO (tst ts js n).en j := by
        intro j hj hp
        simp only [runM]
        split
        · rw [kO_set _ _ hie]
          split
          · subst j
            rcases hI.en i h1 with he | he <;> omega
          · rfl
        · rfl
      have hch := chn_en hen 0 _ h.ch
      obtain ⟨sp', hsp⟩ : ∃ sp', (runM js (tst ts js n) n i 1).sp = sp' := ⟨_, rfl⟩
      have hsp2 : addN (tst ts js n).sp i n 1 = sp' := hsp
      have hla := h.la
      have key : chn js (runM js (tst ts js n) n i 1).en 0 sp' ∧ lastA sp' = (n : Int) + 1 ∧ (∀ j, lenS sp' j = lenS (tst ts js n).sp j + (if i = j then 1 else 0)) ∧ (∀ x ∈ sp', (x ∈ (tst ts js n).sp) ∨ (x.j = i ∧ x.t = (n : Int) + 1)) := by
        cases hx : exS0 (tst ts js n).sp i n with
        | false =>
          have e : sp' = (tst ts js n).sp ++ [⟨i, n, (n : Int) + 1⟩] := by rw [← hsp2]; exact ex0_no hx
          subst e
          refine ⟨(chn_app _ _ _).2 ⟨hch, hla, by simp only; omega, h1, h2, fun hlt => ?_, trivial⟩, lastA_app _ _, fun j => ?_, fun x hx => ?_⟩
          · have hg := h.gp hlt
            intro j hj hr
            have := hg j hj hr
            rw [hen j hj this.2]; exact this
          · rw [lenS_app, lenS_one]
            simp only
            split <;> omega
          · rcases List.mem_append.1 hx with hx | hx
            · exact .inl hx
            · rw [List.mem_singleton.1 hx]; exact .inr ⟨rfl, rfl⟩
        | true =>
          obtain ⟨l, x, e1, e2, e3, e4⟩ := ex0_yes (m := 1) hx
          rw [hsp2] at e4
          subst e4
          rw [e1] at hch
          obtain ⟨c1, c2⟩ := (chn_app _ _ _).1 hch
          obtain ⟨d1, d2, d3, d4, d5, -⟩ := c2
          refine ⟨(chn_app _ _ _).2 ⟨c1, d1, by simp only; omega, d3, d4, d5, trivial⟩, lastA_app _ _, fun j => ?_, fun y hy => ?_⟩
          · rw [e1, lenS_app, lenS_app, lenS_one, lenS_one]
            simp only
            rw [e2]
            split <;> omega
          · rw [e1]
            rcases List.mem_append.1 hy with hy | hy
            · exact .inl (by simp [hy])
            · rw [List.mem_singleton.1 hy]; exact .inr ⟨e2, rfl⟩
      obtain ⟨k1, k2, k3, k4⟩ := key
      have hdn : ∀ j, kO (runM js (tst ts js n) n i 1).dn j = if j = i then kO (tst ts js n).dn i + 1 else kO (tst ts js n).dn j := fun j => by simp only [runM]; rw [kO_set _ _ hid]
      refine ⟨by rw [hsp]; exact k1, by rw [hsp, k2]; omega, by rw [hsp, k2]; omega, fun hlt => by rw [hsp, k2] at hlt; omega, fun j hj => ?_, fun x hx => ?_, fun j hj hp => ?_⟩
      · rw [hsp, k3, hdn, h.wk j hj]
        by_cases e : j = i
        · subst e; simp
        · rw [if_neg e, if_neg (fun h => e h.symm)]; omega
      · rw [hsp] at hx
        rw [hdn]
        intro hk
        have hei : x.j = i → kO (runM js (tst ts js n) n i 1).en x.j = (n : Int) + 1 := fun e => by
          rw [e] at hk ⊢
          rw [if_pos rfl] at hk
          simp only [runM]
          rw [if_pos hk, kO_set _ _ hie, if_pos rfl]
        rcases k4 x hx with hm | ⟨e1, e2⟩
        · by_cases e : x.j = i
          · rw [hei e]
            have := (chn_mem hch x hm).2.2
            have h9 := h.la
            unfold lastA at h9
            omega
          · rw [if_neg e] at hk
            have := h.en x hm hk
            have hxl := (chn_mem hch x hm).1
            rw [hen x.j hxl (by
              have := hl.k1 _ hxl
              rcases hI.en x.j hxl with h | h
              · omega
              · exact h.2.1)]
            exact this
        · rw [hei e1, e2]; exact Int.le_refl _
      · rw [hdn] at hp ⊢
        by_cases e : j = i
        · subst e
          rw [if_pos rfl] at hp ⊢
          have hb : (jb js j).r + kO (tst ts js n).dn j ≤ n := by
            rcases Int.lt_or_le 0 (kO (tst ts js n).dn j) with hq | hq
            · exact (h.tm j hj hq).1
            · omega
          refine ⟨by omega, fun hk => ?_⟩
          simp only [runM]
          rw [if_pos hk, kO_set _ _ hie, if_pos rfl]
          omega
        · rw [if_neg e] at hp ⊢
          have := h.tm j hj hp
          refine ⟨by omega, fun hk => ?_⟩
          rw [hen j hj (by
            have := hl.k1 j hj
            rcases hI.en j hj with h | h
            · omega
            · exact h.2.1)]
          exact this.2 hk
end
end Go.Proofs.YtngmaiiibinkaaaGreat
/- Nobody waits for a less urgent one, but for the rest of a section. -/
namespace Go.Proofs.YtngmaiiibinkaaaGreat
set_option linter.unusedVariables false
set_option linter.unusedSimpArgs false
/-- Ticks within sections, one behind the other, are within one. -/
theorem wth_row (q : Int) : ∀ (c : List Int) (lo hi : Int), Pos1 c → (∀ y ∈ c, y ≤ q) → lo ≤ hi → (∀ d, lo ≤ d → d ≤ hi → wthS c d = true) → hi - lo + 1 ≤ q - 1
  | [], lo, hi, _, _, h, hw => by have := hw lo (Int.le_refl _) h; simp [wthS] at this
  | a :: c, lo, hi, hp, hq, h, hw => by
    have ha := hp.head
    have haq := hq a (by simp)
    have hlo := (wthS_lt hp (hw lo (Int.le_refl _) h)).1
    rcases Int.lt_or_le hi a with h1 | h1
    · omega
    · rcases Int.lt_or_le lo a with h2 | h2
      · exfalso
        have := hw a (by omega) h1
        rw [wthS, Int.sub_self, wthS_neg c 0 hp.tail (Int.le_refl _), decide_eq_false (show ¬ a < a by omega)] at this
        simp at this
      · have := wth_row q c (lo - a) (hi - a) hp.tail (fun y hy => hq y (List.mem_cons_of_mem _ hy)) (by omega) (fun d hd1 hd2 => by
          have := hw (d + a) (by omega) (by omega)
          rw [wthS, decide_eq_false (show ¬ d + a < a by omega), Bool.and_false, Bool.false_or, show d + a - a = d by omega] at this
          exact this)
        omega
structure Ug (ts : List Ts) (js : List Fv) (q : Nat → Int) (n : Int) (s : TSt) : Prop where
  ru : ∀ i, s.ru = some i → ∃ l x, s.sp = l ++ [x] ∧ x.j = i ∧ x.t = n
  la : ∀ x, s.sp.getLast? = some x → ∀ k, k < js.length → k ≠ x.j → kO s.en k ≤ x.f
  se : ∀ x, s.sp.getLast? = some x → ∀ k, k < js.length → prO ts js k < prO ts js x.j → kO s.en k = -1 → (jb js k).r < x.t → ∀ u, (jb js k).r ≤ u → u < x.t → wthS (jb js x.j).c (kO s.dn x.j - (x.t - u)) = true
  sp : ∀ x ∈ s.sp, ∀ k, k < js.length → prO ts js k < prO ts js x.j → (kO s.en k = -1 ∨ x.f < kO s.en k) → (jb js k).r < x.t → x.f < (jb js k).r ∧ x.t - (jb js k).r ≤ q x.j - 1
section
variable {ts : List Ts} {js : List Fv} {q : Nat → Int}
theorem ug_all (hl : Lg js) (hq : ∀ i, ∀ y ∈ (jb js i).c, y ≤ q i) : ∀ n : Nat, Ug ts js q n (tst ts js n)
  | 0 => ⟨fun i hi => by simp [tst] at hi, fun x hx => by simp [tst] at hx, fun x hx => by simp [tst] at hx, fun x hx => by simp [tst] at hx⟩
  | n + 1 => by
    have h := ug_all hl hq n
    have hI := ti_all (ts := ts) hl n
    have hW := wk_all (ts := ts) hl n
    have hn : ((n + 1 : Nat) : Int) = (n : Int) + 1 := by omega
    rw [tst_succ]
    cases hw : whoS ts js (tst ts js n) n with
    | none =>
      rw [tstep_none hw]
      exact ⟨(fun i hi => by cases hi), h.la, h.se, h.sp⟩
    | some i =>
      rw [tstep_some hw]
      obtain ⟨h1, h2, h3⟩ := hI.who_some hl hw
      have hid : i < (tst ts js n).dn.length := by rw [hI.ld]; exact h1
      have hie : i < (tst ts js n).en.length := by rw [hI.le]; exact h1
      have hdn : kO (runM js (tst ts js n) n i 1).dn i = kO (tst ts js n).dn i + 1 := by simp only [runM]; rw [kO_set _ _ hid, if_pos rfl]
      have hen : ∀ k, k ≠ i → kO (runM js (tst ts js n) n i 1).en k = kO (tst ts js n).en k := by
        intro k hk
        simp only [runM]
        split
        · rw [kO_set _ _ hie, if_neg hk]
        · rfl
      have hei : kO (runM js (tst ts js n) n i 1).en i = kO (tst ts js n).en i ∨ kO (runM js (tst ts js n) n i 1).en i = (n : Int) + 1 := by
        simp only [runM]
        split
        · rw [kO_set _ _ hie, if_pos rfl]; exact .inr rfl
        · exact .inl rfl
      -- a more urgent one that waits: then it is within a section
      have hwait : ∀ k, k < js.length → prO ts js k < prO ts js i → kO (tst ts js n).en k = -1 → (jb js k).r ≤ n → (tst ts js n).ru = some i ∧ wthS (jb js i).c (kO (tst ts js n).dn i) = true := by
        intro k hk hp hek hr
        have hkd : kO (tst ts js n).dn k < (jb js k).k := by
          rcases hI.en k hk with he | he
          · exact he.1
          · omega
        have hnp : pkN ts js (tst ts js n).dn n js.length ≠ some i := by
          intro hpk
          have := ((pkN_spec _).2 i hpk).2.2 k hk (rdy_iff.2 ⟨hr, hkd⟩)
          omega
        unfold whoS at hw
        cases hru : (tst ts js n).ru with
        | none => rw [hru] at hw; exact absurd hw hnp
        | some c =>
          rw [hru] at hw
          simp only at hw
          split at hw
          · rename_i hwt
            injection hw with hw
            subst hw
            exact ⟨rfl, hwt⟩
          · exact absurd hw hnp
      obtain ⟨sp', hsp⟩ : ∃ sp', (runM js (tst ts js n) n i 1).sp = sp' := ⟨_, rfl⟩
      have hsp2 : addN (tst ts js n).sp i n 1 = sp' := hsp
      -- of spans ahead
      have old : ∀ x ∈ (tst ts js n).sp, ∀ k, k < js.length → prO ts js k < prO ts js x.j → (kO (runM js (tst ts js n) n i 1).en k = -1 ∨ x.f < kO (runM js (tst ts js n) n i 1).en k) → (jb js k).r < x.t → x.f < (jb js k).r ∧ x.t - (jb js k).r ≤ q x.j - 1 := by
        intro x hx k hk hp he hr
        refine h.sp x hx k hk hp ?_ hr
        by_cases e : k = i
        · subst e
          have := hI.en k hk
          rcases this with h5 | h5
          · exact .inl h5.2
          · omega
        · rw [hen k e] at he
          exact he
      cases hx : exS0 (tst ts js n).sp i n with
      | false =>
        have e : sp' = (tst ts js n).sp ++ [⟨i, n, (n : Int) + 1⟩] := by rw [← hsp2]; exact ex0_no hx
        have no : ∀ k, k < js.length → prO ts js k < prO ts js i → kO (tst ts js n).en k = -1 → ¬ (jb js k).r ≤ n := by
          intro k hk hp hek hr
          obtain ⟨hru, _⟩ := hwait k hk hp hek hr
          obtain ⟨l, x, g1, g2, g3⟩ := h.ru i hru
          unfold exS0 at hx
          rw [g1] at hx
          simp [g2, g3] at hx
        have hne : ∀ k, prO ts js k < prO ts js i → k ≠ i := fun k hp e => by rw [e] at hp; omega
        refine ⟨fun j hj => ?_, fun x hx k hk hne => ?_, fun x hx k hk hp hek hr u hu1 hu2 => ?_, fun x hx k hk hp he hr => ?_⟩
        · simp only [runM, Option.some.injEq] at hj
          exact ⟨_, _, by rw [hsp, e], hj, rfl⟩
        · rw [hsp, e, List.getLast?_concat] at hx
          injection hx with hx
          subst hx
          simp only at hne ⊢
          rw [hen k hne]
          rcases hI.en k hk with h5 | h5 <;> omega
        · rw [hsp, e, List.getLast?_concat] at hx
          injection hx with hx
          subst hx
          simp only at hp hr
          rw [hen k (hne k hp)] at hek
          exact absurd (show (jb js k).r ≤ n by omega) (no k hk hp hek)
        · rw [hsp, e] at hx
          rcases List.mem_append.1 hx with hx | hx
          · exact old x hx k hk hp he hr
          · rw [List.mem_singleton.1 hx] at hp he hr ⊢
            simp only at hp he hr ⊢
            rw [hen k (hne k hp)] at he
            exfalso
            rcases hI.en k hk with h5 | h5
            · exact no k hk hp h5.2 (by omega)
            · omega
      | true =>
        obtain ⟨l, x, e1, e2, e3, e4⟩ := ex0_yes (m := 1) hx
        rw [hsp2] at e4
        have hlast : (tst ts js n).sp.getLast? = some x := by rw [e1]; simp
        have hne : ∀ k, prO ts js k < prO ts js i → k ≠ i := fun k hp e => by rw [e] at hp; omega
        have hft : x.f < x.t := (chn_mem hW.ch x (by rw [e1]; simp)).2.1.2
        have hse : ∀ k, k < js.length → prO ts js k < prO ts js i → kO (tst ts js n).en k = -1 → (jb js k).r < (n : Int) + 1 → ∀ u, (jb js k).r ≤ u → u < (n : Int) + 1 → wthS (jb js i).c (kO (tst ts js n).dn i + 1 - ((n : Int) + 1 - u)) = true := by
          intro k hk hp hek hr u hu1 hu2
          obtain ⟨hru, hwt⟩ := hwait k hk hp hek (by omega)
          by_cases hu : u = n
          · subst hu
            rw [show kO (tst ts js n).dn i + 1 - ((n : Int) + 1 - n) = kO (tst ts js n).dn i by omega]
            exact hwt
          · have := h.se x hlast k hk (by rw [e2]; exact hp) hek (by omega) u hu1 (by omega)
            rw [e2, e3] at this
            rw [show kO (tst ts js n).dn i + 1 - ((n : Int) + 1 - u) = kO (tst ts js n).dn i - ((n : Int) - u) by omega]
            exact this
        refine ⟨fun j hj => ?_, fun y hy k hk hkne => ?_, fun y hy k hk hp hek hr u hu1 hu2 => ?_, fun y hy k hk hp he hr => ?_⟩
        · simp only [runM, Option.some.injEq] at hj
          exact ⟨_, _, by rw [hsp, e4], by rw [← hj]; exact e2, rfl⟩
        · rw [hsp, e4, List.getLast?_concat] at hy
          injection hy with hy
          subst hy
          simp only at hkne ⊢
          rw [hen k (by rw [← e2]; exact hkne)]
          exact h.la x hlast k hk hkne
        · rw [hsp, e4, List.getLast?_concat] at hy
          injection hy with hy
          subst hy
          simp only at hp hr hu2 ⊢
          rw [e2] at hp ⊢
          rw [hen k (hne k hp)] at hek
          rw [hdn]
          exact hse k hk hp hek hr u hu1 hu2
        · rw [hsp, e4] at hy
          rcases List.mem_append.1 hy with hy | hy
          · exact old y (by rw [e1]; simp [hy]) k hk hp he hr
          · rw [List.mem_singleton.1 hy] at hp he hr ⊢
            simp only at hp he hr ⊢
            rw [e2] at hp ⊢
            rw [hen k (hne k hp)] at he
            have hlk := h.la x hlast k hk (by rw [e2]; exact hne k hp)
            have hek : kO (tst ts js n).en k = -1 := by rcases he with he | he <;> omega
            refine ⟨?_, ?_⟩
            · rcases Int.lt_or_le (jb js k).r n with hr2 | hr2
              · exact (h.sp x (by rw [e1]; simp) k hk (by rw [e2]; exact hp) (.inl hek) (by omega)).1
              · omega
            · have hse' := hse k hk hp hek hr
              have := wth_row (q i) (jb js i).c (kO (tst ts js n).dn i + 1 - ((n : Int) + 1 - (jb js k).r)) (kO (tst ts js n).dn i) (hl.pos i) (hq i) (by omega) (fun d hd1 hd2 => by
                have := hse' (d - (kO (tst ts js n).dn i + 1) + ((n : Int) + 1)) (by omega) (by omega)
                rw [show kO (tst ts js n).dn i + 1 - ((n : Int) + 1 - (d - (kO (tst ts js n).dn i + 1) + ((n : Int) + 1))) = d by omega] at this
                exact this)
              omega
end
end Go.Proofs.YtngmaiiibinkaaaGreat
/- What a run's spans tell: ends, and busy rows. -/
namespace Go.Proofs.YtngmaiiibinkaaaGreat
set_option linter.unusedVariables false
set_option linter.unusedSimpArgs false
/-- When a job has run for so long, by spans; -1: it does not. (Spans of no tick count for none.) -/
def endS (i : Nat) : Int → List Spn → Int
  | _, [] => -1
  | left, x :: l => if x.j = i ∧ 0 < x.t - x.f then (if left ≤ x.t - x.f then x.f + left else endS i (left - (x.t - x.f)) l) else endS i left l
theorem endS_app (i : Nat) : ∀ (a : List Spn) (left : Int) (b : List Spn), (∀ x ∈ a, x.f < x.t) → 0 < left - lenS a i → endS i left (a ++ b) = endS i (left - lenS a i) b
  | [], left, b, _, _ => by simp [lenS]
  | x :: a, left, b, hp, hl => by
    have hx := hp x (by simp)
    have h0 : lenS (x :: a) i = (if x.j = i then x.t - x.f else 0) + lenS a i := by
      rw [show x :: a = [x] ++ a from rfl, lenS_app, lenS_one]
    have ha : 0 ≤ lenS a i := by
      have : ∀ l : List Spn, (∀ y ∈ l, y.f < y.t) → 0 ≤ lenS l i := by
        intro l
        induction l with
        | nil => intro _; simp [lenS]
        | cons y l ih =>
          intro h
          have h1 := ih (fun z hz => h z (List.mem_cons_of_mem _ hz))
          have h2 := h y (by simp)
          rw [show y :: l = [y] ++ l from rfl, lenS_app, lenS_one]
          split <;> omega
      exact this a (fun y hy => hp y (List.mem_cons_of_mem _ hy))
    rw [List.cons_append, endS]
    by_cases hj : x.j = i
    · rw [if_pos hj] at h0
      rw [if_pos ⟨hj, by omega⟩, if_neg (by omega), endS_app i a _ b (fun y hy => hp y (List.mem_cons_of_mem _ hy)) (by omega), h0]
      congr 1
      omega
    · rw [if_neg hj] at h0
      rw [if_neg (fun h => hj h.1), endS_app i a _ b (fun y hy => hp y (List.mem_cons_of_mem _ hy)) (by omega), h0]
      congr 1
      omega
theorem endS_none (i : Nat) : ∀ (l : List Spn) (left : Int), (∀ x ∈ l, x.f < x.t) → lenS l i < left → endS i left l = -1 := by
  intro l left hp hl
  have := endS_app i l left [] hp (by omega)
  rw [List.append_nil] at this
  rw [this]
  rfl
/-- Once it has ended, what comes behind is not looked at. -/
theorem endS_stay (i : Nat) : ∀ (a : List Spn) (left : Int) (b : List Spn), endS i left a ≠ -1 → endS i left (a ++ b) = endS i left a
  | [], left, b, h => absurd rfl h
  | x :: a, left, b, h => by
    rw [List.cons_append, endS, endS]
    rw [endS] at h
    split
    · rename_i hc
      rw [if_pos hc] at h
      split
      · rfl
      · rename_i hc2
        rw [if_neg hc2] at h
        exact endS_stay i a _ b h
    · rename_i hc
      rw [if_neg hc] at h
      exact endS_stay i a _ b h
section
variable {ts : List Ts} {js : List Fv}
/-- Spans tell when jobs end. -/
theorem end_all (hl : Lg js) : ∀ n : Nat, ∀ i, i < js.length → endS i (jb js i).k (tst ts js n).sp = kO (tst ts js n).en i
  | 0, i, hi => by
    show (-1 : Int) = kO (List.replicate js.length (-1)) i
    rw [kO_rep _ _ _ hi]
  | n + 1, i, hi => by
    have ih := end_all hl n i hi
    have hI := ti_all (ts := ts) hl n
    have hI1 := ti_all (ts := ts) hl (n + 1)
    have hW := wk_all (ts := ts) hl n
    have hW1 := wk_all (ts := ts) hl (n + 1)
    have hp1 : ∀ x ∈ (tst ts js (n + 1)).sp, x.f < x.t := fun x hx => (chn_mem hW1.ch x hx).2.1.2
    have hk1 := hl.k1 i hi
    cases hw : whoS ts js (tst ts js n) n with
    | none => rw [tst_succ, tstep_none hw]; exact ih
    | some c =>
      obtain ⟨g1, g2, g3⟩ := hI.who_some hl hw
      have hr0 := hl.r0 c g1
      have hsp : (tst ts js (n + 1)).sp = addN (tst ts js n).sp c n 1 := by rw [tst_succ, tstep_some hw]; rfl
      by_cases hnd : kO (tst ts js (n + 1)).dn i < (jb js i).k
      · -- it has not ended
        have h1 := endS_none i (tst ts js (n + 1)).sp (jb js i).k hp1 (by rw [hW1.wk i hi]; exact hnd)
        rcases hI1.en i hi with h2 | h2
        · rw [h1, h2.2]
        · omega
      · have hd : kO (tst ts js (n + 1)).dn i = (jb js i).k := by have := (hI1.d0 i hi).2; omega
        by_cases hic : i = c
        · -- it ends at this tick
          subst hic
          have hdn : kO (tst ts js (n + 1)).dn i = kO (tst ts js n).dn i + 1 := by
            rw [tst_succ, tstep_some hw]
            simp only [runM]
            rw [kO_set _ _ (by rw [hI.ld]; exact g1), if_pos rfl]
          have hen : kO (tst ts js (n + 1)).en i = (n : Int) + 1 := by
            rw [tst_succ, tstep_some hw] at hd ⊢
            simp only [runM] at hd ⊢
            rw [kO_set _ _ (by rw [hI.ld]; exact g1), if_pos rfl] at hd
            rw [if_pos hd, kO_set _ _ (by rw [hI.le]; exact g1), if_pos rfl]
          rw [hen, hsp]
          cases hx : exS0 (tst ts js n).sp i n with
          | false =>
            rw [ex0_no hx, endS_app i _ _ _ (fun x hx => (chn_mem hW.ch x hx).2.1.2) (by rw [hW.wk i hi]; omega), hW.wk i hi]
            rw [endS, if_pos ⟨rfl, by simp only; omega⟩, if_pos (by simp only; omega)]
            simp only; omega
          | true =>
            obtain ⟨l, x, e1, e2, e3, e4⟩ := ex0_yes (m := 1) hx
            have hlw := hW.wk i hi
            rw [e1, lenS_app, lenS_one, if_pos e2] at hlw
            have hxm : x ∈ (tst ts js n).sp := by rw [e1]; simp
            have hxp := (chn_mem hW.ch x hxm).2.1.2
            rw [e4, endS_app i l _ _ (fun y hy => (chn_mem hW.ch y (by rw [e1]; simp [hy])).2.1.2) (by omega)]
            rw [endS, if_pos ⟨e2, by simp only; omega⟩, if_pos (by simp only; omega)]
            simp only; omega
        · -- it had ended ahead
          have hd0 : kO (tst ts js n).dn i = (jb js i).k := by
            rw [tst_succ, tstep_some hw] at hd
            simp only [runM] at hd
            rwa [kO_set _ _ (by rw [hI.ld]; exact g1), if_neg hic] at hd
          have hen : kO (tst ts js (n + 1)).en i = kO (tst ts js n).en i := by
            rw [tst_succ, tstep_some hw]
            simp only [runM]
            split
            · rw [kO_set _ _ (by rw [hI.le]; exact g1), if_neg hic]
            · rfl
          have hne : endS i (jb js i).k (tst ts js n).sp ≠ -1 := by
            rw [ih]
            rcases hI.en i hi with h2 | h2 <;> omega
          rw [hen, ← ih, hsp]
          cases hx : exS0 (tst ts js n).sp c n with
          | false => rw [ex0_no hx, endS_stay i _ _ _ hne]
          | true =>
            obtain ⟨l, x, e1, e2, e3, e4⟩ := ex0_yes (m := 1) hx
            rw [e4]
            rw [e1] at hne ⊢
            -- the last span is another one's
            have key : ∀ (l : List Spn) (left : Int) (y z : Spn), y.j ≠ i → z.j ≠ i → endS i left (l ++ [y]) = endS i left (l ++ [z]) := by
              intro l
              induction l with
              | nil =>
                intro left y z hy hz
                simp [endS, hy, hz]
              | cons u l ih2 =>
                intro left y z hy hz
                rw [List.cons_append, List.cons_append, endS, endS, ih2 _ y z hy hz, ih2 _ y z hy hz]
            exact key l _ _ _ (by rw [e2]; exact fun h => hic h.symm) (by rw [e2]; exact fun h => hic h.symm)
/-- The tick at which a job ended: it was done then. -/
theorem en_is (hl : Lg js) : ∀ n : Nat, ∀ k, k < js.length → kO (tst ts js n).dn k = (jb js k).k → ∃ t : Nat, t ≤ n ∧ kO (tst ts js n).en k = (t : Int) ∧ kO (tst ts js t).dn k = (jb js k).k
  | 0, k, hk, h => by
    have := hl.k1 k hk
    have e : kO (tst ts js 0).dn k = 0 := kO_rep _ _ _ hk
    omega
  | n + 1, k, hk, h => by
    have hI := ti_all (ts := ts) hl n
    by_cases h0 : kO (tst ts js n).dn k = (jb js k).k
    · obtain ⟨t, h1, h2, h3⟩ := en_is hl n k hk h0
      refine ⟨t, by omega, ?_, h3⟩
      rw [← h2, tst_succ]
      cases hw : whoS ts js (tst ts js n) n with
      | none => rw [tstep_none hw]
      | some i =>
        obtain ⟨g1, g2, g3⟩ := hI.who_some hl hw
        rw [tstep_some hw]
        simp only [runM]
        split
        · rw [kO_set _ _ (by rw [hI.le]; exact g1), if_neg (fun e => by subst e; omega)]
        · rfl
    · refine ⟨n + 1, Nat.le_refl _, ?_, h⟩
      rw [tst_succ] at h ⊢
      cases hw : whoS ts js (tst ts js n) n with
      | none => rw [tstep_none hw] at h; exact absurd h h0
      | some i =>
        obtain ⟨g1, _, _⟩ := hI.who_some hl hw
        rw [tstep_some hw] at h ⊢
        simp only [runM] at h ⊢
        rw [kO_set _ _ (by rw [hI.ld]; exact g1)] at h
        by_cases e : k = i
        · subst e
          rw [if_pos rfl] at h
          rw [if_pos h, kO_set _ _ (by rw [hI.le]; exact g1), if_pos rfl]
          omega
        · rw [if_neg e] at h
          exact absurd h h0
/-- Spans that begin behind an idle tick begin with a release. -/
def bgn (js : List Fv) : Int → List Spn → Prop
  | _, [] => True
  | a, x :: l => (a < x.f → (jb js x.j).r = x.f) ∧ bgn js x.t l
theorem bgn_app (x : Spn) : ∀ (a : Int) (l : List Spn), bgn js a (l ++ [x]) ↔ bgn js a l ∧ bgn js ((l.getLast?.map (·.t)).getD a) [x]
  | a, [] => by simp [bgn]
  | a, y :: l => by
    rw [List.cons_append, bgn, bgn, bgn_app x y.t l]
    have : ((y :: l).getLast?.map (·.t)).getD a = (l.getLast?.map (·.t)).getD y.t := by
      rcases List.eq_nil_or_concat l with h | ⟨m, z, h⟩
      · subst h; rfl
      · rw [List.concat_eq_append] at h; subst h
        rw [← List.cons_append, List.getLast?_concat, List.getLast?_concat]
        rfl
    rw [this]
    constructor
    · rintro ⟨h1, h2, h3⟩; exact ⟨⟨h1, h2⟩, h3⟩
    · rintro ⟨⟨h1, h2⟩, h3⟩; exact ⟨h1, h2, h3⟩
/-- From a tick ahead of all on. -/
theorem bgn_all (hl : Lg js) : ∀ n : Nat, bgn js (-1) (tst ts js n).sp
  | 0 => trivial
  | n + 1 => by
    have h := bgn_all hl n
    have hI := ti_all (ts := ts) hl n
    have hW := wk_all (ts := ts) hl n
    rw [tst_succ]
    cases hw : whoS ts js (tst ts js n) n with
    | none => rw [tstep_none hw]; exact h
    | some i =>
      obtain ⟨g1, g2, g3⟩ := hI.who_some hl hw
      have hr0 := hl.r0 i g1
      rw [tstep_some hw]
      show bgn js (-1) (addN (tst ts js n).sp i n 1)
      cases hx : exS0 (tst ts js n).sp i n with
      | false =>
        rw [ex0_no hx]
        refine (bgn_app _ _ _).2 ⟨h, fun hlt => ?_, trivial⟩
        simp only at hlt ⊢
        -- nobody ran at the tick ahead, so it had not been released
        rcases Int.lt_or_le (jb js i).r n with hr | hr
        · exfalso
          cases hs : (tst ts js n).sp.getLast? with
          | none =>
            -- nothing has run: it would have been ready
            have hnil : (tst ts js n).sp = [] := List.getLast?_eq_none_iff.1 hs
            have hg : lastA (tst ts js n).sp < (n : Int) := by rw [hnil]; simp [lastA]; omega
            have := hW.gp hg i g1 hr
            rcases hI.en i g1 with h5 | h5 <;> omega
          | some y =>
            rw [hs] at hlt
            simp only [Option.map_some, Option.getD_some] at hlt
            have hg : lastA (tst ts js n).sp < (n : Int) := by unfold lastA; rw [hs]; simpa using hlt
            have := hW.gp hg i g1 hr
            rcases hI.en i g1 with h5 | h5 <;> omega
        · omega
      | true =>
        obtain ⟨l, x, e1, e2, e3, e4⟩ := ex0_yes (m := 1) hx
        rw [e4]
        rw [e1] at h
        obtain ⟨h1, h2⟩ := (bgn_app _ _ _).1 h
        exact (bgn_app _ _ _).2 ⟨h1, h2.1, trivial⟩
end
end Go.Proofs.YtngmaiiibinkaaaGreat
/- Are rows of spans, of ticks, the same? -/
namespace Go.Proofs.YtngmaiiibinkaaaGreat
open Go.RowKit
set_option linter.unusedVariables false
set_option linter.unusedSimpArgs false
attribute [local go_sem ↓] Go.wp_at_zero Go.wp_at_succ
/-- A slice that reads as spans. -/
structure SpR (w : World) (A : Option Addr) (cap : Nat) (l : List Spn) : Prop where
  le : l.length ≤ cap
  mx : cap ≤ 9223372036854775807
  at_ : ∀ i x, l[i]? = some x → ∃ b o, A = some ⟨b, o, none⟩ ∧ w.rangeAt b (o + i * 3) (snL x)
theorem SpR.later {w w' : World} {A : Option Addr} {cap : Nat} {l : List Spn} (h : SpR w A cap l) (hb : Below w.heap.size w w') : SpR w' A cap l := ⟨h.le, h.mx, fun i x hx => by
  obtain ⟨b, o, e, hr⟩ := h.at_ i x hx
  exact ⟨b, o, e, fun j v hv => cells_below hb _ _ _ (hr j v hv)⟩⟩
theorem SpR.get {w : World} {A : Option Addr} {cap : Nat} {l : List Spn} (h : SpR w A cap l) {k : Nat} (hk : k < l.length) : ∃ b o x, A = some ⟨b, o, none⟩ ∧ l[k]? = some x ∧ b < w.heap.size ∧
    w.cell? ⟨b, o + k * 3, none⟩ = some (.int .i64 (x.j : Int)) ∧ w.cell? ⟨b, o + k * 3 + 1, none⟩ = some (.int .i64 x.f) ∧ w.cell? ⟨b, o + k * 3 + 2, none⟩ = some (.int .i64 x.t) := by
  have hx : l[k]? = some l[k] := List.getElem?_eq_getElem hk
  obtain ⟨b, o, e, hr⟩ := h.at_ k _ hx
  have h0 := hr 0 _ rfl
  exact ⟨b, o, _, e, hx, World.block_lt_of_cell? w _ h0, h0, hr 1 _ rfl, hr 2 _ rfl⟩
theorem spC_get (l : List Spn) : ∀ (i : Nat) (x : Spn), l[i]? = some x → ∀ j v, (snL x)[j]? = some v → (spC l)[i * 3 + j]? = some v := by
  induction l with
  | nil => intro i x h; simp at h
  | cons a r ih =>
    intro i x h j v hv
    have hj : j < 3 := by
      rcases Nat.lt_or_ge j 3 with h | h
      · exact h
      · rw [List.getElem?_eq_none (by simp [snL]; omega)] at hv; cases hv
    have e : spC (a :: r) = snL a ++ spC r := rfl
    cases i with
    | zero =>
      simp at h; subst h
      rw [Nat.zero_mul, Nat.zero_add, e, List.getElem?_append_left (by simp [snL]; omega)]
      exact hv
    | succ i =>
      simp only [List.getElem?_cons_succ] at h
      have := ih i x h j v hv
      rw [e, List.getElem?_append_right (by simp [snL]; omega)]
      rw [show (i + 1) * 3 + j - (snL a).length = i * 3 + j by simp [snL]; omega]
      exact this
theorem spr_own {B : Nat} {w : World} {v : Value} {l : List Spn} (h : w.ownsRow B TSp 3 v l.length (spC l)) : ∃ A cap, v = .slice A l.length cap ∧ SpR w A cap l := by
  obtain ⟨A, cap, hv, hle, hmx⟩ := own_len h
  refine ⟨A, cap, hv, hle, by unfold maxLen at hmx; omega, fun i x hx => ?_⟩
  have hi := (List.getElem?_eq_some_iff.1 hx).1
  obtain ⟨g, cap', hv', hB, hgl, _, _, _⟩ := own_form h (by omega)
  rw [hv] at hv'
  simp only [Value.slice.injEq] at hv'
  obtain ⟨rfl, _, rfl⟩ := hv'
  refine ⟨g, 0, rfl, fun j u hu => ?_⟩
  rw [Nat.zero_add]
  exact own_cell h (g := g) (by rw [hv]; rfl) (spC_get l i x hx j u hu)
theorem SpR.nil {w : World} (A : Option Addr) (cap : Nat) (h : cap ≤ 9223372036854775807) : SpR w A cap [] := ⟨by simp, h, by simp⟩
set_option maxRecDepth 100000 in
set_option maxHeartbeats 4000000 in
/-- Equal rows of spans. -/
theorem sameS_any {A A' : Option Addr} {cap cap' n : Nat} {l : List Spn} (w : World) (h1 : SpR w A cap l) (h2 : SpR w A' cap' l) (hn : l.length = n) :
    Calls Tryz.prog 36 #[.slice A n cap, .slice A' n cap'] w fun e w' => e = .returned (.bool true) ∧ Below w.heap.size w w' := by
  have H1 := Lib.hid h1
  have H2 := Lib.hid h2
  have HN := Lib.hid hn
  have hmx := h1.mx
  have hle := h1.le
  rw [hn] at hle
  clear h1 h2 hn
  go_enter Tryz.func36, Tryz.ntmps36
  go_wp2
  go_loopw [5] (fun i wr => ∃ k : Nat, k ≤ n ∧ i = .int .i64 (k : Int) ∧ Hid (Below w.heap.size w wr)) (fun i _ => n - (intOf i).toNat)
  case atStart => exact ⟨0, Nat.zero_le _, rfl, Lib.hid (Below.refl _ _)⟩
  case round =>
    obtain ⟨k, hk, rfl, hB⟩ := hrel
    by_cases hlt : k < n
    · obtain ⟨b, o, x, rfl, hx, hbl, a0, a1, a2⟩ := (H1.out.later hB.out).get (k := k) (by rw [HN.out]; exact hlt)
      obtain ⟨b', o', x', rfl, hx', hbl', c0, c1, c2⟩ := (H2.out.later hB.out).get (k := k) (by rw [HN.out]; exact hlt)
      obtain rfl : x = x' := by rw [hx] at hx'; simpa using hx'
      have hi0 : (0 : Int) ≤ (k : Int) := by omega
      have hi1 : (k : Int) < (n : Int) := by omega
      clear hx hx'
      go_upto_region 6 with (fail)
      go_quiet (fail)
      go_wp2
      go_roundw
      case rel => exact ⟨k + 1, by omega, by go_num, Lib.hid (hB.out.trans ((below_drewN2 wr _).mono hB.out.size))⟩
      case measure => simp [intOf]; omega
    · obtain rfl : k = n := by omega
      go_wp2
      go_ret
      exact ⟨rfl, hB.out⟩
set_option maxRecDepth 100000 in
set_option maxHeartbeats 4000000 in
/-- Equal rows of ticks. -/
theorem sameT_any {A A' : Option Addr} {cap cap' n : Nat} {l : List Int} (w : World) (h1 : CRow w A cap l) (h2 : CRow w A' cap' l) (hn : l.length = n) :
    Calls Tryz.prog 12 #[.slice A n cap, .slice A' n cap'] w fun e w' => e = .returned (.bool true) ∧ Below w.heap.size w w' := by
  have H1 := Lib.hid h1
  have H2 := Lib.hid h2
  have HN := Lib.hid hn
  have hmx := h1.mx
  have hle := h1.le
  rw [hn] at hle
  clear h1 h2 hn
  go_enter Tryz.func12, Tryz.ntmps12
  go_wp2
  go_loopw [5] (fun i wr => ∃ k : Nat, k ≤ n ∧ i = .int .i64 (k : Int) ∧ Hid (Below w.heap.size w wr)) (fun i _ => n - (intOf i).toNat)
  case atStart => exact ⟨0, Nat.zero_le _, rfl, Lib.hid (Below.refl _ _)⟩
  case round =>
    obtain ⟨k, hk, rfl, hB⟩ := hrel
    by_cases hlt : k < n
    · obtain ⟨b, o, x, rfl, hx, hw, hbl, a0⟩ := (H1.out.later hB.out).get (k := k) (by rw [HN.out]; exact hlt)
      obtain ⟨b', o', x', rfl, hx', hw', hbl', c0⟩ := (H2.out.later hB.out).get (k := k) (by rw [HN.out]; exact hlt)
      obtain rfl : x = x' := by rw [hx] at hx'; simpa using hx'
      have hi0 : (0 : Int) ≤ (k : Int) := by omega
      have hi1 : (k : Int) < (n : Int) := by omega
      clear hx hx'
      go_upto_region 6 with (fail)
      go_quiet (fail)
      go_wp2
      go_roundw
      case rel => exact ⟨k + 1, by omega, by go_num, Lib.hid (hB.out.trans ((below_drewN2 wr _).mono hB.out.size))⟩
      case measure => simp [intOf]; omega
    · obtain rfl : k = n := by omega
      go_wp2
      go_ret
      exact ⟨rfl, hB.out⟩
end Go.Proofs.YtngmaiiibinkaaaGreat
/- What a run tells, as plain functions: ends, responses, the worst, misses, busy rows. -/
namespace Go.Proofs.YtngmaiiibinkaaaGreat
open Go.RowKit
set_option linter.unusedVariables false
set_option linter.unusedSimpArgs false
/-! ### Spans of whatever jobs -/
structure Sq where
  j : Int
  f : Int
  t : Int
deriving DecidableEq
def toQ (x : Spn) : Sq := ⟨(x.j : Int), x.f, x.t⟩
def sqL (x : Sq) : List Value := [.int .i64 x.j, .int .i64 x.f, .int .i64 x.t]
def sqC (l : List Sq) : List Value := l.flatMap sqL
theorem toQ_inj {x y : Spn} (h : toQ x = toQ y) : x = y := by
  cases x; cases y
  simp only [toQ, Sq.mk.injEq] at h
  obtain ⟨h1, h2, h3⟩ := h
  simp only [Spn.mk.injEq]
  exact ⟨by omega, h2, h3⟩
theorem toQ_map_inj : ∀ {a b : List Spn}, a.map toQ = b.map toQ → a = b
  | [], [], _ => rfl
  | [], _ :: _, h => by simp at h
  | _ :: _, [], h => by simp at h
  | x :: a, y :: b, h => by
    simp only [List.map_cons, List.cons.injEq] at h
    rw [toQ_inj h.1, toQ_map_inj h.2]
theorem spC_sqC (l : List Spn) : spC l = sqC (l.map toQ) := by
  induction l with
  | nil => rfl
  | cons a l ih =>
    rw [List.map_cons, sqC, List.flatMap_cons, ← sqC, ← ih]; rfl
theorem sqC_app (a b : List Sq) : sqC (a ++ b) = sqC a ++ sqC b := by simp [sqC]
theorem sqC_len : ∀ l : List Sq, (sqC l).length = l.length * 3
  | [] => rfl
  | a :: l => by rw [sqC, List.flatMap_cons, List.length_append, ← sqC, sqC_len l, List.length_cons]; simp [sqL]; omega
theorem sqL_one (x : Sq) : ∀ u ∈ sqL x, u.oneCell' = true := by
  intro u hu
  simp only [sqL, List.mem_cons, List.not_mem_nil, or_false] at hu
  rcases hu with rfl | rfl | rfl <;> rfl
theorem sqC_get (l : List Sq) : ∀ (i : Nat) (x : Sq), l[i]? = some x → ∀ j v, (sqL x)[j]? = some v → (sqC l)[i * 3 + j]? = some v := by
  induction l with
  | nil => intro i x h; simp at h
  | cons a r ih =>
    intro i x h j v hv
    have hj : j < 3 := by
      rcases Nat.lt_or_ge j 3 with h | h
      · exact h
      · rw [List.getElem?_eq_none (by simp [sqL]; omega)] at hv; cases hv
    have e : sqC (a :: r) = sqL a ++ sqC r := rfl
    cases i with
    | zero =>
      simp at h; subst h
      rw [Nat.zero_mul, Nat.zero_add, e, List.getElem?_append_left (by simp [sqL]; omega)]
      exact hv
    | succ i =>
      simp only [List.getElem?_cons_succ] at h
      have := ih i x h j v hv
      rw [e, List.getElem?_append_right (by simp [sqL]; omega)]
      rw [show (i + 1) * 3 + j - (sqL a).length = i * 3 + j by simp [sqL]; omega]
      exact this
/-- A slice that reads as spans. -/
structure SqR (w : World) (A : Option Addr) (cap : Nat) (l : List Sq) : Prop where
  le : l.length ≤ cap
  mx : cap ≤ 9223372036854775807
  wf : ∀ x ∈ l, in64 x.j ∧ in64 x.f ∧ in64 x.t
  at_ : ∀ i x, l[i]? = some x → ∃ b o, A = some ⟨b, o, none⟩ ∧ w.rangeAt b (o + i * 3) (sqL x)
theorem SqR.later {w w' : World} {A : Option Addr} {cap : Nat} {l : List Sq} (h : SqR w A cap l) (hb : Below w.heap.size w w') : SqR w' A cap l := ⟨h.le, h.mx, h.wf, fun i x hx => by
  obtain ⟨b, o, e, hr⟩ := h.at_ i x hx
  exact ⟨b, o, e, fun j v hv => cells_below hb _ _ _ (hr j v hv)⟩⟩
theorem SqR.nil {w : World} (A : Option Addr) (cap : Nat) (h : cap ≤ 9223372036854775807) : SqR w A cap [] := ⟨by simp, h, by simp, by simp⟩
theorem SqR.get {w : World} {A : Option Addr} {cap : Nat} {l : List Sq} (h : SqR w A cap l) {k : Nat} (hk : k < l.length) : ∃ b o x, A = some ⟨b, o, none⟩ ∧ l[k]? = some x ∧ b < w.heap.size ∧
    w.cell? ⟨b, o + k * 3, none⟩ = some (.int .i64 x.j) ∧ w.cell? ⟨b, o + k * 3 + 1, none⟩ = some (.int .i64 x.f) ∧ w.cell? ⟨b, o + k * 3 + 2, none⟩ = some (.int .i64 x.t) := by
  have hx : l[k]? = some l[k] := List.getElem?_eq_getElem hk
  obtain ⟨b, o, e, hr⟩ := h.at_ k _ hx
  have h0 := hr 0 _ rfl
  exact ⟨b, o, _, e, hx, World.block_lt_of_cell? w _ h0, h0, hr 1 _ rfl, hr 2 _ rfl⟩
theorem SpR.sq {w : World} {A : Option Addr} {cap : Nat} {l : List Spn} (h : SpR w A cap l) (hw : ∀ x ∈ l, (x.j : Int) ≤ 9223372036854775807 ∧ in64 x.f ∧ in64 x.t) : SqR w A cap (l.map toQ) :=
  ⟨by rw [List.length_map]; exact h.le, h.mx, fun y hy => by
    obtain ⟨x, hx, rfl⟩ := List.mem_map.1 hy
    have := hw x hx
    exact ⟨⟨by simp only [toQ]; omega, this.1⟩, this.2⟩, fun i y hy => by
    rw [List.getElem?_map] at hy
    cases hx : l[i]? with
    | none => rw [hx] at hy; cases hy
    | some x =>
      rw [hx] at hy
      simp only [Option.map_some, Option.some.injEq] at hy
      subst hy
      exact h.at_ i x hx⟩
theorem sqr_own {B : Nat} {w : World} {v : Value} {l : List Sq} (h : w.ownsRow B TSp 3 v l.length (sqC l)) (hw : ∀ x ∈ l, in64 x.j ∧ in64 x.f ∧ in64 x.t) : ∃ A cap, v = .slice A l.length cap ∧ SqR w A cap l := by
  obtain ⟨A, cap, hv, hle, hmx⟩ := own_len h
  refine ⟨A, cap, hv, ⟨hle, by unfold maxLen at hmx; omega, hw, fun i x hx => ?_⟩⟩
  have hi := (List.getElem?_eq_some_iff.1 hx).1
  obtain ⟨g, cap', hv', hB, hgl, _, _, _⟩ := own_form h (by omega)
  rw [hv] at hv'
  simp only [Value.slice.injEq] at hv'
  obtain ⟨rfl, _, rfl⟩ := hv'
  refine ⟨g, 0, rfl, fun j u hu => ?_⟩
  rw [Nat.zero_add]
  exact own_cell h (g := g) (by rw [hv]; rfl) (sqC_get l i x hx j u hu)

/-! ### Ends -/
def totQ (i : Int) : List Sq → Int
  | [] => 0
  | x :: l => (if x.j = i ∧ 0 < x.t - x.f then x.t - x.f else 0) + totQ i l
def endQ (i : Int) : Int → List Sq → Int
  | _, [] => -1
  | W, x :: l => if x.j = i ∧ 0 < x.t - x.f then (if W ≤ x.t - x.f then x.f + W else endQ i (W - (x.t - x.f)) l) else endQ i W l
theorem totQ_pos (i : Int) : ∀ l : List Sq, 0 ≤ totQ i l
  | [] => by simp [totQ]
  | x :: l => by have := totQ_pos i l; rw [totQ]; split <;> omega
theorem totQ_app (i : Int) : ∀ a b : List Sq, totQ i (a ++ b) = totQ i a + totQ i b
  | [], b => by simp [totQ]
  | x :: a, b => by rw [List.cons_append, totQ, totQ, totQ_app i a b]; omega
theorem totQ_one (i : Int) (x : Sq) : totQ i [x] = if x.j = i ∧ 0 < x.t - x.f then x.t - x.f else 0 := by simp [totQ]
theorem endQ_snoc (i : Int) (x : Sq) : ∀ (l : List Sq) (W : Int), 1 ≤ W → endQ i W (l ++ [x]) = if W ≤ totQ i l then endQ i W l else if x.j = i ∧ 0 < x.t - x.f then (if W - totQ i l ≤ x.t - x.f then x.f + (W - totQ i l) else -1) else -1
  | [], W, hW => by
    rw [List.nil_append, if_neg (by simp [totQ]; omega)]
    simp [endQ, totQ]
  | y :: l, W, hW => by
    have h0 := totQ_pos i l
    rw [List.cons_append, endQ, totQ]
    by_cases hy : y.j = i ∧ 0 < y.t - y.f
    · rw [if_pos hy, if_pos hy]
      by_cases h1 : W ≤ y.t - y.f
      · rw [if_pos h1, if_pos (by omega), endQ, if_pos hy, if_pos h1]
      · rw [if_neg h1, endQ_snoc i x l _ (by omega)]
        by_cases h2 : W - (y.t - y.f) ≤ totQ i l
        · rw [if_pos h2, if_pos (by omega), endQ, if_pos hy, if_neg h1]
        · rw [if_neg h2, if_neg (show ¬ W ≤ y.t - y.f + totQ i l by omega), show W - (y.t - y.f + totQ i l) = W - (y.t - y.f) - totQ i l by omega]
    · rw [if_neg hy, if_neg hy, endQ_snoc i x l W hW, Int.zero_add]
      by_cases h2 : W ≤ totQ i l
      · rw [if_pos h2, if_pos h2, endQ, if_neg hy]
      · rw [if_neg h2, if_neg h2]
/-- It has not ended as long as it has run for less. -/
theorem endQ_no (i : Int) : ∀ (l : List Sq) (W : Int), totQ i l < W → endQ i W l = -1
  | [], W, h => rfl
  | x :: l, W, h => by
    have h0 := totQ_pos i l
    rw [totQ] at h
    rw [endQ]
    by_cases hx : x.j = i ∧ 0 < x.t - x.f
    · rw [if_pos hx] at h ⊢
      rw [if_neg (by omega)]
      exact endQ_no i l _ (by omega)
    · rw [if_neg hx] at h ⊢
      exact endQ_no i l _ (by omega)
/-- It ends within a span. -/
theorem endQ_in (i : Int) : ∀ (l : List Sq) (W : Int), 1 ≤ W → W ≤ totQ i l → ∃ x ∈ l, x.f < endQ i W l ∧ endQ i W l ≤ x.t
  | [], W, hW, h => by simp [totQ] at h; omega
  | x :: l, W, hW, h => by
    rw [totQ] at h
    rw [endQ]
    by_cases hx : x.j = i ∧ 0 < x.t - x.f
    · rw [if_pos hx] at h ⊢
      by_cases h1 : W ≤ x.t - x.f
      · rw [if_pos h1]
        exact ⟨x, by simp, by omega, by omega⟩
      · rw [if_neg h1]
        obtain ⟨y, hy, h2⟩ := endQ_in i l _ (by omega) (show W - (x.t - x.f) ≤ totQ i l by omega)
        exact ⟨y, by simp [hy], h2⟩
    · rw [if_neg hx] at h ⊢
      obtain ⟨y, hy, h2⟩ := endQ_in i l _ hW (by omega)
      exact ⟨y, by simp [hy], h2⟩
/-- All ends, by places. -/
def endsQ (js : List Fv) (l : List Sq) : List Int := (List.range js.length).map fun (i : Nat) => endQ (i : Int) (jb js i).k l
theorem endsQ_len (js : List Fv) (l : List Sq) : (endsQ js l).length = js.length := by simp [endsQ]
theorem endsQ_get {js : List Fv} {l : List Sq} {i : Nat} (hi : i < js.length) : kO (endsQ js l) i = endQ (i : Int) (jb js i).k l := by
  simp [endsQ, kO, hi]
/-- For how long a job has run, up to its Work; none: it has not begun. -/
def ranQ (js : List Fv) (l : List Sq) (i : Int) : Option Int :=
  if 0 ≤ i ∧ i < js.length ∧ 0 < totQ i l then some (min (jb js i.toNat).k (totQ i l)) else none

/-! ### Responses -/
def respS (js : List Fv) (en : List Int) (i : Int) : Option Int :=
  if 0 ≤ i ∧ i < js.length ∧ i < en.length ∧ 0 ≤ kO en i.toNat then some (kO en i.toNat - (jb js i.toNat).a) else none
def worst1 (js : List Fv) (en : List Int) (task : Int) (a : Option (Int × Nat)) (i : Nat) : Option (Int × Nat) :=
  if (jb js i).t = task then
    match respS js en (i : Int), a with
    | some r, some (g, p) => if g < r then some (r, i) else some (g, p)
    | some r, none => some (r, i)
    | none, a => a
  else a
def worstS (js : List Fv) (en : List Int) (task : Int) (n : Nat) : Option (Int × Nat) := (List.range n).foldl (worst1 js en task) none
theorem worstS_succ (js : List Fv) (en : List Int) (task : Int) (n : Nat) : worstS js en task (n + 1) = worst1 js en task (worstS js en task n) n := by
  simp [worstS, List.range_succ]
def missB (ts : List Ts) (js : List Fv) (en : List Int) (i : Nat) : Bool :=
  decide (0 ≤ (jb js i).t) && decide ((jb js i).t < ts.length) && (match respS js en (i : Int) with | none => true | some r => decide ((tk ts (jb js i).t).d < r))
def missS (ts : List Ts) (js : List Fv) (en : List Int) (n : Nat) : List Nat := (List.range n).filter (missB ts js en)
theorem missS_succ (ts : List Ts) (js : List Fv) (en : List Int) (n : Nat) : missS ts js en (n + 1) = missS ts js en n ++ (if missB ts js en n then [n] else []) := by
  rw [missS, List.range_succ, List.filter_append, missS]
  congr 1
  cases h : missB ts js en n <;> simp [h]
theorem missS_len (ts : List Ts) (js : List Fv) (en : List Int) (n : Nat) : (missS ts js en n).length ≤ n := by
  have := List.length_filter_le (missB ts js en) (List.range n)
  rw [List.length_range] at this
  exact this

/-! ### Busy rows -/
/-- A row of ticks goes on: what comes behind it, and where it ends. -/
def runQ : Int → List Sq → Int × List Sq
  | e, [] => (e, [])
  | e, x :: l => if x.f = e then runQ x.t l else (e, x :: l)
theorem runQ_len : ∀ (e : Int) (l : List Sq), (runQ e l).2.length ≤ l.length
  | e, [] => Nat.le_refl _
  | e, x :: l => by
    rw [runQ]
    split
    · have := runQ_len x.t l; simp; omega
    · exact Nat.le_refl _
def busyQ : List Sq → List (Int × Int)
  | [] => []
  | x :: l => (x.f, (runQ x.t l).1) :: busyQ (runQ x.t l).2
termination_by l => l.length
decreasing_by have := runQ_len x.t l; simp; omega
def longQ (l : List Sq) : Int := ((busyQ l).map fun p => p.2 - p.1).sum
end Go.Proofs.YtngmaiiibinkaaaGreat
/- slices.Repeat of one number; places. -/
namespace Go.Proofs.YtngmaiiibinkaaaGreat
open Go.RowKit Go.Shelf
set_option linter.unusedVariables false
set_option linter.unusedSimpArgs false
attribute [local go_sem ↓] Go.wp_at_zero Go.wp_at_succ
theorem isPlace_any (i n : Int) (w : World) : Calls Tryz.prog 29 #[.int .i64 i, .int .i64 n] w fun e w' => e = .returned (.bool (decide (0 ≤ i) && decide (i < n))) ∧ w = w' := by
  by_cases h1 : 0 ≤ i <;> by_cases h2 : i < n <;>
    (go_enter Tryz.func29, Tryz.ntmps29
     go_wp2
     go_ret
     simp [h1, h2])
/-- A row whose first m things are -1, all others 0. -/
def repL (m n : Nat) : List Value := List.replicate m (Value.int .i64 (-1)) ++ List.replicate (n - m) (Value.int .i64 0)
theorem repL_len {m n : Nat} (h : m ≤ n) : (repL m n).length = n := by simp [repL]; omega
theorem repL_get {m n j : Nat} (hj : j < m) : (repL m n)[j]? = some (.int .i64 (-1)) := by
  rw [repL, List.getElem?_append_left (by simpa using hj)]
  simp [hj]
theorem repL_splice {m c n : Nat} (h : m + c ≤ n) : splice (repL m n) m (List.replicate c (Value.int .i64 (-1))) = repL (m + c) n := by
  have e1 : (repL m n).take m = List.replicate m (Value.int .i64 (-1)) := by
    rw [repL, List.take_left' (by simp)]
  have e2 : (repL m n).drop (m + c) = List.replicate (n - (m + c)) (Value.int .i64 0) := by
    rw [repL, List.drop_append, List.drop_of_length_le (by simp), List.nil_append, List.length_replicate, List.drop_replicate]
    congr 1
    omega
  rw [splice, List.length_replicate, e1, e2, repL, ← List.append_assoc, List.replicate_append_replicate]
theorem cut_l (g n m : Nat) (hm : m < n) (hn : n ≤ 1000000000) (W : World) : (Instr.slice 31 (.slice (some ⟨g, 0, none⟩) n n) (some (.int .i64 (m : Int))) none none).run Tryz.prog W = .ok (.slice (some ⟨g, m, none⟩) (n - m) (n - m)) W := by
  have hs : (sizeOf (Tryz.prog.elem 31)).run Tryz.prog W = .ok 1 W := by kernel_rfl
  rw [run_slice_l W 31 (some ⟨g, 0, none⟩) n n (by kernel_rfl) .i64 m (by omega) (by omega), hs]
  simp only [Result.andThen, sliced, Int.toNat_natCast, Nat.mul_one]
  rw [if_neg (by omega)]
  simp [add_none]
theorem cut_h (g n m : Nat) (hm : m ≤ n) (hn : n ≤ 1000000000) (W : World) : (Instr.slice 31 (.slice (some ⟨g, 0, none⟩) n n) none (some (.int .i64 (m : Int))) none).run Tryz.prog W = .ok (.slice (some ⟨g, 0, none⟩) m n) W := by
  have hs : (sizeOf (Tryz.prog.elem 31)).run Tryz.prog W = .ok 1 W := by kernel_rfl
  rw [run_slice_h W 31 (some ⟨g, 0, none⟩) n n (by kernel_rfl) .i64 m (by omega) (by omega), hs]
  simp only [Result.andThen, sliced, Int.toNat_natCast, Nat.mul_one, Nat.sub_zero]
  split <;> simp [add_none]
theorem repL_splice0 {n : Nat} (h : 1 ≤ n) : splice (repL 0 n) 0 [Value.int .i64 (-1)] = repL 1 n := repL_splice (m := 0) (c := 1) (by omega)
structure RpS (w : World) (g n m : Nat) (wr : World) : Prop where
  is : wr.heap[g]? = some (.cells (repL m n).toArray T64 (0, 0))
  bel : Below w.heap.size w wr
def RepP (n : Nat) (w : World) (e : Ending) (w' : World) : Prop := ∃ g, e = .returned (.slice (some ⟨g, 0, none⟩) n n) ∧ w.heap.size ≤ g ∧ w'.ownsRow w.heap.size T64 1 (.slice (some ⟨g, 0, none⟩) n n) n (List.replicate n (.int .i64 (-1))) ∧ Below w.heap.size w w'
theorem RpS.end_ {w wr : World} {g n : Nat} (h : RpS w g n n wr) (hg : w.heap.size ≤ g) (hn : n ≤ 1000) : RepP n w (.returned (.slice (some ⟨g, 0, none⟩) n n)) wr := by
  have e : repL n n = List.replicate n (.int .i64 (-1)) := by simp [repL]
  refine ⟨g, rfl, hg, ⟨by simp, .inr ⟨g, n, _, rfl, hg, h.is, Nat.le_refl _, by unfold maxLen; omega, by rw [e]; simp, by rw [e]; simp⟩⟩, h.bel⟩
theorem mulL (n : Nat) (hn : n ≤ 1000) (w : World) : Calls Tryz.prog 40 #[.int .u64 1, .int .u64 (n : Int)] w fun e w' => e = .returned (.tuple #[.int .u64 0, .int .u64 (n : Int)]) ∧ w = w' := by
  have h := Tryz.bits_Mul 1 n (by omega) (by omega) w
  have e1 : ((1 * n / 18446744073709551616 : Nat) : Int) = 0 := by omega
  have e2 : ((1 * n % 18446744073709551616 : Nat) : Int) = (n : Int) := by omega
  rw [e1, e2] at h
  exact h.mono fun e w' h => ⟨h.1, h.2.symm⟩
theorem wrapU (n : Nat) (hn : n ≤ 1000) : IntKind.u64.wrap (n : Int) = (n : Int) := by rw [IntKind.wrap_u64]; omega
theorem wrapI (n : Nat) (hn : n ≤ 1000) : IntKind.i64.wrap (n : Int) = (n : Int) := IntWalk.i64_in _ (by omega)
theorem notUp (n : Nat) (hn : n ≤ 1000) : decide ((n : Int) > 9223372036854775807) = false := decide_eq_false (by omega)
theorem wrapMC (m c n : Nat) (hn : n ≤ 1000) (h : m + c ≤ n) : wrap64 ((m : Int) + (c : Int)) = ((m + c : Nat) : Int) := by rw [IntWalk.wrap64_in _ (by omega)]; omega
set_option maxRecDepth 100000 in
set_option maxHeartbeats 4000000 in
theorem repeat_any (n bx : Nat) (hn : n ≤ 1000) (w : World) (hx : w.cell? ⟨bx, 0, none⟩ = some (.int .i64 (-1))) :
    Calls Tryz.prog 28 #[.slice (some ⟨bx, 0, none⟩) 1 1, .int .i64 (n : Int)] w (RepP n w) := by
  have HM := Lib.hid (fun W => mulL n hn W)
  have HK := fun W => make_64 n hn W
  have hc1 := wrapU n hn
  have hc2 := wrapI n hn
  have t1 : decide ((n : Int) < 0) = false := decide_eq_false (by omega)
  have t2 := notUp n hn
  obtain ⟨W1, hW1⟩ : ∃ W1, w.alloc (.cells (madeCells #[Value.int .i64 0] n) T64) = W1 := ⟨_, rfl⟩
  have R0 : RpS w w.heap.size n 0 W1 := by
    rw [← hW1]
    refine ⟨?_, (Below.refl _ _).alloc (Nat.le_refl _) _⟩
    rw [heap_alloc_new]
    congr 2
    apply Array.ext'
    rw [toList_madeCells_one]
    simp [repL]
  have HX1 : W1.cell? ⟨bx, 0, none⟩ = some (.int .i64 (-1)) := by
    rw [← hW1]; exact cells_below ((Below.refl _ _).alloc (Nat.le_refl _) _) _ _ _ hx
  have HX := Lib.hid HX1
  obtain ⟨g, hg⟩ : ∃ g, w.heap.size = g := ⟨_, rfl⟩
  rw [hg] at R0
  have HR := Lib.hid R0
  have HG := Lib.hid hg
  have HW1 := Lib.hid hW1
  clear R0 HX1 hW1 hx
  clear hg
  go_enter Tryz.func28, Tryz.ntmps28
  go_upto_region 7 with (go_at_call 40; (with_reducible refine (HM.out _).mono ?_); rintro e w2 ⟨rfl, rfl⟩)
  rw [HW1.out, HG.out]
  by_cases h0 : n = 0
  · subst h0
    have hr0 : (Builtin.copy_ #[31, 31] 3 #[.slice (some ⟨g, 0, none⟩) 0 0, .slice (some ⟨bx, 0, none⟩) 1 1]).run Tryz.prog W1 = .ok (.int .i64 0) W1 :=
      run_copy_none (P := Tryz.prog) W1 31 31 3 T64 (some ⟨g, 0, none⟩) (some ⟨bx, 0, none⟩) 0 0 1 1 Tryz.underlying31 (by kernel_rfl) rfl
    go_wp2
    go_loopw [8] (fun i wr => i = .int .i64 0 ∧ wr = W1) (fun i _ => 0)
    case atStart => exact ⟨rfl, rfl⟩
    case round =>
      obtain ⟨rfl, rfl⟩ := hrel
      go_wp2
      go_ret
      exact HR.out.end_ (by rw [HG.out]; exact Nat.le_refl _) (by omega)
  · have HN0 := Lib.hid h0
    have hsrc : ∀ (j : Nat) (v : Value), [Value.int .i64 (-1)][j]? = some v → W1.cell? ((⟨bx, 0, none⟩ : Addr).add j) = some v := by
      intro j v hj
      cases j with
      | zero => simp at hj; subst hj; rw [add_none]; exact HX.out
      | succ j => simp at hj
    have hmin : [Value.int .i64 (-1)].length = Nat.min 1 n := by show 1 = min 1 n; omega
    have hfit : 0 + [Value.int .i64 (-1)].length ≤ (repL 0 n).length := by rw [repL_len (by omega)]; simp; omega
    have hone : ∀ v ∈ [Value.int .i64 (-1)], v.oneCell' = true := by intro v hv; simp at hv; subst hv; rfl
    have hbg : w.heap.size ≤ g := by rw [HG.out]; exact Nat.le_refl _
    have HA := Lib.hid hsrc
    have HA2 := Lib.hid hmin
    have HA3 := Lib.hid hfit
    have HA4 := Lib.hid hone
    have HA5 := Lib.hid hbg
    clear hsrc hmin hfit hone hbg
    go_wp2_with ((with_reducible show wpList _ _ _ (⟨some 33, _, _, _, _, _⟩ :: _) _ _); go_loud (refine wpList_copy_splice rfl (.tmp 31) (.tmp 32) 31 31 rfl T64 Tryz.underlying31 (by kernel_rfl) (some ⟨g, 0, none⟩) (some ⟨bx, 0, none⟩) n n 1 1 rfl rfl g 0 (repL 0 n) T64 HR.out.is [Value.int .i64 (-1)] HA2.out (fun _ => ⟨rfl, _, rfl, HA.out⟩) HA3.out HA4.out _ _ HR.out.bel HA5.out ?_; intro w4 hg4 hb4))
    have HG4 : Hid (RpS w g n 1 w4) := Lib.hid ⟨by rw [repL_splice0 (by omega)] at hg4; exact hg4.out, hb4⟩
    clear hg4 hb4 HA HA2 HA3 HA4 HA5 HR
    have HK0 := Lib.hid (show 0 < n by omega)
    clear h0
    go_loopw [8] (fun i wr => ∃ m : Nat, 0 < m ∧ m ≤ n ∧ i = .int .i64 (m : Int) ∧ Hid (RpS w g n m wr)) (fun i _ => n - (intOf i).toNat)
    case atStart => exact ⟨1, by omega, HK0.out, rfl, HG4⟩
    case round =>
      obtain ⟨m, hm0, hm, rfl, hS⟩ := hrel
      by_cases hlt : m < n
      · have hi0 : (0 : Int) ≤ (m : Int) := by omega
        have hi1 : (m : Int) < (n : Int) := by omega
        have HL := fun W => cut_l g n m hlt (by omega) W
        have HH := fun W => cut_h g n m hm (by omega) W
        have HLT := Lib.hid hlt
        obtain ⟨c, hc⟩ : ∃ c, min m (n - m) = c := ⟨_, rfl⟩
        have hc0 : 0 < c ∧ m + c ≤ n := by omega
        obtain ⟨cs, hcs⟩ : ∃ cs, List.replicate c (Value.int .i64 (-1)) = cs := ⟨_, rfl⟩
        obtain ⟨cu, hcu⟩ : ∃ cu, repL m n = cu := ⟨_, rfl⟩
        have A1 := Lib.hid (show cs.length = Nat.min m (n - m) by rw [← hcs, List.length_replicate]; exact hc.symm)
        have A1' := Lib.hid (show cs.length = c by rw [← hcs, List.length_replicate])
        have A2 := Lib.hid (show wr.drew.heap[g]? = some (.cells cu.toArray T64 (0, 0)) by rw [← hcu]; exact hS.out.is)
        have A3 := Lib.hid (show ∀ (j : Nat) (v : Value), cs[j]? = some v → wr.drew.cell? ((⟨g, 0, none⟩ : Addr).add j) = some v from fun j v hj => by
          rw [← hcs] at hj
          have hjl := (List.getElem?_eq_some_iff.1 hj).1
          rw [List.length_replicate] at hjl
          have hv := (List.getElem?_eq_some_iff.1 hj).2
          rw [List.getElem_replicate] at hv
          rw [add_none, Nat.zero_add, cell_of_row wr.drew g j _ _ _ A2.out, ← hcu, ← hv, List.getElem?_toArray]
          exact repL_get (by omega))
        have A4 := Lib.hid (show m + cs.length ≤ cu.length by rw [← hcu, repL_len hm, A1'.out]; omega)
        have A5 := Lib.hid (show ∀ v ∈ cs, v.oneCell' = true from fun v hv => by rw [← hcs] at hv; rw [List.eq_of_mem_replicate hv]; rfl)
        have hrun := run_copy_row (P := Tryz.prog) wr.drew 31 31 3 T64 g m (n - m) (n - m) ⟨g, 0, none⟩ m n cu.toArray T64 cs Tryz.underlying31 (by kernel_rfl) A2.out A1.out A3.out (by simpa using A4.out) A5.out
        obtain ⟨W5, hW5⟩ : ∃ W5, wr.drew.setRow g (cu.toArray.toList.take m ++ cs ++ cu.toArray.toList.drop (m + cs.length)).toArray = W5 := ⟨_, rfl⟩
        rw [hW5, A1'.out] at hrun
        have hrun : (Builtin.copy_ #[31, 31] 3 #[.slice (some ⟨g, m, none⟩) (n - m) (n - m), .slice (some ⟨g, 0, none⟩) m n]).run Tryz.prog wr.drew = .ok (.int .i64 (c : Int)) W5 := hrun
        have HG5 : Hid (RpS w g n (m + c) W5) := Lib.hid ⟨by
          rw [← hW5, ← repL_splice hc0.2, splice, List.length_replicate, hcu, hcs]
          have h := setRow_heap wr.drew g _ (cu.toArray.toList.take m ++ cs ++ cu.toArray.toList.drop (m + cs.length)).toArray T64 _ A2.out
          rw [h, A1'.out, List.append_assoc], by
          rw [← hW5]; exact below_setRow hS.out.bel.drew (by rw [HG.out]; exact Nat.le_refl _) _⟩
        obtain ⟨q, hq⟩ : ∃ q, m + c = q := ⟨_, rfl⟩
        have hw1 := wrapMC m c n hn hc0.2
        rw [hq] at hw1 HG5 hc0
        have HC := Lib.hid (show m < q ∧ q ≤ n by omega)
        clear hq
        clear hS hc hc0 hcs hcu hW5 A1 A1' A2 A3 A4 A5
        go_upto_region 9 with (fail)
        go_region
        simp only [hw1]
        clear hw1
        all_goals go_wp2
        all_goals go_roundw
        case rel => exact ⟨q, by have := HC.out.1; omega, HC.out.2, rfl, HG5⟩
        case measure => have := HC.out.1; simp [intOf]; omega
      · obtain rfl : m = n := by omega
        go_wp2
        go_ret
        exact hS.out.end_ (by rw [HG.out]; exact Nat.le_refl _) (by omega)
end Go.Proofs.YtngmaiiibinkaaaGreat
/- A map of numbers by numbers. -/
namespace Go.Proofs.YtngmaiiibinkaaaGreat
open Go.RowKit
set_option linter.unusedVariables false
set_option linter.unusedSimpArgs false
def alook (s : Int) : List (Int × Int) → Option Int
  | [] => none
  | p :: l => if s = p.1 then some p.2 else alook s l
def aput (s v : Int) : List (Int × Int) → List (Int × Int)
  | [] => [(s, v)]
  | p :: l => if s = p.1 then (s, v) :: l else p :: aput s v l
theorem alook_put (s v k : Int) : ∀ l : List (Int × Int), alook k (aput s v l) = if k = s then some v else alook k l
  | [] => by simp [aput, alook]
  | p :: l => by
    rw [aput]
    by_cases h : s = p.1
    · rw [if_pos h, alook, alook]
      by_cases hk : k = s
      · simp [hk]
      · rw [if_neg hk, if_neg hk, if_neg (by rw [← h]; exact hk)]
    · rw [if_neg h, alook, alook, alook_put s v k l]
      by_cases hk : k = s
      · rw [if_pos hk, if_neg (by rw [hk]; exact h), if_pos hk]
      · rw [if_neg hk, if_neg hk]
def entK (al : List (Int × Int)) : List Value := al.map fun p => .int .i64 p.1
def entV (al : List (Int × Int)) : List Value := al.map fun p => .int .i64 p.2
/-- Block r holds a map that tells f. -/
def MapI (w : World) (r : Nat) (f : Int → Option Int) : Prop := ∃ es c al, w.heap[r]? = some (.map es c) ∧ es.toList.map (·.key) = entK al ∧ es.toList.map (·.val) = entV al ∧ ∀ k, alook k al = f k
theorem MapI.lt {w : World} {r : Nat} {f : Int → Option Int} (h : MapI w r f) : r < w.heap.size := by
  obtain ⟨es, c, al, h1, _⟩ := h
  exact (Array.getElem?_eq_some_iff.1 h1).1
theorem MapI.same {w w' : World} {r : Nat} {f : Int → Option Int} (h : MapI w r f) (hb : w'.heap[r]? = w.heap[r]?) : MapI w' r f := by
  obtain ⟨es, c, al, h1, h2⟩ := h
  exact ⟨es, c, al, hb.trans h1, h2⟩
theorem MapI.later {w w' : World} {r : Nat} {f : Int → Option Int} (h : MapI w r f) (hb : Below w.heap.size w w') : MapI w' r f := h.same (hb.block r h.lt)
theorem MapI.made (w : World) : MapI (w.alloc (.map #[] 0)) w.heap.size (fun _ => none) := ⟨#[], 0, [], heap_alloc_new w _, rfl, rfl, fun _ => rfl⟩
theorem MapI.of {w : World} {r : Nat} {f g : Int → Option Int} (h : MapI w r f) (e : ∀ k, f k = g k) : MapI w r g := by
  obtain ⟨es, c, al, h1, h2, h3, h4⟩ := h
  exact ⟨es, c, al, h1, h2, h3, fun k => (h4 k).trans (e k)⟩
theorem find_al (s : Int) (kk : IntKind) : ∀ (es : List MapEntry) (al : List (Int × Int)) (i : Nat), es.map (·.key) = entK al → es.map (·.val) = entV al →
    (alook s al = none → Instr.findNow (.int kk) (.int .i64 s) es i = some none ∧ ∀ v, aput s v al = al ++ [(s, v)]) ∧
    (∀ v, alook s al = some v → ∃ j e, es[j]? = some e ∧ e.key = .int .i64 s ∧ Instr.findNow (.int kk) (.int .i64 s) es i = some (some (i + j, .int .i64 v)) ∧
      ∀ v', (es.modify j fun e => { e with key := .int .i64 s, val := .int .i64 v' }).map (·.key) = entK (aput s v' al) ∧ (es.modify j fun e => { e with key := .int .i64 s, val := .int .i64 v' }).map (·.val) = entV (aput s v' al))
  | [], al, i, h, h' => by
    cases al with
    | nil => exact ⟨fun _ => ⟨rfl, fun v => rfl⟩, fun v hv => by simp [alook] at hv⟩
    | cons a r => simp [entK] at h
  | e :: es, al, i, h, h' => by
    cases al with
    | nil => simp [entK] at h
    | cons a r =>
      simp only [entK, entV, List.map_cons, List.cons.injEq] at h h'
      obtain ⟨h1, h2⟩ := h
      obtain ⟨h3, h4⟩ := h'
      have ih := find_al s kk es r (i + 1) h2 h4
      unfold Instr.findNow
      rw [h1]
      simp only [Instr.sameNow, if_true]
      by_cases hs : s = a.1
      · have hb : (s == a.1) = true := by simpa using hs
        simp only [hb]
        refine ⟨fun hn => (by rw [alook, if_pos hs] at hn; cases hn), fun v hv => ?_⟩
        rw [alook, if_pos hs] at hv
        simp only [Option.some.injEq] at hv
        refine ⟨0, e, rfl, by rw [h1, ← hs], (by rw [h3, hv]; rfl), fun v' => ?_⟩
        rw [aput, if_pos hs]
        simp [entK, entV, h2, h4]
      · have hb : (s == a.1) = false := by simpa using hs
        simp only [hb]
        refine ⟨fun hn => ?_, fun v hv => ?_⟩
        · rw [alook, if_neg hs] at hn
          obtain ⟨f1, f2⟩ := ih.1 hn
          exact ⟨f1, fun v => by rw [aput, if_neg hs, f2 v]; rfl⟩
        · rw [alook, if_neg hs] at hv
          obtain ⟨j, e', g1, g2, g3, g4⟩ := ih.2 v hv
          refine ⟨j + 1, e', g1, g2, (by rw [g3]; congr 3; omega), fun v' => ?_⟩
          obtain ⟨q1, q2⟩ := g4 v'
          rw [aput, if_neg hs]
          simp only [List.modify_succ_cons, List.map_cons, entK, entV] at q1 q2 ⊢
          exact ⟨by rw [h1, q1], by rw [h3, q2]⟩
/-- A look-up, with ok. -/
theorem MapI.look {w : World} {r : Nat} {f : Int → Option Int} (h : MapI w r f) (s : Int) :
    (Instr.lookup 72 (.map (some r)) (.int .i64 s) true).run Tryz.prog w = .ok (.tuple #[.int .i64 ((f s).getD 0), .bool (f s).isSome]) w := by
  obtain ⟨es, c, al, h1, h2, h3, h4⟩ := h
  have hg := getObj_map h1
  have hf := fun k => find_al s k es.toList al 0 h2 h3
  cases hb : f s with
  | none =>
    have hn := fun k => ((hf k).1 ((h4 s).trans hb)).1
    simp [Instr.lookup, hg, checkKey_int, Instr.findKey, hn]
  | some v =>
    obtain ⟨j, e, -, -, hfe, -⟩ := (hf .i64).2 v ((h4 s).trans hb)
    simp [Instr.lookup, hg, checkKey_int, Instr.findKey, hfe]
theorem same_int (n : Nat) (s : Int) : Instr.sameBits n (.int .i64 s) (.int .i64 s) = true := by
  cases n <;> simp [Instr.sameBits]
/-- A store. -/
theorem MapI.put {w : World} {r : Nat} {f : Int → Option Int} (h : MapI w r f) (s v : Int) :
    ∃ o, (Instr.mapUpdate 72 (.map (some r)) (.int .i64 s) (.int .i64 v)).run Tryz.prog w = .ok () (w.putObj r o) ∧ MapI (w.putObj r o) r (fun k => if k = s then some v else f k) := by
  have hlt := h.lt
  obtain ⟨es, c, al, h1, h2, h3, h4⟩ := h
  have hg := getObj_map h1
  have hs := setObj_map h1
  have hf := fun k => find_al s k es.toList al 0 h2 h3
  cases hb : alook s al with
  | none =>
    have hn := fun k => ((hf k).1 hb).1
    have ha := ((hf .i64).1 hb).2 v
    refine ⟨.map (es.push { key := .int .i64 s, val := .int .i64 v, born := c }) (c + 1), by simp [Instr.mapUpdate, hg, checkKey_int, Instr.findKey, hn, hs], _, _, aput s v al, World.putObj_heap_same hlt, ?_, ?_, fun k => by rw [alook_put, h4]⟩
    · rw [ha]; simp [h2, entK]
    · rw [ha]; simp [h3, entV]
  | some v0 =>
    obtain ⟨j, e, he, hk, hfe, hm⟩ := (hf .i64).2 v0 hb
    obtain ⟨m1, m2⟩ := hm v
    have hej : es[j]? = some e := by simpa using he
    rw [Nat.zero_add] at hfe
    refine ⟨.map (es.modify j fun e => { e with key := .int .i64 s, val := .int .i64 v }) c, ?_, _, _, aput s v al, World.putObj_heap_same hlt, ?_, ?_, fun k => by rw [alook_put, h4]⟩
    · simp [Instr.mapUpdate, hg, checkKey_int, Instr.findKey, hfe, hej, hk, Instr.keyThatStays, same_int, hs]
    · simpa using m1
    · simpa using m2
end Go.Proofs.YtngmaiiibinkaaaGreat
/- trace.Ends. -/
namespace Go.Proofs.YtngmaiiibinkaaaGreat
open Go.RowKit Go.Shelf
set_option linter.unusedVariables false
set_option linter.unusedSimpArgs false
attribute [local go_sem ↓] Go.wp_at_zero Go.wp_at_succ
structure EdH (js : List Fv) (l : List Sq) : Prop where
  k1 : ∀ i, i < js.length → 1 ≤ (jb js i).k ∧ (jb js i).k ≤ 1000000000000000000
  bd : ∀ x ∈ l, -1000000000000000000 ≤ x.f ∧ x.f ≤ 1000000000000000000 ∧ -1000000000000000000 ≤ x.t ∧ x.t ≤ 1000000000000000000
  fj : js.length ≤ 1000
  fl : l.length ≤ 1000000
structure EdS (w0 : World) (g r n : Nat) (js : List Fv) (l : List Sq) (w : World) : Prop where
  own : ∃ es : List Int, w.ownsRow w0.heap.size T64 1 (.slice (some ⟨g, 0, none⟩) n n) n (numL es) ∧ es.length = n ∧ ∀ i, i < n → kO es i = endQ (i : Int) (jb js i).k l
  map : MapI w r (ranQ js l)
  bel : Below w0.heap.size w0 w
  ge : w0.heap.size ≤ r
  ne : g ≠ r
section
variable {w0 w w' : World} {g r n : Nat} {js : List Fv} {l : List Sq} {x : Sq}
theorem EdS.later (h : EdS w0 g r n js l w) (hb : Below w.heap.size w w') : EdS w0 g r n js l w' := by
  obtain ⟨es, h1, h2, h3⟩ := h.own
  exact ⟨⟨es, (Kept.of [] hb).row h1 (by simp), h2, h3⟩, h.map.later hb, h.bel.trans (hb.mono h.bel.size), h.ge, h.ne⟩
theorem EdS.fz (h : EdS w0 g r n js l w) (hn : 0 < n) (i : Nat) : w.frozen? ⟨g, i, none⟩ = false := by
  obtain ⟨es, h1, h2, h3⟩ := h.own
  obtain ⟨g', c', hv, -, -, -, -, hf⟩ := own_form h1 hn
  simp only [Value.slice.injEq, Option.some.injEq, Addr.mk.injEq, and_true] at hv
  obtain ⟨rfl, -⟩ := hv
  exact hf i
theorem EdS.cell (h : EdS w0 g r n js l w) {i : Nat} (hi : i < n) : ∃ v, w.cell? ⟨g, i, none⟩ = some v := by
  obtain ⟨es, h1, h2, h3⟩ := h.own
  exact ⟨_, own_cell h1 (g := g) rfl (i := i) (by rw [numL, List.getElem?_map, List.getElem?_eq_getElem (show i < es.length by omega)]; rfl)⟩
theorem ranQ_snoc {s : Int} : ranQ js (l ++ [x]) s = if s = x.j ∧ 0 < x.t - x.f ∧ 0 ≤ s ∧ s < js.length then some (min (jb js s.toNat).k (totQ s l + (x.t - x.f))) else ranQ js l s := by
  have h0 := totQ_pos s l
  unfold ranQ
  rw [totQ_app, totQ_one]
  by_cases hc : s = x.j ∧ 0 < x.t - x.f ∧ 0 ≤ s ∧ s < js.length
  · rw [if_pos hc, if_pos (show x.j = s ∧ 0 < x.t - x.f from ⟨hc.1.symm, hc.2.1⟩), if_pos (by omega)]
  · rw [if_neg hc]
    by_cases h1 : x.j = s ∧ 0 < x.t - x.f
    · rw [if_neg (by omega), if_neg (by omega)]
    · rw [if_neg h1, Int.add_zero]
theorem EdS.skip (h : EdS w0 g r n js l w) (hk : ∀ i, i < js.length → 1 ≤ (jb js i).k) (hn : n = js.length) (hx : ¬ (0 ≤ x.j ∧ x.j < n) ∨ x.t - x.f ≤ 0) : EdS w0 g r n js (l ++ [x]) w := by
  obtain ⟨es, h1, h2, h3⟩ := h.own
  refine ⟨⟨es, h1, h2, fun i hi => ?_⟩, h.map.of (fun s => ?_), h.bel, h.ge, h.ne⟩
  · rw [h3 i hi, endQ_snoc _ _ _ _ (hk i (by omega))]
    split
    · rfl
    · rename_i hlt
      rw [if_neg (by omega), endQ_no _ _ _ (by omega)]
  · rw [ranQ_snoc, if_neg (by omega)]
theorem EdS.past {i : Nat} (h : EdS w0 g r n js l w) (hk : ∀ i, i < js.length → 1 ≤ (jb js i).k) (hn : n = js.length) (hi : i < n) (hx : x.j = (i : Int)) (hW : (jb js i).k ≤ totQ (i : Int) l) : EdS w0 g r n js (l ++ [x]) w := by
  obtain ⟨es, h1, h2, h3⟩ := h.own
  refine ⟨⟨es, h1, h2, fun q hq => ?_⟩, h.map.of (fun s => ?_), h.bel, h.ge, h.ne⟩
  · rw [h3 q hq, endQ_snoc _ _ _ _ (hk q (by omega))]
    split
    · rfl
    · rename_i hlt
      have : q ≠ i := fun e => by subst e; exact hlt hW
      rw [if_neg (by omega), endQ_no _ _ _ (by omega)]
  · rw [ranQ_snoc]
    split
    · rename_i hc
      obtain ⟨rfl, h5, h6, h7⟩ := hc
      have hk1 := hk i (by omega)
      unfold ranQ
      rw [hx, if_pos (by omega)]
      simp only [Int.toNat_natCast]
      exact congrArg some (by omega)
    · rfl
theorem EdS.look {i : Nat} (h : EdS w0 g r n js l w) (hk : ∀ i, i < js.length → 1 ≤ (jb js i).k) (hn : n = js.length) (hi : i < n) :
    (Instr.lookup 72 (.map (some r)) (.int .i64 (i : Int)) true).run Tryz.prog w = .ok (.tuple #[.int .i64 (min (jb js i).k (totQ (i : Int) l)), .bool (decide (0 < totQ (i : Int) l))]) w := by
  rw [h.map.look]
  have h0 := totQ_pos (i : Int) l
  have h1 := hk i (by omega)
  unfold ranQ
  by_cases h2 : 0 < totQ (i : Int) l
  · rw [if_pos (by omega), decide_eq_true h2]; simp
  · rw [if_neg (by omega), decide_eq_false h2, show min (jb js i).k (totQ (i : Int) l) = 0 by omega]; simp
/-- It runs on. -/
theorem EdS.more {i : Nat} (h : EdS w0 g r n js l w) (hk : ∀ i, i < js.length → 1 ≤ (jb js i).k) (hn : n = js.length) (hi : i < n) (hx : x.j = (i : Int)) (hl : 0 < x.t - x.f) (hW : totQ (i : Int) l < (jb js i).k) (hm : x.t - x.f < (jb js i).k - totQ (i : Int) l) {v : Int} (hv : v = totQ (i : Int) l + (x.t - x.f)) :
    ∃ o, (Instr.mapUpdate 72 (.map (some r)) (.int .i64 (i : Int)) (.int .i64 v)).run Tryz.prog w = .ok () (w.putObj r o) ∧ EdS w0 g r n js (l ++ [x]) (w.putObj r o) := by
  obtain ⟨o, ho, hm2⟩ := h.map.put (i : Int) v
  obtain ⟨es, h1, h2, h3⟩ := h.own
  have kp : Kept [r] w (w.putObj r o) := (Kept.refl [r] w).put r o (by simp)
  refine ⟨o, ho, ⟨es, kp.row h1 (by intro q hq; simp [Value.ownBlock] at hq; simp; have := h.ne; omega), h2, fun q hq => ?_⟩, hm2.of (fun s => ?_), h.bel.trans (kp.below h.bel.size (fun k hk => by simp at hk; have := h.ge; omega)), h.ge, h.ne⟩
  · rw [h3 q hq, endQ_snoc _ _ _ _ (hk q (by omega))]
    split
    · rfl
    · rename_i hlt
      by_cases e : q = i
      · subst e
        rw [if_pos ⟨hx, hl⟩, if_neg (by omega), endQ_no _ _ _ (by omega)]
      · rw [if_neg (by omega), endQ_no _ _ _ (by omega)]
  · rw [ranQ_snoc]
    by_cases e : s = (i : Int)
    · rw [e, if_pos rfl, if_pos ⟨hx.symm, hl, by omega, by omega⟩, hv]
      simp only [Int.toNat_natCast]
      exact congrArg some (by omega)
    · rw [if_neg e, if_neg (by omega)]
/-- It ends. -/
theorem EdS.ends {i : Nat} (h : EdS w0 g r n js l w) (hk : ∀ i, i < js.length → 1 ≤ (jb js i).k) (hn : n = js.length) (hi : i < n) (hx : x.j = (i : Int)) (hl : 0 < x.t - x.f) (hW : totQ (i : Int) l < (jb js i).k) (hm : (jb js i).k - totQ (i : Int) l ≤ x.t - x.f) {v e : Int} (hv : v = (jb js i).k) (he : e = x.f + ((jb js i).k - totQ (i : Int) l)) :
    ∃ o, (Instr.mapUpdate 72 (.map (some r)) (.int .i64 (i : Int)) (.int .i64 v)).run Tryz.prog (w.setCell ⟨g, i, none⟩ (.int .i64 e)) = .ok () ((w.setCell ⟨g, i, none⟩ (.int .i64 e)).putObj r o) ∧ EdS w0 g r n js (l ++ [x]) ((w.setCell ⟨g, i, none⟩ (.int .i64 e)).putObj r o) := by
  obtain ⟨es, h1, h2, h3⟩ := h.own
  have hg := (h1.lt g rfl).1
  have kp1 : Kept [g] w (w.setCell ⟨g, i, none⟩ (.int .i64 e)) := (Kept.refl [g] w).set g i _ (by simp)
  have hmp : MapI (w.setCell ⟨g, i, none⟩ (.int .i64 e)) r (ranQ js l) := h.map.same (kp1.block r h.map.lt (by simp; have := h.ne; omega))
  obtain ⟨o, ho, hm2⟩ := hmp.put (i : Int) v
  have kp : Kept [r] (w.setCell ⟨g, i, none⟩ (.int .i64 e)) ((w.setCell ⟨g, i, none⟩ (.int .i64 e)).putObj r o) := (Kept.refl [r] _).put r o (by simp)
  have h1' := own_set h1 (g := g) rfl (i := i) (by omega) (.int .i64 e)
  have en : (numL es).set i (.int .i64 e) = numL (es.set i e) := by simp [numL, List.map_set]
  rw [en] at h1'
  refine ⟨o, ho, ⟨es.set i e, kp.row h1' (by intro q hq; simp [Value.ownBlock] at hq; simp; have := h.ne; omega), by rw [List.length_set]; exact h2, fun q hq => ?_⟩, hm2.of (fun s => ?_), (h.bel.setCell (p := ⟨g, i, none⟩) hg _).trans (kp.below (by have := h.bel.size; simp [World.setCell]; exact this) (fun k hk => by simp at hk; have := h.ge; omega)), h.ge, h.ne⟩
  · rw [kO_set _ _ (by omega), endQ_snoc _ _ _ _ (hk q (by omega))]
    by_cases e' : q = i
    · subst e'
      rw [if_pos rfl, if_neg (by omega), if_pos ⟨hx, hl⟩, if_pos hm, he]
    · rw [if_neg e', h3 q hq]
      split
      · rfl
      · rename_i hlt
        rw [if_neg (by omega), endQ_no _ _ _ (by omega)]
  · rw [ranQ_snoc]
    by_cases e' : s = (i : Int)
    · rw [e', if_pos rfl, if_pos ⟨hx.symm, hl, by omega, by omega⟩, hv]
      simp only [Int.toNat_natCast]
      exact congrArg some (by omega)
    · rw [if_neg e', if_neg (by omega)]
end
def EndP (js : List Fv) (l : List Sq) (w : World) (e : Ending) (w' : World) : Prop := ∃ g, e = .returned (.slice (some ⟨g, 0, none⟩) js.length js.length) ∧ CRow w' (some ⟨g, 0, none⟩) js.length (endsQ js l) ∧ Below w.heap.size w w'
theorem endsQ_bd {js : List Fv} {l : List Sq} (h : EdH js l) : ∀ x ∈ endsQ js l, in64 x := by
  intro x hx
  obtain ⟨i, hi, rfl⟩ := List.mem_map.1 hx
  rw [List.mem_range] at hi
  have hk := h.k1 i hi
  rcases Int.lt_or_le (totQ (i : Int) l) (jb js i).k with h1 | h1
  · rw [endQ_no _ _ _ h1]; unfold in64; omega
  · obtain ⟨y, hy, h2⟩ := endQ_in (i : Int) l _ hk.1 h1
    have := h.bd y hy
    unfold in64; omega
theorem EdS.done {w0 w : World} {g r n : Nat} {js : List Fv} {l : List Sq} (h : EdS w0 g r n js l w) (hn : n = js.length) (hH : EdH js l) : EndP js l w0 (.returned (.slice (some ⟨g, 0, none⟩) n n)) w := by
  obtain ⟨es, h1, h2, h3⟩ := h.own
  have e : es = endsQ js l := by
    apply List.ext_getElem
    · rw [h2, endsQ_len, hn]
    · intro i hi1 hi2
      have a := h3 i (by omega)
      have b := endsQ_get (js := js) (l := l) (i := i) (by omega)
      have a1 : kO es i = es[i] := by simp [kO, hi1]
      have b1 : kO (endsQ js l) i = (endsQ js l)[i] := by simp [kO, hi2]
      rw [← a1, ← b1, a, b]
  rw [e] at h1
  obtain ⟨A, c, hv, hl, hC, _⟩ := crow_own h1 (endsQ_bd hH)
  simp only [Value.slice.injEq] at hv
  obtain ⟨rfl, hv2, rfl⟩ := hv
  subst hn
  exact ⟨g, rfl, hC, h.bel⟩
end Go.Proofs.YtngmaiiibinkaaaGreat
