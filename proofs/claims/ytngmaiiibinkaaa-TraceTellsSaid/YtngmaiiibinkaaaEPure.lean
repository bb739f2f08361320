/- The executive tick by tick: what the document tells, as plain functions. -/
import Derived.Test.YtngmaiiibinkaaaSPure
import Derived.Test.YtngmaiiibinkaaaJPure
namespace Go.Proofs.Ytngmaiiibinkaaa
set_option linter.unusedVariables false
set_option linter.unusedSimpArgs false

/-! ### Sections -/
/-- Is a job, that has worked d, within a section? -/
def wthS : List Int → Int → Bool
  | [], _ => false
  | a :: cs, d => (decide (0 < d) && decide (d < a)) || wthS cs (d - a)
/-- The sections that are ahead. -/
def cl : List Int → Int → List Int
  | [], _ => []
  | a :: cs, d => if a ≤ d then cl cs (d - a) else a :: cs
def Pos1 (c : List Int) : Prop := ∀ x ∈ c, 1 ≤ x
theorem Pos1.tail {a : Int} {c : List Int} (h : Pos1 (a :: c)) : Pos1 c := fun x hx => h x (List.mem_cons_of_mem _ hx)
theorem Pos1.head {a : Int} {c : List Int} (h : Pos1 (a :: c)) : 1 ≤ a := h a (by simp)
theorem Pos1.sum : ∀ {c : List Int}, Pos1 c → 0 ≤ c.sum
  | [], _ => by simp
  | a :: c, h => by have := h.head; have := Pos1.sum h.tail; rw [List.sum_cons]; omega
theorem wthS_neg : ∀ (c : List Int) (d : Int), Pos1 c → d ≤ 0 → wthS c d = false
  | [], _, _, _ => rfl
  | a :: c, d, h, hd => by
    have := h.head
    rw [wthS, wthS_neg c (d - a) h.tail (by omega), decide_eq_false (by omega)]; rfl
theorem wthS_sum : ∀ (c : List Int) (d : Int), Pos1 c → c.sum ≤ d → wthS c d = false
  | [], _, _, _ => rfl
  | a :: c, d, h, hd => by
    rw [List.sum_cons] at hd
    have := h.tail.sum
    rw [wthS, wthS_sum c (d - a) h.tail (by omega), decide_eq_false (show ¬ d < a by omega)]; simp
theorem wthS_lt {c : List Int} {d : Int} (h : Pos1 c) (hw : wthS c d = true) : 0 < d ∧ d < c.sum := by
  refine ⟨?_, ?_⟩
  · rcases Int.lt_or_le 0 d with h1 | h1
    · exact h1
    · rw [wthS_neg c d h h1] at hw; cases hw
  · rcases Int.lt_or_le d c.sum with h1 | h1
    · exact h1
    · rw [wthS_sum c d h h1] at hw; cases hw
theorem cl_zero : ∀ (c : List Int), Pos1 c → cl c 0 = c
  | [], _ => rfl
  | a :: c, h => by have := h.head; rw [cl, if_neg (by omega)]
theorem cl_step : ∀ (c : List Int) (d a : Int) (r : List Int), Pos1 c → 0 ≤ d → wthS c d = false → cl c d = a :: r →
    1 ≤ a ∧ d + a ≤ c.sum ∧ (∀ u, 0 < u → u < a → wthS c (d + u) = true) ∧ wthS c (d + a) = false ∧ cl c (d + a) = r
  | [], d, a, r, _, _, _, h => by simp [cl] at h
  | b :: c, d, a, r, hp, hd, hw, h => by
    have hb := hp.head
    rw [wthS, Bool.or_eq_false_iff] at hw
    rw [List.sum_cons]
    rw [cl] at h
    by_cases hbd : b ≤ d
    · rw [if_pos hbd] at h
      obtain ⟨h1, h1', h2, h3, h4⟩ := cl_step c (d - b) a r hp.tail (by omega) hw.2 h
      refine ⟨h1, by omega, fun u hu hua => ?_, ?_, ?_⟩
      · rw [wthS, show d + u - b = d - b + u by omega, h2 u hu hua, Bool.or_true]
      · rw [wthS, show d + a - b = d - b + a by omega, h3, decide_eq_false (show ¬ d + a < b by omega)]; simp
      · rw [cl, if_pos (by omega), show d + a - b = d - b + a by omega, h4]
    · rw [if_neg hbd] at h
      injection h with e1 e2
      subst e1; subst e2
      have hd0 : d = 0 := by
        rcases Int.lt_or_le 0 d with h1 | h1
        · have := hw.1
          rw [decide_eq_true h1, decide_eq_true (show d < b by omega)] at this
          cases this
        · omega
      subst hd0
      have := hp.tail.sum
      refine ⟨hb, by omega, fun u hu hua => ?_, ?_, ?_⟩
      · rw [wthS, Int.zero_add, decide_eq_true hu, decide_eq_true hua]; rfl
      · rw [wthS, Int.zero_add, Int.sub_self, wthS_neg c 0 hp.tail (Int.le_refl _), decide_eq_false (show ¬ b < b by omega)]; simp
      · rw [cl, if_pos (by omega), Int.zero_add, Int.sub_self, cl_zero c hp.tail]
theorem cl_none : ∀ (c : List Int) (d : Int), cl c d = [] → ∀ u, 0 ≤ u → wthS c (d + u) = false ∧ cl c (d + u) = []
  | [], d, _, u, _ => ⟨rfl, rfl⟩
  | b :: c, d, h, u, hu => by
    rw [cl] at h
    by_cases hbd : b ≤ d
    · rw [if_pos hbd] at h
      obtain ⟨h1, h2⟩ := cl_none c (d - b) h u hu
      refine ⟨?_, ?_⟩
      · rw [wthS, show d + u - b = d - b + u by omega, h1, decide_eq_false (show ¬ d + u < b by omega)]; simp
      · rw [cl, if_pos (by omega), show d + u - b = d - b + u by omega, h2]
    · rw [if_neg hbd] at h; cases h

/-! ### Who runs -/
def jb (js : List Fv) (i : Nat) : Fv := (js[i]?).getD ⟨0, 0, 0, 1, []⟩
theorem jb_get {js : List Fv} {i : Nat} {x : Fv} (h : js[i]? = some x) : jb js i = x := by rw [jb, h]; rfl
def prO (ts : List Ts) (js : List Fv) (i : Nat) : Int := (tk ts (jb js i).t).p
def rdy (js : List Fv) (dn : List Int) (t : Int) (i : Nat) : Bool := decide ((jb js i).r ≤ t) && decide (kO dn i < (jb js i).k)
theorem rdy_iff {js : List Fv} {dn : List Int} {t : Int} {i : Nat} : rdy js dn t i = true ↔ (jb js i).r ≤ t ∧ kO dn i < (jb js i).k := by simp [rdy]
def pk1 (ts : List Ts) (js : List Fv) (dn : List Int) (t : Int) (best : Option Nat) (i : Nat) : Option Nat :=
  if rdy js dn t i && (match best with | none => true | some b => decide (prO ts js i < prO ts js b)) then some i else best
def pkN (ts : List Ts) (js : List Fv) (dn : List Int) (t : Int) (n : Nat) : Option Nat := (List.range n).foldl (pk1 ts js dn t) none
section
variable {ts : List Ts} {js : List Fv} {dn : List Int} {t : Int}
theorem pkN_succ (n : Nat) : pkN ts js dn t (n + 1) = pk1 ts js dn t (pkN ts js dn t n) n := by simp [pkN, List.range_succ]
def Best (ts : List Ts) (js : List Fv) (dn : List Int) (t : Int) (n b : Nat) : Prop := b < n ∧ rdy js dn t b = true ∧ ∀ i, i < n → rdy js dn t i = true → prO ts js b < prO ts js i ∨ (prO ts js b = prO ts js i ∧ b ≤ i)
theorem pkN_spec : ∀ n, (pkN ts js dn t n = none → ∀ i, i < n → rdy js dn t i = false) ∧ (∀ b, pkN ts js dn t n = some b → Best ts js dn t n b)
  | 0 => ⟨fun _ i hi => by omega, fun b hb => by simp [pkN] at hb⟩
  | n + 1 => by
    obtain ⟨h1, h2⟩ := pkN_spec n
    rw [pkN_succ]
    unfold pk1
    by_cases hr : rdy js dn t n = true
    · cases hp : pkN ts js dn t n with
      | none =>
        simp only [hr, Bool.and_self, if_true]
        refine ⟨fun h => (by cases h), fun b hb => ?_⟩
        injection hb with hb
        subst hb
        refine ⟨by omega, hr, fun i hi hir => ?_⟩
        rcases Nat.lt_or_ge i n with h | h
        · rw [h1 hp i h] at hir; cases hir
        · obtain rfl : i = n := by omega
          exact .inr ⟨rfl, Nat.le_refl _⟩
      | some c =>
        obtain ⟨c1, c2, c3⟩ := h2 c hp
        simp only [hr, Bool.true_and, decide_eq_true_eq]
        refine ⟨fun h => (by split at h <;> cases h), fun b hb => ?_⟩
        split at hb
        · rename_i hlt
          injection hb with hb
          subst hb
          refine ⟨by omega, hr, fun i hi hir => ?_⟩
          rcases Nat.lt_or_ge i n with h | h
          · rcases c3 i h hir with h | h <;> (left; omega)
          · obtain rfl : i = n := by omega
            exact .inr ⟨rfl, Nat.le_refl _⟩
        · rename_i hlt
          injection hb with hb
          subst hb
          refine ⟨by omega, c2, fun i hi hir => ?_⟩
          rcases Nat.lt_or_ge i n with h | h
          · exact c3 i h hir
          · obtain rfl : i = n := by omega
            omega
    · simp only [Bool.not_eq_true] at hr
      simp only [hr, Bool.false_and, Bool.false_eq_true, if_false]
      refine ⟨fun h i hi => ?_, fun b hb => ?_⟩
      · rcases Nat.lt_or_ge i n with hl | hl
        · exact h1 h i hl
        · obtain rfl : i = n := by omega
          exact hr
      · obtain ⟨c1, c2, c3⟩ := h2 b hb
        refine ⟨by omega, c2, fun i hi hir => ?_⟩
        rcases Nat.lt_or_ge i n with h | h
        · exact c3 i h hir
        · obtain rfl : i = n := by omega
          rw [hr] at hir; cases hir
theorem pkN_best {n b : Nat} (h : Best ts js dn t n b) : pkN ts js dn t n = some b := by
  obtain ⟨h1, h2⟩ := pkN_spec (ts := ts) (js := js) (dn := dn) (t := t) n
  cases hp : pkN ts js dn t n with
  | none => have := h1 hp b h.1; rw [h.2.1] at this; cases this
  | some c =>
    have hc := h2 c hp
    have a1 := hc.2.2 b h.1 h.2.1
    have a2 := h.2.2 c hc.1 hc.2.1
    congr 1
    omega
theorem pkN_no {n : Nat} (h : ∀ i, i < n → rdy js dn t i = false) : pkN ts js dn t n = none := by
  cases hp : pkN ts js dn t n with
  | none => rfl
  | some c =>
    have h2 := ((pkN_spec n).2 c hp)
    have h3 := h c h2.1
    rw [h2.2.1] at h3; cases h3
end

/-! ### Tick by tick -/
structure Spn where
  j : Nat
  f : Int
  t : Int
deriving DecidableEq
def addN (sp : List Spn) (i : Nat) (t m : Int) : List Spn :=
  match sp.getLast? with
  | some x => if x.j = i ∧ x.t = t then sp.dropLast ++ [⟨i, x.f, t + m⟩] else sp ++ [⟨i, t, t + m⟩]
  | none => sp ++ [⟨i, t, t + m⟩]
structure TSt where
  dn : List Int
  ru : Option Nat
  sp : List Spn
  en : List Int
def whoS (ts : List Ts) (js : List Fv) (s : TSt) (t : Int) : Option Nat :=
  match s.ru with
  | some i => if wthS (jb js i).c (kO s.dn i) then some i else pkN ts js s.dn t js.length
  | none => pkN ts js s.dn t js.length
def runM (js : List Fv) (s : TSt) (t : Int) (i : Nat) (m : Int) : TSt :=
  { dn := s.dn.set i (kO s.dn i + m), ru := some i, sp := addN s.sp i t m, en := if kO s.dn i + m = (jb js i).k then s.en.set i (t + m) else s.en }
def tstep (ts : List Ts) (js : List Fv) (s : TSt) (t : Int) : TSt :=
  match whoS ts js s t with
  | none => { s with ru := none }
  | some i => runM js s t i 1
def tst (ts : List Ts) (js : List Fv) : Nat → TSt
  | 0 => ⟨List.replicate js.length 0, none, [], List.replicate js.length (-1)⟩
  | n + 1 => tstep ts js (tst ts js n) n
/-- Who runs at tick n. -/
def who (ts : List Ts) (js : List Fv) (n : Nat) : Option Nat := whoS ts js (tst ts js n) n
abbrev dnA (ts : List Ts) (js : List Fv) (n i : Nat) : Int := kO (tst ts js n).dn i
theorem kO_set {l : List Int} {i : Nat} (j : Nat) (v : Int) (hi : i < l.length) : kO (l.set i v) j = if j = i then v else kO l j := by
  unfold kO
  by_cases h : j = i
  · subst h; rw [if_pos rfl, List.getElem?_set_self hi]; rfl
  · rw [if_neg h, List.getElem?_set_ne (Ne.symm h)]
/-- What jobs must be like. -/
structure Lg (js : List Fv) : Prop where
  r0 : ∀ i, i < js.length → 0 ≤ (jb js i).r
  k1 : ∀ i, i < js.length → 1 ≤ (jb js i).k
  pos : ∀ i, Pos1 (jb js i).c
  fit : ∀ i, i < js.length → (jb js i).c.sum ≤ (jb js i).k
/-- What holds of the state at tick n. -/
structure TI (js : List Fv) (n : Int) (s : TSt) : Prop where
  ld : s.dn.length = js.length
  le : s.en.length = js.length
  d0 : ∀ i, i < js.length → 0 ≤ kO s.dn i ∧ kO s.dn i ≤ (jb js i).k
  dr : ∀ i, i < js.length → 0 < kO s.dn i → (jb js i).r < n
  ru : ∀ i, s.ru = some i → i < js.length ∧ 0 < kO s.dn i
  sp : ∀ x, s.sp.getLast? = some x → x.j < js.length ∧ x.t ≤ n ∧ 0 < kO s.dn x.j ∧ (x.t < n → kO s.dn x.j = (jb js x.j).k)
  en : ∀ i, i < js.length → (kO s.dn i < (jb js i).k ∧ kO s.en i = -1) ∨ (kO s.dn i = (jb js i).k ∧ 0 < kO s.en i ∧ kO s.en i ≤ n)
section
variable {ts : List Ts} {js : List Fv}
theorem TI.who_some {n : Int} {s : TSt} {i : Nat} (hl : Lg js) (h : TI js n s) (hw : whoS ts js s n = some i) : i < js.length ∧ (jb js i).r ≤ n ∧ kO s.dn i < (jb js i).k := by
  have key : ∀ {i}, pkN ts js s.dn n js.length = some i → i < js.length ∧ (jb js i).r ≤ n ∧ kO s.dn i < (jb js i).k := by
    intro i hp
    obtain ⟨h1, h2, _⟩ := (pkN_spec _).2 i hp
    rw [rdy_iff] at h2
    exact ⟨h1, h2⟩
  unfold whoS at hw
  cases hr : s.ru with
  | none => rw [hr] at hw; exact key hw
  | some c =>
    rw [hr] at hw
    simp only at hw
    split at hw
    · rename_i hwt
      injection hw with hw
      subst hw
      obtain ⟨h1, h2⟩ := h.ru _ hr
      have := (wthS_lt (hl.pos c) hwt).2
      have := hl.fit c h1
      have := h.dr c h1 h2
      exact ⟨h1, by omega, by omega⟩
    · exact key hw
theorem TI.who_none {n : Int} {s : TSt} (hl : Lg js) (h : TI js n s) (hw : whoS ts js s n = none) : ∀ i, i < js.length → rdy js s.dn n i = false := by
  unfold whoS at hw
  cases hr : s.ru with
  | none => rw [hr] at hw; exact (pkN_spec _).1 hw
  | some c =>
    rw [hr] at hw
    simp only at hw
    split at hw
    · cases hw
    · exact (pkN_spec _).1 hw
theorem addN_last (sp : List Spn) (i : Nat) (t m : Int) : ∃ f, (addN sp i t m).getLast? = some ⟨i, f, t + m⟩ := by
  unfold addN
  cases sp.getLast? with
  | none => exact ⟨t, by simp⟩
  | some x =>
    simp only
    split
    · exact ⟨x.f, by simp⟩
    · exact ⟨t, by simp⟩
theorem TI.run {n : Int} {s : TSt} {i : Nat} {m : Int} (hn : 0 ≤ n) (h : TI js n s) (hi : i < js.length) (hr : (jb js i).r ≤ n) (hm : 1 ≤ m) (hk : kO s.dn i + m ≤ (jb js i).k) : TI js (n + m) (runM js s n i m) := by
  have hid : i < s.dn.length := by rw [h.ld]; exact hi
  have hie : i < s.en.length := by rw [h.le]; exact hi
  have hd0 := h.d0 i hi
  refine ⟨by simp [runM, h.ld], by unfold runM; simp only; split <;> simp [h.le], fun j hj => ?_, fun j hj hp => ?_, fun j hj => ?_, fun x hx => ?_, fun j hj => ?_⟩
  · simp only [runM]
    rw [kO_set _ _ hid]
    split
    · subst j; omega
    · exact h.d0 j hj
  · simp only [runM] at hp
    rw [kO_set _ _ hid] at hp
    split at hp
    · subst j; omega
    · have := h.dr j hj hp; omega
  · simp only [runM, Option.some.injEq] at hj ⊢
    subst hj
    rw [kO_set _ _ hid, if_pos rfl]
    exact ⟨hi, by omega⟩
  · simp only [runM] at hx ⊢
    obtain ⟨f, hf⟩ := addN_last s.sp i n m
    rw [hf] at hx
    injection hx with hx
    subst hx
    simp only
    rw [kO_set _ _ hid, if_pos rfl]
    exact ⟨hi, Int.le_refl _, by omega, fun h => by omega⟩
  · simp only [runM]
    rw [kO_set _ _ hid]
    by_cases he : j = i
    · subst he
      rw [if_pos rfl]
      split
      · rename_i hd
        rw [kO_set _ _ hie, if_pos rfl]
        exact .inr ⟨hd, by omega, Int.le_refl _⟩
      · rename_i hd
        rcases h.en j hj with h1 | h1
        · exact .inl ⟨by omega, h1.2⟩
        · omega
    · rw [if_neg he]
      have hen : kO (if kO s.dn i + m = (jb js i).k then s.en.set i (n + m) else s.en) j = kO s.en j := by
        split
        · rw [kO_set _ _ hie, if_neg he]
        · rfl
      rw [hen]
      rcases h.en j hj with h1 | h1
      · exact .inl h1
      · exact .inr ⟨h1.1, h1.2.1, by omega⟩
theorem TI.idle {n m : Int} {s : TSt} (h : TI js n s) (hm : 0 ≤ m) (hr : ∀ i, i < js.length → (jb js i).r ≤ n → kO s.dn i = (jb js i).k) : TI js (n + m) { s with ru := none } := by
  refine ⟨h.ld, h.le, h.d0, fun j hj hp => ?_, fun j hj => (by cases hj), fun x hx => ?_, fun j hj => ?_⟩
  · have := h.dr j hj hp; omega
  · obtain ⟨h1, h2, h3, h4⟩ := h.sp x hx
    refine ⟨h1, by omega, h3, fun _ => hr _ h1 ?_⟩
    have := h.dr _ h1 h3; omega
  · rcases h.en j hj with h1 | h1
    · exact .inl h1
    · exact .inr ⟨h1.1, h1.2.1, by have := h1.2.2; show kO s.en j ≤ n + m; omega⟩
theorem not_rdy {dn : List Int} {t : Int} {i : Nat} (h0 : kO dn i ≤ (jb js i).k) (h : rdy js dn t i = false) (hr : (jb js i).r ≤ t) : kO dn i = (jb js i).k := by
  have : ¬ (kO dn i < (jb js i).k) := fun hlt => by
    rw [rdy, decide_eq_true hr, decide_eq_true hlt] at h; cases h
  omega
theorem TI.step {n : Int} {s : TSt} (hn : 0 ≤ n) (hl : Lg js) (h : TI js n s) : TI js (n + 1) (tstep ts js s n) := by
  unfold tstep
  cases hw : whoS ts js s n with
  | none => exact h.idle (by omega) fun i hi hr => not_rdy (h.d0 i hi).2 (h.who_none hl hw i hi) hr
  | some i =>
    obtain ⟨h1, h2, h3⟩ := h.who_some hl hw
    exact h.run hn h1 h2 (by omega) (by omega)
theorem kO_rep (n i : Nat) (v : Int) (hi : i < n) : kO (List.replicate n v) i = v := by simp [kO, hi]
theorem ti_all (hl : Lg js) : ∀ n : Nat, TI js n (tst ts js n)
  | 0 => by
    refine ⟨by simp [tst], by simp [tst], fun i hi => ?_, fun i hi hp => ?_, fun i hi => by simp [tst] at hi, fun x hx => by simp [tst] at hx, fun i hi => ?_⟩
    · have := hl.k1 i hi
      simp only [tst]; rw [kO_rep _ _ _ hi]; omega
    · simp only [tst] at hp; rw [kO_rep _ _ _ hi] at hp; omega
    · have := hl.k1 i hi
      simp only [tst]; rw [kO_rep _ _ _ hi, kO_rep _ _ _ hi]; exact .inl ⟨by omega, rfl⟩
  | n + 1 => by
    have := (ti_all hl n).step (ts := ts) (by omega) hl
    rw [show ((n + 1 : Nat) : Int) = (n : Int) + 1 by omega]
    exact this
end
end Go.Proofs.Ytngmaiiibinkaaa
