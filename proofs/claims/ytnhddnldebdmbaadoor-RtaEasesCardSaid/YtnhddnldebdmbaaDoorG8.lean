/- Texts about the program, one after the other: DPst, RPure, RNd, RLaw, RAll, RRef, RPrt. -/
import Derived.Test.YtnhddnldebdmbaaDoorG7
import Derived.Test.YtnhddnldebdmbaaDoorG5
import Derived.Test.YtnhddnldebdmbaaDoorG2
/- Steps, told by rises: plain words. -/
namespace Go.Proofs.YtnhddnldebdmbaaDoor
open Go.RowKit
set_option linter.unusedVariables false
set_option linter.unusedSimpArgs false
/-- The least number above w in which the task is released more often. -/
def riseS (x : Ts) (w : Int) : Int := if w = 0 then 1 else relS x w * x.t - x.j + 1
def lF (w : Int) (s : Int × Bool) (x : Ts) : Int × Bool := if (!s.2 || decide (riseS x w < s.1)) = true then (riseS x w, true) else s
def leastP (A : List Ts) (w : Int) : Int × Bool := A.foldl (lF w) (0, false)
def stepL (A : List Ts) (m : Int) : Nat → Int → List Int
  | 0, _ => []
  | f + 1, w => if (!(leastP A w).2 || decide ((leastP A w).1 > m)) = true then [] else (leastP A w).1 :: stepL A m f (leastP A w).1
def evB (A : List Ts) (n : Int) : Bool := A.any (fun x => decide (relS x n > relS x (n - 1)))
theorem relS_is {x : Ts} {w : Int} (hx : Rel x) (h1 : 1 ≤ w) (h2 : w ≤ 1099511627776) : relS x w = ceilI (w + x.j) x.t := by
  obtain ⟨⟨t0, t1⟩, j0, j1⟩ := hx
  unfold relS oftS
  rw [if_neg (by omega), satAdd_fit (by omega), ceil_is (by omega) t0]
theorem relS_zero (x : Ts) : relS x 0 = 0 := by unfold relS; rw [if_pos rfl]
/-- A quotient from above, by its two bounds. -/
theorem ceilI_bds {a t : Int} (ht : 1 ≤ t) : a ≤ ceilI a t * t ∧ ceilI a t * t ≤ a + t - 1 := by
  unfold ceilI
  have e := Int.emod_add_mul_ediv (a + t - 1) t
  have r0 := Int.emod_nonneg (a + t - 1) (show t ≠ 0 by omega)
  have r1 := Int.emod_lt_of_pos (a + t - 1) (show 0 < t by omega)
  rw [Int.mul_comm] at e
  omega
theorem ceilI_le_of {a t c : Int} (ht : 1 ≤ t) (h : a ≤ c * t) : ceilI a t ≤ c := by
  have hb := (ceilI_bds (a := a) ht).2
  rcases Int.lt_or_le c (ceilI a t) with hc | hc
  · have : (c + 1) * t ≤ ceilI a t * t := Int.mul_le_mul_of_nonneg_right (by omega) (by omega)
    rw [Int.add_mul, Int.one_mul] at this
    omega
  · exact hc
theorem ceilI_ge_of {a t c : Int} (ht : 1 ≤ t) (h : c * t < a) : c + 1 ≤ ceilI a t := by
  have hb := (ceilI_bds (a := a) ht).1
  rcases Int.lt_or_le c (ceilI a t) with hc | hc
  · omega
  · have : ceilI a t * t ≤ c * t := Int.mul_le_mul_of_nonneg_right hc (by omega)
    omega
theorem rise_spec {x : Ts} {w : Int} (hx : Rel x) (h0 : 0 ≤ w) (h1 : w ≤ 1000000) :
    w < riseS x w ∧ riseS x w ≤ w + 2147483648 ∧ relS x (riseS x w) > relS x (riseS x w - 1) ∧ ∀ n, w < n → n < riseS x w → ¬ relS x n > relS x (n - 1) := by
  have hR := hx
  obtain ⟨⟨t0, t1⟩, j0, j1⟩ := hx
  by_cases hw : w = 0
  · subst hw
    have e : riseS x 0 = 1 := by unfold riseS; rw [if_pos rfl]
    rw [e]
    refine ⟨by omega, by omega, ?_, fun n _ _ => by omega⟩
    rw [show (1 : Int) - 1 = 0 from rfl, relS_zero, relS_is hR (by omega) (by omega)]
    have := ceilI_ge_of (a := 1 + x.j) (c := 0) t0 (by omega)
    omega
  · have hc := relS_is hR (show 1 ≤ w by omega) (by omega)
    obtain ⟨b0, b1⟩ := ceilI_bds (a := w + x.j) t0
    have e : riseS x w = ceilI (w + x.j) x.t * x.t - x.j + 1 := by unfold riseS; rw [if_neg hw, hc]
    rw [e]
    generalize hcc : ceilI (w + x.j) x.t = c at *
    refine ⟨by omega, by omega, ?_, fun n hn1 hn2 => ?_⟩
    · rw [relS_is hR (by omega) (by omega), relS_is hR (by omega) (by omega)]
      have g1 := ceilI_ge_of (a := c * x.t - x.j + 1 + x.j) (c := c) t0 (by omega)
      have g2 := ceilI_le_of (a := c * x.t - x.j + 1 - 1 + x.j) (c := c) t0 (by omega)
      omega
    · rw [relS_is hR (by omega) (by omega), relS_is hR (by omega) (by omega)]
      have g2 := ceilI_le_of (a := n + x.j) (c := c) t0 (by omega)
      have g3 := ceilI_mono (a := w + x.j) (b := n - 1 + x.j) t0 (by omega)
      omega
theorem least_fold (w : Int) : ∀ (A : List Ts) (s : Int × Bool), s.2 = true → (A.foldl (lF w) s).2 = true ∧ (A.foldl (lF w) s).1 ≤ s.1 ∧ (∀ x ∈ A, (A.foldl (lF w) s).1 ≤ riseS x w) ∧ ((A.foldl (lF w) s).1 = s.1 ∨ ∃ x ∈ A, (A.foldl (lF w) s).1 = riseS x w)
  | [], s, h => ⟨h, Int.le_refl _, by simp, .inl rfl⟩
  | a :: A, s, h => by
    have hs : (lF w s a).2 = true := by
      unfold lF
      split
      · rfl
      · exact h
    obtain ⟨r1, r2, r3, r4⟩ := least_fold w A (lF w s a) hs
    have h1 : (lF w s a).1 ≤ s.1 ∧ (lF w s a).1 ≤ riseS a w ∧ ((lF w s a).1 = s.1 ∨ (lF w s a).1 = riseS a w) := by
      unfold lF
      rw [h]
      by_cases hl : riseS a w < s.1
      · rw [if_pos (by simpa using hl)]; exact ⟨by omega, Int.le_refl _, .inr rfl⟩
      · rw [if_neg (by simpa using hl)]; exact ⟨Int.le_refl _, by omega, .inl rfl⟩
    rw [List.foldl_cons]
    refine ⟨r1, by omega, fun x hx => ?_, ?_⟩
    · rcases List.mem_cons.1 hx with rfl | hx
      · omega
      · exact r3 x hx
    · rcases r4 with r4 | ⟨x, hx, r4⟩
      · rcases h1.2.2 with h2 | h2
        · exact .inl (by omega)
        · exact .inr ⟨a, by simp, by omega⟩
      · exact .inr ⟨x, by simp [hx], r4⟩
theorem least_cons (w : Int) (a : Ts) (A : List Ts) : (leastP (a :: A) w).2 = true ∧ (∀ x ∈ a :: A, (leastP (a :: A) w).1 ≤ riseS x w) ∧ ∃ x ∈ a :: A, (leastP (a :: A) w).1 = riseS x w := by
  have e : leastP (a :: A) w = A.foldl (lF w) (riseS a w, true) := rfl
  obtain ⟨r1, r2, r3, r4⟩ := least_fold w A (riseS a w, true) rfl
  rw [e]
  refine ⟨r1, fun x hx => ?_, ?_⟩
  · rcases List.mem_cons.1 hx with rfl | hx
    · exact r2
    · exact r3 x hx
  · rcases r4 with r4 | ⟨x, hx, r4⟩
    · exact ⟨a, by simp, r4⟩
    · exact ⟨x, by simp [hx], r4⟩
theorem least_spec {a : Ts} {A : List Ts} {w : Int} (hA : ∀ x ∈ a :: A, Rel x) (h0 : 0 ≤ w) (h1 : w ≤ 1000000) :
    w < (leastP (a :: A) w).1 ∧ (leastP (a :: A) w).1 ≤ w + 2147483648 ∧ evB (a :: A) (leastP (a :: A) w).1 = true ∧ ∀ n, w < n → n < (leastP (a :: A) w).1 → evB (a :: A) n = false := by
  obtain ⟨_, r2, x, hx, r3⟩ := least_cons w a A
  obtain ⟨s1, s2, s3, _⟩ := rise_spec (hA x hx) h0 h1
  rw [r3]
  refine ⟨s1, s2, List.any_eq_true.2 ⟨x, hx, decide_eq_true s3⟩, fun n hn1 hn2 => ?_⟩
  rw [evB, List.any_eq_false]
  intro z hz
  obtain ⟨_, _, _, z4⟩ := rise_spec (hA z hz) h0 h1
  have := r2 z hz
  simpa using z4 n hn1 (by omega)
/-- The events behind w, up to m. -/
def evs (A : List Ts) (w m : Nat) : List Int := ((List.range' (w + 1) (m - w)).filter (fun k : Nat => evB A (k : Int))).map (fun k : Nat => (k : Int))
theorem stepL_evs {A : List Ts} (hA : ∀ x ∈ A, Rel x) (m : Nat) (hm : m ≤ 1000000) : ∀ (f w : Nat), w ≤ m → m - w ≤ f → stepL A (m : Int) f (w : Int) = evs A w m
  | 0, w, hw, hf => by
    rw [stepL, evs, show m - w = 0 by omega]
    rfl
  | f + 1, w, hw, hf => by
    cases A with
    | nil =>
      rw [stepL, if_pos (show (!(leastP [] (w : Int)).2 || decide ((leastP [] (w : Int)).1 > (m : Int))) = true from rfl), evs, List.filter_eq_nil_iff.2 (by simp [evB])]
      rfl
    | cons a A =>
      obtain ⟨s1, s2, s3, s4⟩ := least_spec hA (w := (w : Int)) (by omega) (by omega)
      have r1 := (least_cons (w : Int) a A).1
      rw [stepL, r1]
      by_cases hn : (leastP (a :: A) w).1 > (m : Int)
      · rw [if_pos (by simpa using hn), evs, List.filter_eq_nil_iff.2 (fun k hk => ?_)]
        · rfl
        · have hk2 := List.mem_range'_1.1 hk
          rw [s4 (k : Int) (by omega) (by omega)]
          decide
      · rw [if_neg (by simpa using hn)]
        obtain ⟨n, hnn⟩ := Int.eq_ofNat_of_zero_le (show 0 ≤ (leastP (a :: A) w).1 by omega)
        rw [hnn] at s1 s2 s3 s4 hn ⊢
        rw [stepL_evs hA m hm f n (by omega) (by omega), evs, evs]
        have e : m - w = (n - 1 - w) + (1 + (m - n)) := by omega
        have e2 : List.range' (w + 1) (m - w) = List.range' (w + 1) (n - 1 - w) ++ (n :: List.range' (n + 1) (m - n)) := by
          rw [e]
          have := @List.range'_append (w + 1) (n - 1 - w) (1 + (m - n)) 1
          rw [Nat.one_mul] at this
          rw [← this, Nat.add_comm 1 (m - n), List.range'_succ, show w + 1 + (n - 1 - w) = n by omega]
        have hnil : (List.range' (w + 1) (n - 1 - w)).filter (fun k : Nat => evB (a :: A) (k : Int)) = [] := List.filter_eq_nil_iff.2 (fun k hk => by
          have hk2 := List.mem_range'_1.1 hk
          rw [s4 (k : Int) (by omega) (by omega)]
          decide)
        rw [e2, List.filter_append, hnil, List.filter_cons, if_pos (by simpa using s3)]
        rfl
theorem stpS_evs (l : List Ts) (i : Int) (A : List Ts) : ∀ m : Nat, (∀ k : Nat, 1 ≤ k → k ≤ m → stpB l i (k : Int) = evB A (k : Int)) → stpS l i m = evs A 0 m
  | 0, _ => rfl
  | m + 1, h => by
    have ih := stpS_evs l i A m (fun k h1 h2 => h k h1 (by omega))
    have h1 := h (m + 1) (by omega) (Nat.le_refl _)
    have e : ((m + 1 : Nat) : Int) = (m : Int) + 1 := by omega
    rw [e] at h1
    rw [stpS, h1, ih, evs, evs]
    simp only [Nat.sub_zero, Nat.zero_add]
    rw [List.range'_concat, List.filter_append, List.map_append]
    simp only [Nat.one_mul]
    rw [show 1 + m = m + 1 by omega, List.filter_cons, List.filter_nil, e]
    cases evB A ((m : Int) + 1)
    · simp
    · simp
theorem sum_lt_any {l : List Ts} {f g : Ts → Int} (h : ∀ x ∈ l, f x ≤ g x) : decide ((l.map f).sum < (l.map g).sum) = l.any (fun x => decide (f x < g x)) := by
  induction l with
  | nil => simp
  | cons a l ih =>
    have ih := ih (fun x hx => h x (by simp [hx]))
    have ha := h a (by simp)
    have hs := sum_le (l := l) (f := f) (g := g) (fun x hx => h x (by simp [hx]))
    rw [List.map_cons, List.map_cons, List.sum_cons, List.sum_cons, List.any_cons, ← ih]
    by_cases h1 : f a < g a
    · rw [decide_eq_true h1, Bool.true_or, decide_eq_true_eq]; omega
    · rw [decide_eq_false h1, Bool.false_or, decide_eq_decide]; omega
/-- A task by what steps hang on. -/
def prT (x : Ts) : Ts := ⟨ByteArray.empty, 0, x.t, 0, x.j, 0, 0⟩
theorem prT_rel (x : Ts) (w : Int) : relS (prT x) w = relS x w := rfl
theorem hi_rel {ts : List Ts} (h : St ts) (p : Int) {w : Int} (h0 : 0 ≤ w) (h1 : w ≤ 1000000) : hiU p w ts = (ts.map (fun x => if x.p < p then relS x w * x.c else 0)).sum := by
  rw [h.hi h0 (by omega)]
  by_cases hw : w = 0
  · rw [if_pos hw, hw]
    have : ∀ l : List Ts, (l.map (fun x => if x.p < p then relS x 0 * x.c else 0)).sum = 0 := fun l => by
      induction l with
      | nil => rfl
      | cons a l ih =>
        rw [List.map_cons, List.sum_cons, ih, relS_zero]
        simp
    rw [this]
  · rw [if_neg hw]
    refine sum_eq fun x hx => ?_
    unfold addH
    split
    · rw [relS_is (h.vs.all x hx).rel (by omega) (by omega)]
    · rfl
theorem rel_mono {x : Ts} {w : Int} (hx : Rel x) (h1 : 1 ≤ w) (h2 : w ≤ 1000000) : relS x (w - 1) ≤ relS x w := by
  by_cases hw : w = 1
  · subst hw
    rw [show (1 : Int) - 1 = 0 from rfl, relS_zero]
    exact (relS_u hx ⟨by decide, by decide⟩).1
  · rw [relS_is hx (by omega) (by omega), relS_is hx (by omega) (by omega)]
    exact ceilI_mono hx.t.1 (by omega)
theorem stp_ev {ts : List Ts} (h : St ts) {k : Nat} {y : Ts} (hy : ts[k]? = some y) {n : Int} (h1 : 1 ≤ n) (h2 : n ≤ 1000000) :
    stpB ts (k : Int) n = evB ((ts.filter (fun x => decide (x.p < y.p))).map prT) n := by
  unfold stpB
  rw [higher_at h.chk hy, higher_at h.chk hy, hi_rel h _ (by omega) h2, hi_rel h _ (by omega) (by omega)]
  show decide (_ < _) = _
  rw [sum_lt_any (fun x hx => ?_)]
  · rw [evB, List.any_map, List.any_filter]
    have hg : ∀ x ∈ ts, (decide ((if x.p < y.p then relS x (n - 1) * x.c else 0) < (if x.p < y.p then relS x n * x.c else 0)) : Bool) = (decide (x.p < y.p) && ((fun x => decide (relS x n > relS x (n - 1))) ∘ prT) x) := fun x hx => by
      have hc : 1 ≤ x.c := (h.vs.all x hx).c0
      have hm := rel_mono (h.vs.all x hx).rel h1 h2
      show _ = (decide (x.p < y.p) && decide (relS x n > relS x (n - 1)))
      by_cases hp : x.p < y.p
      · rw [if_pos hp, if_pos hp, decide_eq_true hp, Bool.true_and, decide_eq_decide]
        refine ⟨fun hl => ?_, fun hl => Int.mul_lt_mul_of_pos_right hl (by omega)⟩
        rcases Int.lt_or_le (relS x (n - 1)) (relS x n) with h9 | h9
        · exact h9
        · have := Int.mul_le_mul_of_nonneg_right h9 (show 0 ≤ x.c by omega)
          omega
      · rw [if_neg hp, if_neg hp, decide_eq_false hp]
        simp
    have : ∀ l : List Ts, (∀ x ∈ l, x ∈ ts) → l.any (fun x => decide ((if x.p < y.p then relS x (n - 1) * x.c else 0) < (if x.p < y.p then relS x n * x.c else 0))) = l.any (fun x => decide (x.p < y.p) && ((fun x => decide (relS x n > relS x (n - 1))) ∘ prT) x) := fun l hl => by
      induction l with
      | nil => rfl
      | cons a l ih =>
        rw [List.any_cons, List.any_cons, hg a (hl a (by simp)), ih (fun x hx => hl x (by simp [hx]))]
    exact this ts (fun x hx => hx)
  · have hc : 1 ≤ x.c := (h.vs.all x hx).c0
    have hm := rel_mono (h.vs.all x hx).rel h1 h2
    split
    · exact Int.mul_le_mul_of_nonneg_right hm (by omega)
    · omega
/-- What Steps holds on to. -/
def aheadS (l : List Ts) (i : Int) : List Ts := if isB l i then (l.filter (fun x => decide (x.p < pOf l i))).map prT else []
theorem ahead_rel {l : List Ts} {i : Int} : ∀ x ∈ aheadS l i, Rel x := by
  unfold aheadS
  split
  · rename_i h
    intro x hx
    obtain ⟨z, hz, rfl⟩ := List.mem_map.1 hx
    have := (isB_vs h).all z (List.mem_filter.1 hz).1
    exact ⟨⟨this.t0, this.t1⟩, this.j0, this.j1⟩
  · intro x hx; cases hx
theorem steps_same {ts : List Ts} (h : St ts) (i : Int) (m : Nat) (hm : m ≤ 4000) : stepL (aheadS ts i) (m : Int) 4096 0 = stpS ts i m := by
  have e := stepL_evs (ahead_rel (l := ts) (i := i)) m (by omega) 4096 0 (by omega) (by omega)
  rw [show ((0 : Nat) : Int) = 0 from rfl] at e
  rw [e]
  symm
  refine stpS_evs ts i _ m fun k h1 h2 => ?_
  cases hb : isB ts i
  · have : aheadS ts i = [] := by unfold aheadS; rw [hb]; rfl
    rw [this]
    unfold stpB higherI
    rw [hb]
    rfl
  · obtain ⟨ki, y, rfl, hki, hy⟩ := isB_get hb
    have : aheadS ts (ki : Int) = (ts.filter (fun x => decide (x.p < y.p))).map prT := by unfold aheadS; rw [hb, if_pos rfl, (pOf_get hy).1]
    rw [this]
    exact stp_ev h hy (by omega) (by omega)
end Go.Proofs.YtnhddnldebdmbaaDoor
/- The reckoning, of any numbers that rise: plain words. -/
namespace Go.Proofs.YtnhddnldebdmbaaDoor
set_option linter.unusedVariables false
set_option linter.unusedSimpArgs false
/-- What is asked of Need. -/
structure Rises (N : Int → Int) : Prop where
  mono : ∀ {w w' : Int}, 0 ≤ w → w ≤ w' → N w ≤ N w'
  pos : ∀ {w : Int}, 0 ≤ w → 1 ≤ N w
/-- The numbers of the reckoning. -/
def rkF (N : Int → Int) : Nat → Int
  | 0 => N 0
  | n + 1 => N (rkF N n)
section
variable {N : Int → Int}
theorem rk_pos (h : Rises N) : ∀ n, 1 ≤ rkF N n
  | 0 => h.pos (Int.le_refl _)
  | n + 1 => h.pos (by have := rk_pos h n; omega)
theorem rk_le (h : Rises N) {w : Int} (h1 : 0 ≤ w) (he : N w ≤ w) : ∀ n, rkF N n ≤ w
  | 0 => Int.le_trans (h.mono (Int.le_refl _) h1) he
  | n + 1 => Int.le_trans (h.mono (by have := rk_pos h n; omega) (rk_le h h1 he n)) he
theorem rk_mono (h : Rises N) : ∀ n, rkF N n ≤ rkF N (n + 1)
  | 0 => h.mono (Int.le_refl _) (Int.le_trans (by decide) (rk_pos h 0))
  | n + 1 => h.mono (by have := rk_pos h n; omega) (rk_mono h n)
/-- The least number that is enough, up to so many. -/
def leastF (N : Int → Int) (M : Nat) : Option Nat := ((List.range M).find? fun w : Nat => decide (N ((w : Int) + 1) ≤ (w : Int) + 1)).map (· + 1)
theorem leastF_some {M w : Nat} (h : leastF N M = some w) : 1 ≤ w ∧ w ≤ M ∧ N w ≤ w ∧ ∀ v : Nat, 1 ≤ v → v < w → (v : Int) < N v := by
  unfold leastF at h
  obtain ⟨u, hu, rfl⟩ := Option.map_eq_some_iff.1 h
  have h1 := List.find?_some hu
  have h2 := List.mem_range.1 (List.mem_of_find?_eq_some hu)
  simp only [decide_eq_true_eq] at h1
  refine ⟨by omega, by omega, by rw [show ((u + 1 : Nat) : Int) = (u : Int) + 1 by omega]; exact h1, fun v hv1 hv2 => ?_⟩
  rw [List.find?_eq_some_iff_getElem] at hu
  obtain ⟨_, k, hk, hke, hlt⟩ := hu
  simp only [List.getElem_range] at hke
  have := hlt (v - 1) (by omega)
  simp only [List.getElem_range, Bool.not_eq_true', decide_eq_false_iff_not] at this
  rw [show ((v - 1 : Nat) : Int) + 1 = (v : Int) by omega] at this
  omega
theorem leastF_none {M : Nat} (h : leastF N M = none) : ∀ v : Nat, 1 ≤ v → v ≤ M → (v : Int) < N v := by
  unfold leastF at h
  rw [Option.map_eq_none_iff, List.find?_eq_none] at h
  intro v h1 h2
  have := h (v - 1) (List.mem_range.2 (by omega))
  simp only [decide_eq_true_eq] at this
  rw [show ((v - 1 : Nat) : Int) + 1 = (v : Int) by omega] at this
  omega
theorem leastF_is {M w : Nat} (h1 : 1 ≤ w) (h2 : w ≤ M) (h3 : N w ≤ w) (h4 : ∀ v : Nat, 1 ≤ v → v < w → (v : Int) < N v) : leastF N M = some w := by
  cases hl : leastF N M with
  | none => have := leastF_none hl w h1 h2; omega
  | some u =>
    obtain ⟨a1, a2, a3, a4⟩ := leastF_some hl
    congr 1
    rcases Nat.lt_trichotomy u w with h | h | h
    · have := h4 u a1 h; omega
    · exact h
    · have := a4 w h1 h; omega
theorem leastF_not {M : Nat} (h : ∀ v : Nat, 1 ≤ v → v ≤ M → (v : Int) < N v) : leastF N M = none := by
  cases hl : leastF N M with
  | none => rfl
  | some u =>
    obtain ⟨a1, a2, a3, a4⟩ := leastF_some hl
    have := h u a1 a2
    omega
/-- What is told one by one: from w on. -/
def eachF (N : Int → Int) (M : Int) : Nat → Int → List Int
  | 0, w => [w]
  | f + 1, w => if w > M ∨ N w = w then [w] else w :: eachF N M f (N w)
theorem eachF_ne (M : Int) : ∀ (f : Nat) (w : Int), eachF N M f w ≠ []
  | 0, w => by simp [eachF]
  | f + 1, w => by
    rw [eachF]
    split <;> simp
/-- The last number, behind so many: it is too great, or at rest. -/
theorem eachF_last (h : Rises N) (M : Int) : ∀ (f n : Nat), (M - rkF N n) < (f : Int) → 0 ≤ M →
    ∃ m, n ≤ m ∧ (eachF N M f (rkF N n)).getLast? = some (rkF N m) ∧ (rkF N m > M ∨ rkF N (m + 1) = rkF N m)
  | 0, n, hf, _ => ⟨n, Nat.le_refl _, by simp [eachF], .inl (by omega)⟩
  | f + 1, n, hf, hM => by
    rw [eachF]
    split
    · rename_i hc
      exact ⟨n, Nat.le_refl _, by simp, hc⟩
    · rename_i hc
      have h1 := rk_mono h n
      have h2 : rkF N (n + 1) = N (rkF N n) := rfl
      have h3 : rkF N (n + 1) ≠ rkF N n := fun e => hc (.inr (by rw [← h2]; exact e))
      obtain ⟨m, a1, a2, a3⟩ := eachF_last h M f (n + 1) (by omega) hM
      refine ⟨m, by omega, ?_, a3⟩
      rw [List.getLast?_cons, ← h2]
      rw [a2]
      rfl
/-- Where it stops it tells the least number. -/
theorem stop_least (h : Rises N) {M m : Nat} : (rkF N m > (M : Int) → leastF N M = none) ∧ (rkF N m ≤ (M : Int) → rkF N (m + 1) = rkF N m → leastF N M = some (rkF N m).toNat) := by
  have hp := rk_pos h m
  refine ⟨fun hg => leastF_not fun v h1 h2 => ?_, fun hl he => ?_⟩
  · rcases Int.lt_or_le (v : Int) (N v) with h3 | h3
    · exact h3
    · have := rk_le h (show (0 : Int) ≤ (v : Int) by omega) h3 m; omega
  · have e : (((rkF N m).toNat : Nat) : Int) = rkF N m := by omega
    have e2 : N (rkF N m) = rkF N m := he
    refine leastF_is (by omega) (by omega) (by rw [e, e2]; exact Int.le_refl _) fun v h1 h2 => ?_
    rcases Int.lt_or_le (v : Int) (N v) with h3 | h3
    · exact h3
    · have := rk_le h (show (0 : Int) ≤ (v : Int) by omega) h3 m; omega
/-- The last number tells the bound. -/
theorem last_least (h : Rises N) (M : Nat) {z : Int} (hz : (eachF N M (M + 1) (N 0)).getLast? = some z) : (z > (M : Int) ∧ leastF N M = none) ∨ (z ≤ (M : Int) ∧ leastF N M = some z.toNat ∧ N z = z ∧ 1 ≤ z) := by
  have hp := rk_pos h 0
  obtain ⟨m, _, a2, a3⟩ := eachF_last h (M : Int) (M + 1) 0 (by omega) (by omega)
  rw [show rkF N 0 = N 0 from rfl, hz] at a2
  obtain rfl := Option.some.inj a2
  have hpm := rk_pos h m
  rcases Int.lt_or_le (M : Int) (rkF N m) with hg | hg
  · exact .inl ⟨hg, (stop_least h).1 hg⟩
  · rcases a3 with a3 | a3
    · omega
    · exact .inr ⟨hg, (stop_least h).2 hg a3, a3, hpm⟩
/-- A larger fuel changes nothing. -/
theorem eachF_fuel (h : Rises N) (M : Int) (hM : 0 ≤ M) : ∀ (f f' n : Nat), (M - rkF N n) < (f : Int) → f ≤ f' → eachF N M f' (rkF N n) = eachF N M f (rkF N n)
  | 0, 0, n, _, _ => rfl
  | 0, f' + 1, n, hf, _ => by
    show (if rkF N n > M ∨ N (rkF N n) = rkF N n then [rkF N n] else rkF N n :: eachF N M f' (N (rkF N n))) = [rkF N n]
    rw [if_pos (.inl (by omega))]
  | f + 1, 0, n, _, hff => by omega
  | f + 1, f' + 1, n, hf, hff => by
    rw [eachF, eachF]
    split
    · rfl
    · rename_i hc
      have h1 := rk_mono h n
      have h2 : rkF N (n + 1) = N (rkF N n) := rfl
      have h3 : rkF N (n + 1) ≠ rkF N n := fun e => hc (.inr (by rw [← h2]; exact e))
      rw [← h2, eachF_fuel h M hM f f' (n + 1) (by omega) (by omega)]
/-- One that needs no more has no greater bound. -/
theorem least_eases {N' : Int → Int} {M M' w : Nat} (hN : ∀ v : Nat, 1 ≤ v → v ≤ M → N' v ≤ N v) (hM : M ≤ M') (hl : leastF N M = some w) : ∃ w', w' ≤ w ∧ leastF N' M' = some w' := by
  obtain ⟨h1, h2, h3, _⟩ := leastF_some hl
  have h4 := hN w h1 h2
  cases hl' : leastF N' M' with
  | none => have := leastF_none hl' w h1 (by omega); omega
  | some w' =>
    obtain ⟨a1, a2, a3, a4⟩ := leastF_some hl'
    refine ⟨w', ?_, rfl⟩
    rcases Nat.lt_or_ge w w' with h5 | h5
    · have := a4 w h1 h5; omega
    · exact h5
/-- With numbers so many times as great the bound is so many times as great. -/
theorem least_scale {N' : Int → Int} (h : Rises N) (h' : Rises N') {M k : Nat} (hk : 1 ≤ k) (h0 : N' 0 = N 0 * k) (hN : ∀ w : Int, 1 ≤ w → w ≤ M → N' (w * k) = N w * k) : leastF N' (M * k) = (leastF N M).map (· * k) := by
  have hkk : (1 : Int) ≤ (k : Int) := by omega
  have rk : ∀ n, (∀ m, m < n → rkF N m ≤ M) → rkF N' n = rkF N n * k := by
    intro n
    induction n with
    | zero => intro _; exact h0
    | succ n ih =>
      intro hm
      have e := ih (fun m hm' => hm m (by omega))
      show N' (rkF N' n) = N (rkF N n) * k
      rw [e]
      exact hN _ (rk_pos h n) (hm n (by omega))
  obtain ⟨m, _, a2, a3⟩ := eachF_last h (M : Int) (M + 1) 0 (by have := rk_pos h 0; omega) (by omega)
  -- the first that stops
  have key : ∃ m, (∀ u, u < m → rkF N u ≤ M) ∧ (rkF N m > M ∨ rkF N (m + 1) = rkF N m) := by
    by_cases hb : ∃ u, u ≤ m ∧ rkF N u > M
    · have : ∀ b : Nat, (∃ u, u ≤ b ∧ rkF N u > M) → ∃ m, (∀ u, u < m → rkF N u ≤ M) ∧ rkF N m > M := by
        intro b
        induction b with
        | zero =>
          rintro ⟨u, hu, hg⟩
          obtain rfl : u = 0 := by omega
          exact ⟨0, fun u hu => by omega, hg⟩
        | succ b ih =>
          rintro ⟨u, hu, hg⟩
          by_cases hx : ∃ u, u ≤ b ∧ rkF N u > M
          · exact ih hx
          · refine ⟨u, fun v hv => ?_, hg⟩
            rcases Int.lt_or_le (M : Int) (rkF N v) with h9 | h9
            · exact absurd ⟨v, by omega, h9⟩ hx
            · exact h9
      obtain ⟨m', b1, b2⟩ := this m hb
      exact ⟨m', b1, .inl b2⟩
    · refine ⟨m, fun u hu => ?_, a3⟩
      rcases Int.lt_or_le (M : Int) (rkF N u) with h9 | h9
      · exact absurd ⟨u, by omega, h9⟩ hb
      · exact h9
  obtain ⟨m, b1, b2⟩ := key
  have em := rk m b1
  have hpm := rk_pos h m
  rcases Int.lt_or_le (M : Int) (rkF N m) with hg | hg
  · rw [(stop_least h).1 hg]
    refine (stop_least h' (m := m)).1 ?_
    rw [em, Int.natCast_mul]
    exact Int.mul_lt_mul_of_pos_right hg (by omega)
  · rcases b2 with b2 | b2
    · omega
    · have em1 := rk (m + 1) (fun u hu => by
        rcases Nat.lt_or_ge u m with h9 | h9
        · exact b1 u h9
        · obtain rfl : u = m := by omega
          exact hg)
      rw [(stop_least h).2 hg b2]
      have hle : rkF N' m ≤ ((M * k : Nat) : Int) := by rw [em, Int.natCast_mul]; exact Int.mul_le_mul_of_nonneg_right hg (by omega)
      rw [(stop_least h').2 hle (by rw [em1, em, b2]), em]
      show some _ = some ((rkF N m).toNat * k)
      congr 1
      have e1 : (((rkF N m).toNat : Nat) : Int) = rkF N m := by omega
      have h9 : 0 ≤ rkF N m * (k : Int) := Int.mul_nonneg (by omega) (by omega)
      have e2 : (((rkF N m * (k : Int)).toNat : Nat) : Int) = rkF N m * k := by omega
      have e3 : (((rkF N m).toNat * k : Nat) : Int) = rkF N m * k := by rw [Int.natCast_mul, e1]
      omega
end
end Go.Proofs.YtnhddnldebdmbaaDoor
/- Need rises; bounds: plain words. -/
namespace Go.Proofs.YtnhddnldebdmbaaDoor
set_option linter.unusedVariables false
set_option linter.unusedSimpArgs false
theorem satAdd_mono {a a' b b' : Int} (h1 : a ≤ a') (h2 : b ≤ b') : satAdd a b ≤ satAdd a' b' := by
  unfold satAdd
  split <;> split <;> omega
theorem satAdd_ge {a b : Int} (ha : a ≤ 18446744073709551615) (hb : 0 ≤ b) : a ≤ satAdd a b := by
  unfold satAdd
  split <;> omega
theorem satMul_mono {a a' c : Int} (h : a ≤ a') (hc : 0 ≤ c) : satMul a c ≤ satMul a' c := by
  have hm : a * c ≤ a' * c := Int.mul_le_mul_of_nonneg_right h hc
  unfold satMul endN mulB mulN
  generalize a * c = x at *
  generalize a' * c = y at *
  by_cases h1 : y ≤ 18446744073709551615
  · rw [decide_eq_true h1, decide_eq_true (show x ≤ 18446744073709551615 by omega), if_pos rfl, if_pos rfl, if_pos h1, if_pos (by omega)]
    exact hm
  · rw [decide_eq_false h1, if_neg (by decide : ¬ (false = true))]
    by_cases h2 : x ≤ 18446744073709551615
    · rw [decide_eq_true h2, if_pos rfl, if_pos h2]; exact h2
    · rw [decide_eq_false h2, if_neg (by decide : ¬ (false = true))]; exact Int.le_refl _
theorem oft_mono {x : Ts} {w w' : Int} (hx : TsOk x) (h0 : 0 ≤ w) (h : w ≤ w') : oftS x w ≤ oftS x w' := by
  have j0 := hx.j0
  unfold oftS
  have h1 := satAdd_u (a := w) (b := x.j) h0 j0
  have h2 := satAdd_u (a := w') (b := x.j) (by omega) j0
  rw [ceil_is h1.1 hx.t0, ceil_is h2.1 hx.t0]
  exact ceilI_mono hx.t0 (satAdd_mono h (Int.le_refl _))
theorem foldl_hi_mono {p w w' : Int} (h0 : 0 ≤ w) (h : w ≤ w') : ∀ (l : List Ts) (s s' : Int), (∀ x ∈ l, TsOk x) → s ≤ s' → l.foldl (hiUF p w) s ≤ l.foldl (hiUF p w') s'
  | [], s, s', _, hs => hs
  | x :: l, s, s', hl, hs => by
    refine foldl_hi_mono h0 h l _ _ (fun y hy => hl y (by simp [hy])) ?_
    unfold hiUF
    split
    · exact satAdd_mono hs (satMul_mono (oft_mono (hl x (by simp)) h0 h) (by have := (hl x (by simp)).c0; omega))
    · exact hs
theorem foldl_hi_pos {p w : Int} (hw : 0 ≤ w) : ∀ (l : List Ts) (s : Int), (∀ x ∈ l, TsOk x) → 0 ≤ s → 0 ≤ l.foldl (hiUF p w) s
  | [], s, _, hs => hs
  | x :: l, s, hl, hs => by
    refine foldl_hi_pos hw l _ (fun y hy => hl y (by simp [hy])) ?_
    have hx := hl x (by simp)
    unfold hiUF
    split
    · refine (satAdd_u hs (satMul_u ?_ (by have := hx.c0; omega)).1).1
      have h1 := satAdd_u (a := w) (b := x.j) hw hx.j0
      unfold oftS
      rw [ceil_is h1.1 hx.t0]
      exact ceilI_nonneg h1.1 hx.t0
    · exact hs
theorem hiU_mono {p w w' : Int} {l : List Ts} (hv : Vs l) (h0 : 0 ≤ w) (h : w ≤ w') : hiU p w l ≤ hiU p w' l := by
  unfold hiU
  by_cases h1 : w' = 0
  · rw [if_pos h1, if_pos (by omega)]; exact Int.le_refl _
  · rw [if_neg h1]
    split
    · exact foldl_hi_pos (by omega) l 0 hv.all (Int.le_refl _)
    · exact foldl_hi_mono h0 h l 0 0 hv.all (Int.le_refl _)
theorem hiU_nonneg {p w : Int} {l : List Ts} (hv : Vs l) (h0 : 0 ≤ w) : 0 ≤ hiU p w l := by
  unfold hiU
  split
  · exact Int.le_refl _
  · exact foldl_hi_pos h0 l 0 hv.all (Int.le_refl _)
/-- Need is asked as the reckoning wants. -/
theorem need_rises {l : List Ts} {i : Int} (hb : isB l i = true) : Rises (needI l i) := by
  have hv := isB_vs hb
  obtain ⟨k, y, rfl, hk, hy⟩ := isB_get hb
  have hok := hv.all y (List.mem_of_getElem? hy)
  have hc0 := hok.c0
  have hc1 := hok.c1
  have hbb := blockI_bd l (k : Int)
  have e : ∀ w, needI l (k : Int) w = satAdd (satAdd (satAdd 0 y.c) (blockI l k)) (hiU y.p w l) := fun w => by
    have : needI l (k : Int) w = satSum 0 [y.c, blockI l k, higherI l k w] := by unfold needI; rw [hb, if_pos rfl, (pOf_get hy).2]
    rw [this, show higherI l (k : Int) w = hiU y.p w l by unfold higherI; rw [hb, if_pos rfl, (pOf_get hy).1]]
    rfl
  refine ⟨fun {w w'} h0 h => ?_, fun {w} h0 => ?_⟩
  · rw [e, e]
    exact satAdd_mono (Int.le_refl _) (hiU_mono hv h0 h)
  · rw [e]
    have h1 := hiU_nonneg (p := y.p) hv h0
    have h2 : satAdd 0 y.c = y.c := by unfold satAdd; rw [if_pos (by omega)]; omega
    have h3 : satAdd y.c (blockI l k) = y.c + blockI l k := by unfold satAdd; rw [if_pos (by omega)]
    rw [h2, h3]
    have := satAdd_ge (a := y.c + blockI l k) (b := hiU y.p w l) (by omega) h1
    omega
/-- What a task that may be holds besides. -/
structure TsD (x : Ts) : Prop where
  d0 : 1 ≤ x.d
  d1 : x.d ≤ 2147483647
  cj : x.c + x.j ≤ x.d
  dt : x.d ≤ x.t
  qc : x.q ≤ x.c
theorem tsD_of {x : Ts} (h : checkE x = 0) : TsD x := by
  have hr : rangedB x = true ∧ overB x = false := by
    by_cases h1 : (namedB x && rangedB x) = true
    · rw [checkE, if_pos h1] at h
      simp only [Bool.and_eq_true] at h1
      refine ⟨h1.2, ?_⟩
      cases ho : overB x
      · rfl
      · rw [ho] at h; simp at h
    · rw [checkE, if_neg h1] at h; omega
  obtain ⟨-, -, ⟨d1, d2⟩, -, -, -⟩ := rangedB_parts hr.1
  have ho := hr.2
  simp only [overB, decide_eq_false_iff_not] at ho
  exact ⟨d1, d2, by omega, by omega, by omega⟩
theorem chk_d {ts : List Ts} (h : (chkAll ts).2 = 0) : ∀ x ∈ ts, TsD x := by
  rw [chkAll] at h
  split at h
  · cases h
  · exact fun x hx => tsD_of (chkFrom_ok ts [] h x hx)
def dOf (l : List Ts) (i : Int) : Int := (l.getD i.toNat ⟨ByteArray.empty, 1, 1, 1, 0, 1, 1⟩).d
def jOf (l : List Ts) (i : Int) : Int := (l.getD i.toNat ⟨ByteArray.empty, 1, 1, 1, 0, 1, 1⟩).j
def mOf (l : List Ts) (i : Int) : Nat := (dOf l i - jOf l i).toNat
theorem dOf_get {l : List Ts} {k : Nat} {y : Ts} (h : l[k]? = some y) : dOf l (k : Int) = y.d ∧ jOf l (k : Int) = y.j := by
  unfold dOf jOf
  rw [Int.toNat_natCast, List.getD_eq_getElem?_getD, h]
  exact ⟨rfl, rfl⟩
theorem mOf_get {l : List Ts} {k : Nat} {y : Ts} (hc : (chkAll l).2 = 0) (h : l[k]? = some y) : ((mOf l (k : Int) : Nat) : Int) = y.d - y.j ∧ 1 ≤ mOf l (k : Int) ∧ mOf l (k : Int) ≤ 2147483647 := by
  have hd := chk_d hc y (List.mem_of_getElem? h)
  have hv := (vs_of hc).all y (List.mem_of_getElem? h)
  have := hd.cj; have := hd.d1; have := hv.c0; have := hv.j0
  unfold mOf
  rw [(dOf_get h).1, (dOf_get h).2]
  omega
def bndOf (j : Int) : Option Nat → Int × Int
  | some w => ((w : Int) + j, 0)
  | none => (0, 16)
/-- The bound, and its error. -/
def boundI (l : List Ts) (i : Int) : Int × Int := if isB l i then bndOf (jOf l i) (leastF (needI l i) (mOf l i)) else (0, 1)
/-- The numbers of the reckoning, as they are told. -/
def eachI (l : List Ts) (i : Int) : List Int := if isB l i then eachF (needI l i) (mOf l i) (mOf l i + 1) (needI l i 0) else []
theorem boundI_bd (l : List Ts) (i : Int) : 0 ≤ (boundI l i).1 ∧ (boundI l i).1 ≤ 4294967294 ∧ ((boundI l i).2 = 0 ∨ (boundI l i).2 = 1 ∨ (boundI l i).2 = 16) := by
  unfold boundI
  split
  · rename_i hb
    obtain ⟨k, y, rfl, hk, hy⟩ := isB_get hb
    have hm := mOf_get (isB_iff hb).1 hy
    have hj := (isB_vs hb).all y (List.mem_of_getElem? hy)
    have := hj.j0; have := hj.j1
    cases hl : leastF (needI l (k : Int)) (mOf l (k : Int)) with
    | none =>
      show (0 : Int) ≤ 0 ∧ (0 : Int) ≤ 4294967294 ∧ ((16 : Int) = 0 ∨ (16 : Int) = 1 ∨ (16 : Int) = 16)
      omega
    | some w =>
      obtain ⟨a1, a2, _, _⟩ := leastF_some hl
      show 0 ≤ (w : Int) + jOf l k ∧ (w : Int) + jOf l k ≤ 4294967294 ∧ ((0 : Int) = 0 ∨ (0 : Int) = 1 ∨ (0 : Int) = 16)
      rw [(dOf_get hy).2]
      omega
  · exact ⟨by decide, by decide, .inr (.inl rfl)⟩
end Go.Proofs.YtnhddnldebdmbaaDoor
/- What the laws ask of bounds: plain words. -/
namespace Go.Proofs.YtnhddnldebdmbaaDoor
set_option linter.unusedVariables false
set_option linter.unusedSimpArgs false
/-- The least number that is enough is just what is needed. -/
theorem leastF_fix {N : Int → Int} (h : Rises N) {M w : Nat} (hl : leastF N M = some w) : N w = w := by
  obtain ⟨a1, a2, a3, a4⟩ := leastF_some hl
  by_cases h1 : w = 1
  · subst h1
    have := h.pos (w := ((1 : Nat) : Int)) (by omega)
    omega
  · have b1 := a4 (w - 1) (by omega) (by omega)
    have b2 := h.mono (w := ((w - 1 : Nat) : Int)) (w' := (w : Int)) (by omega) (by omega)
    omega
theorem bound_at {l : List Ts} {k : Nat} {y : Ts} (hc : (chkAll l).2 = 0) (hy : l[k]? = some y) : boundI l (k : Int) = bndOf y.j (leastF (needI l (k : Int)) (mOf l (k : Int))) := by
  unfold boundI
  rw [isB_at hc hy, if_pos rfl, (dOf_get hy).2]
/-- What RtaLeast asks. -/
theorem least_pure {l : List Ts} {k : Nat} {y : Ts} (hc : (chkAll l).2 = 0) (hy : l[k]? = some y) :
    ((boundI l (k : Int)).2 = 0 ∧ 1 ≤ (boundI l (k : Int)).1 - y.j ∧ (boundI l (k : Int)).1 - y.j ≤ y.d - y.j ∧ needI l (k : Int) ((boundI l (k : Int)).1 - y.j) = (boundI l (k : Int)).1 - y.j ∧ ∀ v : Int, 1 ≤ v → v < (boundI l (k : Int)).1 - y.j → v < needI l (k : Int) v) ∨
    ((boundI l (k : Int)).2 = 16 ∧ (boundI l (k : Int)).1 = 0 ∧ ∀ v : Int, 1 ≤ v → v ≤ y.d - y.j → v < needI l (k : Int) v) := by
  have hr := need_rises (isB_at hc hy)
  have hm := mOf_get hc hy
  rw [bound_at hc hy]
  cases hl : leastF (needI l (k : Int)) (mOf l (k : Int)) with
  | none =>
    right
    refine ⟨rfl, rfl, fun v h1 h2 => ?_⟩
    have := leastF_none hl v.toNat (by omega) (by omega)
    rwa [show ((v.toNat : Nat) : Int) = v by omega] at this
  | some w =>
    left
    obtain ⟨a1, a2, a3, a4⟩ := leastF_some hl
    have hf := leastF_fix hr hl
    have e : (bndOf y.j (some w)).1 - y.j = (w : Int) := by show (w : Int) + y.j - y.j = w; omega
    refine ⟨rfl, by rw [e]; omega, by rw [e]; omega, by rw [e]; exact hf, fun v h1 h2 => ?_⟩
    rw [e] at h2
    have := a4 v.toNat (by omega) (by omega)
    rwa [show ((v.toNat : Nat) : Int) = v by omega] at this
/-! ### One set that is no harder than another one -/
structure Eas1 (x' x : Ts) : Prop where
  p : x'.p = x.p
  c : x'.c ≤ x.c
  q : x'.q ≤ x.q
  j : x'.j ≤ x.j
  t : x.t ≤ x'.t
theorem Eas1.refl (x : Ts) : Eas1 x x := ⟨rfl, Int.le_refl _, Int.le_refl _, Int.le_refl _, Int.le_refl _⟩
inductive Easy : List Ts → List Ts → Prop
  | nil : Easy [] []
  | cons {x' x : Ts} {l' l : List Ts} : Eas1 x' x → Easy l' l → Easy (x' :: l') (x :: l)
theorem Easy.refl : ∀ l : List Ts, Easy l l
  | [] => .nil
  | x :: l => .cons (Eas1.refl x) (Easy.refl l)
theorem Easy.set {x' x : Ts} (h : Eas1 x' x) : ∀ (l : List Ts) (i : Nat), l[i]? = some x → Easy (l.set i x') l
  | [], i, hi => by simp at hi
  | y :: l, 0, hi => by
    have : y = x := by simpa using hi
    subst this
    exact .cons h (Easy.refl l)
  | y :: l, i + 1, hi => .cons (Eas1.refl y) (Easy.set h l i (by simpa using hi))
theorem ceilI_anti {a t t' : Int} (ha : 0 ≤ a) (ht : 1 ≤ t) (htt : t ≤ t') : ceilI a t' ≤ ceilI a t := by
  have hb := (ceilI_bds (a := a) ht).1
  have h0 := ceilI_nonneg ha ht
  have := Int.mul_le_mul_of_nonneg_left htt h0
  exact ceilI_le_of (by omega) (by omega)
theorem oft_easy {x' x : Ts} (h : Eas1 x' x) (hx : TsOk x) (hx' : TsOk x') {w : Int} (h0 : 0 ≤ w) : oftS x' w ≤ oftS x w := by
  unfold oftS
  have h1 := satAdd_u (a := w) (b := x'.j) h0 hx'.j0
  have h2 := satAdd_u (a := w) (b := x.j) h0 hx.j0
  rw [ceil_is h1.1 hx'.t0, ceil_is h2.1 hx.t0]
  exact Int.le_trans (ceilI_mono hx'.t0 (satAdd_mono (Int.le_refl _) h.j)) (ceilI_anti h2.1 hx.t0 h.t)
theorem satMul_mono2 {a a' c c' : Int} (h : a ≤ a') (hc : c ≤ c') (h0 : 0 ≤ a') (h1 : 0 ≤ c) : satMul a c ≤ satMul a' c' :=
  Int.le_trans (satMul_mono h h1) (by rw [satMul_comm a' c, satMul_comm a' c']; exact satMul_mono hc h0)
theorem hi_easy {p w : Int} (h0 : 0 ≤ w) {l' l : List Ts} (h : Easy l' l) : ∀ (s' s : Int), (∀ x ∈ l, TsOk x) → (∀ x ∈ l', TsOk x) → s' ≤ s → l'.foldl (hiUF p w) s' ≤ l.foldl (hiUF p w) s := by
  induction h with
  | nil => intro s' s _ _ hs; exact hs
  | @cons x' x l' l h hl ih =>
    intro s' s hv hv' hs
    have hx := hv x (by simp)
    have hx' := hv' x' (by simp)
    refine ih _ _ (fun y hy => hv y (by simp [hy])) (fun y hy => hv' y (by simp [hy])) ?_
    unfold hiUF
    rw [h.p]
    split
    · have h2 := satAdd_u (a := w) (b := x.j) h0 hx.j0
      refine satAdd_mono hs (satMul_mono2 (oft_easy h hx hx' h0) h.c ?_ (by have := hx'.c0; omega))
      unfold oftS
      rw [ceil_is h2.1 hx.t0]
      exact ceilI_nonneg h2.1 hx.t0
    · exact hs
theorem blk_easy {p : Int} {l' l : List Ts} (h : Easy l' l) : ∀ (s' s : Int), s' ≤ s → l'.foldl (blkUF p) s' ≤ l.foldl (blkUF p) s := by
  induction h with
  | nil => intro s' s hs; exact hs
  | @cons x' x l' l h hl ih =>
    intro s' s hs
    refine ih _ _ ?_
    unfold blkUF
    rw [h.p]
    have := h.q
    split <;> omega
theorem need_form {l : List Ts} {k : Nat} {y : Ts} (hc : (chkAll l).2 = 0) (hy : l[k]? = some y) (w : Int) : needI l (k : Int) w = satAdd (satAdd (satAdd 0 y.c) (blkU y.p l)) (hiU y.p w l) := by
  rw [need_at hc hy]
  rfl
theorem need_easy {l' l : List Ts} (h : Easy l' l) (hc : (chkAll l).2 = 0) (hc' : (chkAll l').2 = 0) {k : Nat} {y' y : Ts} (hy : l[k]? = some y) (hy' : l'[k]? = some y') (he : Eas1 y' y) {w : Int} (h1 : 1 ≤ w) : needI l' (k : Int) w ≤ needI l (k : Int) w := by
  rw [need_form hc hy, need_form hc' hy', he.p]
  refine satAdd_mono (satAdd_mono (satAdd_mono (Int.le_refl _) he.c) ?_) ?_
  · exact blk_easy h 0 0 (Int.le_refl _)
  · unfold hiU
    rw [if_neg (by omega), if_neg (by omega)]
    exact hi_easy (by omega) h 0 0 (vs_of hc).all (vs_of hc').all (Int.le_refl _)
/-- What RtaEases asks of each task. -/
theorem bound_easy {l' l : List Ts} (h : Easy l' l) (hc : (chkAll l).2 = 0) (hc' : (chkAll l').2 = 0) {k : Nat} {y' y : Ts} (hy : l[k]? = some y) (hy' : l'[k]? = some y') (he : Eas1 y' y) (hd : y.d ≤ y'.d) (h0 : 0 < (boundI l (k : Int)).1) :
    0 < (boundI l' (k : Int)).1 ∧ (boundI l' (k : Int)).1 ≤ (boundI l (k : Int)).1 := by
  have hm := mOf_get hc hy
  have hm' := mOf_get hc' hy'
  have hj' := ((vs_of hc').all y' (List.mem_of_getElem? hy')).j0
  rw [bound_at hc hy] at h0 ⊢
  rw [bound_at hc' hy']
  cases hl : leastF (needI l (k : Int)) (mOf l (k : Int)) with
  | none => rw [hl] at h0; exact absurd h0 (by show ¬ (0 : Int) < 0; omega)
  | some w =>
    obtain ⟨w', a1, a2⟩ := least_eases (N' := needI l' (k : Int)) (M' := mOf l' (k : Int)) (fun v h1 _ => need_easy h hc hc' hy hy' he (w := (v : Int)) (by omega)) (by have := he.j; omega) hl
    obtain ⟨b1, _⟩ := leastF_some a2
    rw [a2]
    have := he.j
    show 0 < (w' : Int) + y'.j ∧ (w' : Int) + y'.j ≤ (w : Int) + y.j
    omega
/-! ### Sets that are alike in names and urgencies -/
theorem chk_alike {l' l : List Ts} (h : St l) (hlen : l'.length = l.length) (hc : ∀ x ∈ l', checkE x = 0) (hnp : ∀ (k : Nat) (x' x : Ts), l'[k]? = some x' → l[k]? = some x → x'.n = x.n ∧ x'.p = x.p) : (chkAll l').2 = 0 := by
  have h1 := h.n1
  have h6 := h.n6
  rw [chkAll, hlen, if_neg (by omega)]
  refine chkFrom_good _ [] hc (fun i j x y hx hy he => ?_)
  simp only [List.nil_append] at hx hy
  have hi := (List.getElem?_eq_some_iff.1 hx).1
  have hj := (List.getElem?_eq_some_iff.1 hy).1
  have ga := List.getElem?_eq_getElem (l := l) (i := i) (by omega)
  have gb := List.getElem?_eq_getElem (l := l) (i := j) (by omega)
  obtain ⟨n1, p1⟩ := hnp i x _ hx ga
  obtain ⟨n2, p2⟩ := hnp j y _ hy gb
  rcases he with he | he
  · have e1 := (h.s i _ ga).n
    have e2 := (h.s j _ gb).n
    rw [n1, n2, e1, e2] at he
    exact name_t_inj i (by omega) j (by omega) he
  · exact h.d i j _ _ ga gb (by rw [← p1, ← p2]; exact he)
/-! ### With all times so many times as great, and no sections -/
def one1 (x : Ts) : Ts := { x with q := 1 }
def sclQ (k : Int) (x : Ts) : Ts := ⟨x.n, x.c * k, x.t * k, x.d * k, x.j * k, 1, x.p⟩
theorem St.one {ts : List Ts} (h : St ts) : St (ts.map one1) := by
  have hg : ∀ (i : Nat) (x : Ts), (ts.map one1)[i]? = some x → ∃ z, ts[i]? = some z ∧ x = one1 z := fun i x hx => by
    rw [List.getElem?_map] at hx
    obtain ⟨z, hz, rfl⟩ := Option.map_eq_some_iff.1 hx
    exact ⟨z, hz, rfl⟩
  refine ⟨by rw [List.length_map]; exact h.n1, by rw [List.length_map]; exact h.n6, fun i j x y hx hy he => ?_, fun i x hx => ?_, fun i x hx => ?_⟩
  · obtain ⟨a, ha, rfl⟩ := hg i x hx
    obtain ⟨b, hb, rfl⟩ := hg j y hy
    exact h.d i j a b ha hb he
  · obtain ⟨a, ha, rfl⟩ := hg i x hx
    have s := h.s i a ha
    exact ⟨s.n, s.c0, s.c1, s.d0, s.d1, s.j0, s.t0, s.t1, Int.le_refl _, s.c0⟩
  · obtain ⟨a, ha, rfl⟩ := hg i x hx
    exact h.p i a ha
theorem sclQ_check {i : Nat} {x : Ts} {k : Int} (h : SF i x) (hi : i < 8) (h1 : 1 ≤ x.p) (h2 : x.p ≤ 8) (hk : 1 ≤ k ∧ k ≤ 33554432) : checkE (sclQ k x) = 0 := by
  have a1 := h.c0; have a2 := h.c1; have a3 := h.d0; have a4 := h.d1; have a5 := h.j0; have a6 := h.t0; have a7 := h.t1; have a8 := h.q0; have a9 := h.q1
  have c1 := mul20 (a := x.c) ⟨by omega, by omega⟩ hk
  have t1 := mul20 (a := x.t) ⟨by omega, by omega⟩ hk
  have d1 := mul20 (a := x.d) ⟨by omega, by omega⟩ hk
  have j1 := mul20 (a := x.j) ⟨by omega, by omega⟩ hk
  have c2 : 1 * 1 ≤ x.c * k := Int.mul_le_mul a1 hk.1 (by omega) (by omega)
  have t2 : 1 * 1 ≤ x.t * k := Int.mul_le_mul (show 1 ≤ x.t by omega) hk.1 (by omega) (by omega)
  have d2 : 1 * 1 ≤ x.d * k := Int.mul_le_mul (show 1 ≤ x.d by omega) hk.1 (by omega) (by omega)
  have e2 := Int.mul_le_mul_of_nonneg_right a3 (show 0 ≤ k by omega)
  have e3 := Int.mul_le_mul_of_nonneg_right a6 (show 0 ≤ k by omega)
  rw [Int.add_mul] at e2
  have hb := sf_check h hi h1 h2
  have hn : namedB x = true := by
    by_cases hh : (namedB x && rangedB x) = true
    · simp only [Bool.and_eq_true] at hh; exact hh.1
    · rw [checkE, if_neg hh] at hb; omega
  have hn' : namedB (sclQ k x) = true := hn
  have hr : rangedB (sclQ k x) = true := by
    show (inB (x.c * k) 1 2147483647 && (inB (x.t * k) 1 2147483647 && (inB (x.d * k) 1 2147483647 && (inB 1 1 2147483647 && (inB (x.j * k) 0 2147483647 && inB x.p 1 1048576))))) = true
    rw [inB_yes (n := x.c * k) (by omega), inB_yes (n := x.t * k) (by omega), inB_yes (n := x.d * k) (by omega), inB_yes (n := 1) (by omega), inB_yes (n := x.j * k) (by omega), inB_yes (n := x.p) (by omega)]
    rfl
  have ho : overB (sclQ k x) = false := by
    show decide ((1 : Int) > x.c * k ∨ x.c * k + x.j * k > x.d * k ∨ x.d * k > x.t * k) = false
    exact decide_eq_false (by omega)
  rw [checkE, hn', hr, ho]
  rfl
theorem sclQ_ok {ts : List Ts} {k : Int} (h : St ts) (hk : 1 ≤ k ∧ k ≤ 33554432) : (chkAll (ts.map (sclQ k))).2 = 0 := by
  refine chk_alike h (List.length_map _) (fun x hx => ?_) (fun i x' x hx' hx => ?_)
  · obtain ⟨z, hz, rfl⟩ := List.mem_map.1 hx
    obtain ⟨i, hi, rfl⟩ := List.getElem_of_mem hz
    have hg := List.getElem?_eq_getElem hi
    have h6 := h.n6
    exact sclQ_check (h.s i _ hg) (by omega) (h.p i _ hg).1 (h.p i _ hg).2 hk
  · rw [List.getElem?_map, hx] at hx'
    obtain rfl : sclQ k x = x' := by simpa using hx'
    exact ⟨rfl, rfl⟩
theorem blk_ones {p : Int} : ∀ {l : List Ts} (s : Int), (∀ x ∈ l, x.q = 1) → 0 ≤ s → l.foldl (blkUF p) s = s
  | [], s, _, _ => rfl
  | x :: l, s, h, hs => by
    have e : blkUF p s x = s := by
      unfold blkUF
      have := h x (by simp)
      split <;> omega
    rw [List.foldl_cons, e, blk_ones s (fun y hy => h y (by simp [hy])) hs]
theorem add_sclQ {p w k : Int} (hk : 0 < k) {x : Ts} (hx : TsOk x) : addH p (w * k) (sclQ k x) = addH p w x * k := by
  unfold addH sclQ
  simp only
  split
  · rw [← Int.add_mul, ceil_scl hk hx.t0, Int.mul_assoc]
  · rw [Int.zero_mul]
theorem need_sclQ {ts : List Ts} (h : St ts) {i : Nat} {y : Ts} (hy : ts[i]? = some y) (hq : ∀ x ∈ ts, x.q = 1) {w k : Int} (h0 : 0 ≤ w) (h1 : w ≤ 60) (k0 : 1 ≤ k) (k1 : k ≤ 33554432) : needI (ts.map (sclQ k)) (i : Int) (w * k) = needI ts (i : Int) w * k := by
  have hg := sclQ_ok h ⟨k0, k1⟩
  have hyg : (ts.map (sclQ k))[i]? = some (sclQ k y) := by rw [List.getElem?_map, hy]; rfl
  have h6 := h.n6
  obtain ⟨iy, sy⟩ := h.sf (List.mem_of_getElem? hy)
  have y0 := sy.c0; have y1 := sy.c1
  have hwk : 0 ≤ w * k ∧ w * k ≤ 60 * 33554432 := ⟨Int.mul_nonneg h0 (by omega), Int.mul_le_mul h1 k1 (by omega) (by omega)⟩
  have hv := vs_of hg
  have hyk : 0 ≤ y.c * k ∧ y.c * k ≤ 4 * 33554432 := ⟨Int.mul_nonneg (by omega) (by omega), Int.mul_le_mul y1 k1 (by omega) (by omega)⟩
  have hsum : 0 ≤ (ts.map (addH y.p w)).sum ∧ (ts.map (addH y.p w)).sum ≤ 1776 := by
    have hb := sum_bd (l := ts) (f := addH y.p w) (B := 296) fun x hx => ⟨addH_nonneg (h.vs.all x hx) h0, by
      obtain ⟨i, s⟩ := h.sf hx
      have d0 := s.d0; have d1 := s.d1; have c0 := s.c0; have c1 := s.c1; have j0 := s.j0; have t0 := s.t0
      have e := ceilI_le (a := w + x.j) (t := x.t) (by omega) (by omega)
      have e0 := ceilI_nonneg (a := w + x.j) (t := x.t) (by omega) (by omega)
      have m : ceilI (w + x.j) x.t * x.c ≤ 74 * 4 := Int.mul_le_mul (by omega) c1 (by omega) (by omega)
      unfold addH
      split <;> omega⟩
    omega
  have hms : ((ts.map (sclQ k)).map (addH y.p (w * k))).sum = (ts.map (addH y.p w)).sum * k := by
    rw [List.map_map, ← sum_times]
    exact sum_eq fun x hx => add_sclQ (by omega) (h.vs.all x hx)
  have hsk : 0 ≤ (ts.map (addH y.p w)).sum * k ∧ (ts.map (addH y.p w)).sum * k ≤ 1776 * 33554432 := ⟨Int.mul_nonneg hsum.1 (by omega), Int.mul_le_mul hsum.2 k1 (by omega) (by omega)⟩
  have hiG : hiU y.p (w * k) (ts.map (sclQ k)) = hiU y.p w ts * k := by
    by_cases e : w = 0
    · subst e
      rw [Int.zero_mul]
      show (0 : Int) = 0 * k
      rw [Int.zero_mul]
    · have hw1 : 1 * 1 ≤ w * k := Int.mul_le_mul (by omega) k0 (by omega) (by omega)
      rw [hiU_fits hv (B := 20000000000) (by omega) ⟨fun x hx => ?_, fun x hx => ?_, by rw [List.length_map]; omega, by omega⟩, h.hi h0 (by omega), if_neg e, hms]
      · obtain ⟨z, hz, rfl⟩ := List.mem_map.1 hx
        obtain ⟨i, s⟩ := h.sf hz
        have d0 := s.d0; have d1 := s.d1; have c0 := s.c0; have j0 := s.j0
        have mj : z.j * k ≤ 14 * 33554432 := Int.mul_le_mul (by omega) k1 (by omega) (by omega)
        show w * k + z.j * k ≤ _
        omega
      · obtain ⟨z, hz, rfl⟩ := List.mem_map.1 hx
        obtain ⟨i, s⟩ := h.sf hz
        have d0 := s.d0; have d1 := s.d1; have c0 := s.c0; have c1 := s.c1; have j0 := s.j0; have t0 := s.t0
        show ceilI (w * k + z.j * k) (z.t * k) * (z.c * k) ≤ _
        rw [← Int.add_mul, ceil_scl (by omega) (by omega)]
        have e := ceilI_le (a := w + z.j) (t := z.t) (by omega) (by omega)
        have e0 := ceilI_nonneg (a := w + z.j) (t := z.t) (by omega) (by omega)
        have m1 : z.c * k ≤ 4 * 33554432 := Int.mul_le_mul c1 k1 (by omega) (by omega)
        have m0 : 0 ≤ z.c * k := Int.mul_nonneg (by omega) (by omega)
        have m : ceilI (w + z.j) z.t * (z.c * k) ≤ 74 * (4 * 33554432) := Int.mul_le_mul (by omega) m1 m0 (by omega)
        omega
  have hb0 : blkU y.p ts = 0 := blk_ones 0 hq (Int.le_refl _)
  have hb1 : blkU y.p (ts.map (sclQ k)) = 0 := blk_ones 0 (fun x hx => by obtain ⟨z, hz, rfl⟩ := List.mem_map.1 hx; rfl) (Int.le_refl _)
  have hhs : 0 ≤ hiU y.p w ts ∧ hiU y.p w ts ≤ 1776 := by
    rw [h.hi h0 (by omega)]
    split <;> omega
  have hhk : 0 ≤ hiU y.p w ts * k ∧ hiU y.p w ts * k ≤ 1776 * 33554432 := ⟨Int.mul_nonneg hhs.1 (by omega), Int.mul_le_mul hhs.2 k1 (by omega) (by omega)⟩
  have hp : (sclQ k y).p = y.p := rfl
  have hc : (sclQ k y).c = y.c * k := rfl
  rw [need_form hg hyg, need_form h.chk hy, hp, hc, hb0, hb1, hiG]
  generalize hiU y.p w ts = H at *
  rw [satAdd_fit (a := 0) (b := y.c * k) (by omega), satAdd_fit (a := 0 + y.c * k) (b := 0) (by omega), satAdd_fit (a := 0 + y.c * k + 0) (b := H * k) (by omega), satAdd_fit (a := 0) (b := y.c) (by omega), satAdd_fit (a := 0 + y.c) (b := 0) (by omega), satAdd_fit (a := 0 + y.c + 0) (b := H) (by omega), Int.add_mul]
  have e9 : (0 + y.c + 0) * k = y.c * k := by rw [Int.zero_add, Int.add_zero]
  omega
/-- What RtaScales asks of each task. -/
theorem bound_sclQ {ts : List Ts} (h : St ts) {i : Nat} {y : Ts} (hy : ts[i]? = some y) (hq : ∀ x ∈ ts, x.q = 1) {k : Nat} (k0 : 1 ≤ k) (k1 : k ≤ 33554432) : (boundI (ts.map (sclQ (k : Int))) (i : Int)).1 = (boundI ts (i : Int)).1 * k ∧ (boundI (ts.map (sclQ (k : Int))) (i : Int)).2 = (boundI ts (i : Int)).2 := by
  have hg := sclQ_ok h (k := (k : Int)) ⟨by omega, by omega⟩
  have hyg : (ts.map (sclQ (k : Int)))[i]? = some (sclQ (k : Int) y) := by rw [List.getElem?_map, hy]; rfl
  have hm := mOf_get h.chk hy
  have hmg := mOf_get hg hyg
  obtain ⟨iy, sy⟩ := h.sf (List.mem_of_getElem? hy)
  have d1 := sy.d1; have j0 := sy.j0
  have hM : mOf (ts.map (sclQ (k : Int))) (i : Int) = mOf ts (i : Int) * k := by
    have e : (sclQ (k : Int) y).d - (sclQ (k : Int) y).j = (y.d - y.j) * k := by show y.d * k - y.j * k = _; rw [Int.sub_mul]
    have e2 : ((mOf ts (i : Int) * k : Nat) : Int) = (y.d - y.j) * k := by rw [Int.natCast_mul, hm.1]
    omega
  have hsc := least_scale (N := needI ts (i : Int)) (N' := needI (ts.map (sclQ (k : Int))) (i : Int)) (M := mOf ts (i : Int)) (k := k) (need_rises (isB_at h.chk hy)) (need_rises (isB_at hg hyg)) k0
    (by have := need_sclQ h hy hq (w := 0) (k := (k : Int)) (by omega) (by omega) (by omega) (by omega); rwa [Int.zero_mul] at this)
    (fun w h1 h2 => need_sclQ h hy hq (by omega) (by omega) (by omega) (by omega))
  rw [bound_at h.chk hy, bound_at hg hyg, hM, hsc]
  cases leastF (needI ts (i : Int)) (mOf ts (i : Int)) with
  | none => exact ⟨by show (0 : Int) = 0 * k; omega, rfl⟩
  | some w =>
    refine ⟨?_, rfl⟩
    show ((w * k : Nat) : Int) + y.j * k = ((w : Int) + y.j) * k
    rw [Int.natCast_mul, Int.add_mul]
end Go.Proofs.YtnhddnldebdmbaaDoor
/- What All tells: plain words, and in memory. -/
namespace Go.Proofs.YtnhddnldebdmbaaDoor
open Go.RowKit
set_option linter.unusedVariables false
set_option linter.unusedSimpArgs false
/-- A row of numbers of 64 bits that can be read. -/
structure IRow (w : World) (A : Option Addr) (cap : Nat) (ns : List Int) : Prop where
  le : ns.length ≤ cap
  mx : cap ≤ 9223372036854775807
  at_ : ∀ k z, ns[k]? = some z → ∃ g o, A = some ⟨g, o, none⟩ ∧ g < w.heap.size ∧ w.cell? ⟨g, o + k, none⟩ = some (.int .i64 z)
theorem IRow.later {w w' : World} {A : Option Addr} {cap : Nat} {ns : List Int} (h : IRow w A cap ns) (hb : Below w.heap.size w w') : IRow w' A cap ns :=
  ⟨h.le, h.mx, fun k z hz => by
    obtain ⟨g, o, e, hg, hc⟩ := h.at_ k z hz
    exact ⟨g, o, e, Nat.lt_of_lt_of_le hg hb.size, (hb.cell (p := ⟨g, o + k, none⟩) hg).trans hc⟩⟩
/-- All bounds by places, the places that have none, and the error. -/
def bndsL (l : List Ts) : List Int := if (chkAll l).2 = 0 then (List.range l.length).map (fun k : Nat => (boundI l (k : Int)).1) else []
def lateL (l : List Ts) : List Int := if (chkAll l).2 = 0 then ((List.range l.length).filter (fun k : Nat => decide ((boundI l (k : Int)).2 ≠ 0))).map (fun k : Nat => (k : Int)) else []
def allE (l : List Ts) : Int := if (chkAll l).2 = 0 then (if lateL l = [] then 0 else 16) else 1
def AllP (l : List Ts) (w : World) (e : Ending) (w' : World) : Prop := ∃ A1 c1 A2 c2, e = .returned (.tuple #[.slice A1 (bndsL l).length c1, .slice A2 (lateL l).length c2, .int .i64 (allE l)]) ∧ IRow w' A1 c1 (bndsL l) ∧ IRow w' A2 c2 (lateL l) ∧ Below w.heap.size w w'
theorem bndsL_len {l : List Ts} (h : (chkAll l).2 = 0) : (bndsL l).length = l.length := by unfold bndsL; rw [if_pos h]; simp
theorem bndsL_at {l : List Ts} (h : (chkAll l).2 = 0) {k : Nat} (hk : k < l.length) : (bndsL l)[k]? = some (boundI l (k : Int)).1 := by unfold bndsL; rw [if_pos h]; simp [hk]
end Go.Proofs.YtnhddnldebdmbaaDoor
/- Bounds, and the reckoning: the document's own. -/
namespace Go.Proofs.YtnhddnldebdmbaaDoor
open Go.RowKit
set_option linter.unusedVariables false
set_option linter.unusedSimpArgs false
theorem need_u (l : List Ts) (i v : Int) (hb : isB l i = true) (h : U v) : U (needI l i v) := by
  have hv := isB_vs hb
  have hck := (isB_iff hb).1
  obtain ⟨ki, y, rfl, hki, hy⟩ := isB_get hb
  rw [need_form hck hy]
  have hc := (hv.all y (List.mem_of_getElem? hy)).c0
  have hbk := blk_take_bd (p := y.p) hv l.length
  rw [List.take_length] at hbk
  exact satAdd_u (satAdd_u (satAdd_u (Int.le_refl _) (show 0 ≤ y.c by omega)).1 hbk.1).1 (hiU_nonneg hv h.1)
theorem w64 {z : Int} (h0 : 0 ≤ z) (h1 : z ≤ 4611686018427387904) : wrap64 z = z ∧ IntKind.i64.wrap z = z := ⟨IntWalk.wrap64_in _ (by omega), by rw [IntKind.wrap_i64]; omega⟩
theorem wu64 {z : Int} (h0 : 0 ≤ z) (h1 : z ≤ 18446744073709551615) : IntKind.u64.wrap z = z := by rw [IntKind.wrap_u64]; omega
/-- A bound and an error in a box. -/
structure G4 (w : World) (b : Nat) (a e : Int) : Prop where
  is : w.heap[b]? = some (.cells #[.int .i64 a, .int .i64 e] 50 (0, 0))
theorem G4.lt {W : World} {b : Nat} {a e : Int} (h : G4 W b a e) : b < W.heap.size := (Array.getElem?_eq_some_iff.1 h.is).1
theorem G4.c0 {W : World} {b : Nat} {a e : Int} (h : G4 W b a e) : W.cell? ⟨b, 0, none⟩ = some (.int .i64 a) := by rw [cell_of_row W b 0 _ _ _ h.is]; rfl
theorem G4.c1 {W : World} {b : Nat} {a e : Int} (h : G4 W b a e) : W.cell? ⟨b, 1, none⟩ = some (.int .i64 e) := by rw [cell_of_row W b 1 _ _ _ h.is]; rfl
theorem G4.frozen {W : World} {b : Nat} {a e : Int} (h : G4 W b a e) (i : Nat) : W.frozen? ⟨b, i, none⟩ = false := frozen_of_row W b i _ _ h.is
theorem G4.later {W W' : World} {b : Nat} {a e : Int} (h : G4 W b a e) (hb : Below W.heap.size W W') : G4 W' b a e := ⟨(hb.block b h.lt).trans h.is⟩
theorem G4.set0 {W : World} {b : Nat} {a e : Int} (h : G4 W b a e) (a' : Int) : G4 (W.setCell ⟨b, 0, none⟩ (.int .i64 a')) b a' e := ⟨heap_setCell_same _ b 0 _ _ (.int .i64 a') h.is⟩
theorem G4.set1 {W : World} {b : Nat} {a e : Int} (h : G4 W b a e) (e' : Int) : G4 (W.setCell ⟨b, 1, none⟩ (.int .i64 e')) b a e' := ⟨heap_setCell_same _ b 1 _ _ (.int .i64 e') h.is⟩
theorem G4.new (w : World) (a e : Int) : G4 (w.alloc (.cells #[.int .i64 a, .int .i64 e] 50)) w.heap.size a e := ⟨heap_alloc_new w _⟩
theorem infoG4 : (Tryd.prog.info? 50).map (·.size) = some 2 := by kernel_rfl
theorem results_got4 {fn : Func} {p : Tmp} (h : fn.results = #[.cell p 50]) (tmps : Array Value) (w : World) (b : Nat) (a e : Int) (hp : tmps.getD p undef = .pointer (some ⟨b, 0, none⟩)) (hb : G4 w b a e) :
    (results fn tmps).run Tryd.prog w = .ok (.agg #[.int .i64 a, .int .i64 e]) w :=
  results_cell_row h tmps w b _ _ _ _ hp hb.is Tryd.underlying50 rfl infoG4
set_option maxRecDepth 100000 in
set_option maxHeartbeats 8000000 in
theorem rbound_any (A : Option Addr) (cap : Nat) (l : List Ts) (i : Int) (w : World) (hR : Row w A cap l) (hi : in64 i) :
    Calls Tryd.prog 21 #[.slice A l.length cap, .int .i64 i] w fun e w' => e = .returned (.agg #[.int .i64 (boundI l i).1, .int .i64 (boundI l i).2]) ∧ Below w.heap.size w w' := by
  obtain ⟨W1, hW1, G1, B1⟩ : ∃ W1, w.alloc (.cells #[.int .i64 0, .int .i64 0] 50) = W1 ∧ G4 W1 w.heap.size 0 0 ∧ Below w.heap.size w W1 := ⟨_, rfl, G4.new w 0 0, (Below.refl _ _).alloc (Nat.le_refl _) _⟩
  have R1 := hR.later B1
  have K := Lib.hid (ris_any A cap l i W1 R1 hi)
  have hfin : ∀ (a' e' : Int) (wr : World), Below W1.heap.size W1 wr → G4 ((wr.setCell ⟨w.heap.size, 0, none⟩ (.int .i64 a')).setCell ⟨w.heap.size, 1, none⟩ (.int .i64 e')) w.heap.size a' e' ∧ Below w.heap.size w ((wr.setCell ⟨w.heap.size, 0, none⟩ (.int .i64 a')).setCell ⟨w.heap.size, 1, none⟩ (.int .i64 e')) := fun a' e' wr hL =>
    ⟨((G1.later hL).set0 a').set1 e', ((B1.trans (Below.mono hL B1.size)).setCell (p := ⟨w.heap.size, 0, none⟩) (Nat.le_refl _) _).setCell (p := ⟨w.heap.size, 1, none⟩) (Nat.le_refl _) _⟩
  have HF := Lib.hid hfin
  have HG := Lib.hid (fun wr (h : Below W1.heap.size W1 wr) => G1.later h)
  have HW1 := Lib.hid hW1
  have hle := hR.le
  have hmx := hR.mx
  clear hfin hW1
  cases hb : isB l i
  · rw [hb] at K
    have e : boundI l i = (0, 1) := by unfold boundI; rw [hb]; rfl
    rw [e]
    clear hb e hR R1 G1 B1
    generalize l.length = N at *
    go_enter Tryd.func21, Tryd.ntmps21
    go_upto_region 1 with (fail)
    rw [HW1.out]
    go_wp2_with (go_at_call 17; (with_reducible refine K.out.mono ?_); rintro e w1 ⟨rfl, h⟩; have g := HG.out _ h; have d0 := g.c0; have d1 := g.c1; have e0 := g.frozen 0; have e1 := g.frozen 1)
    obtain ⟨R, hB⟩ := HF.out 0 1 _ h
    exact bodyPost_ret (v := .agg #[.int .i64 0, .int .i64 1]) (results_got4 rfl _ _ _ _ _ rfl R) rfl ⟨rfl, hB⟩
  · rw [hb] at K
    have hck := (isB_iff hb).1
    have hv := isB_vs hb
    obtain ⟨ki, y, rfl, hki, hy⟩ := isB_get hb
    have hm := mOf_get hck hy
    have hd := chk_d hck y (List.mem_of_getElem? hy)
    have hE := bound_at hck hy
    have hj := (hv.all y (List.mem_of_getElem? hy)).j0
    have hj1 := (hv.all y (List.mem_of_getElem? hy)).j1
    have hd0 := hd.d0
    have hd1 := hd.d1
    rw [hE]
    obtain ⟨b, o, x, rfl, hx, -, hbl, hT⟩ := R1.get hki
    obtain rfl : y = x := by have := hy.symm.trans hx; simpa using this
    have KN := Lib.hid (fun W (h : Below W1.heap.size W1 W) (v : Int) (hv : U v) => rneed_any (some ⟨b, o, none⟩) cap l (ki : Int) v W (R1.later h) hi hv)
    have HT := Lib.hid hT
    generalize mOf l (ki : Int) = M at *
    obtain ⟨hm0, hm1, hm2⟩ := hm
    have HNU := Lib.hid (fun (v : Int) (h : U v) => need_u l (ki : Int) v hb h)
    generalize needI l (ki : Int) = nf at *
    clear hb hE hR R1 hv hy hx hd hck G1 B1 hT
    generalize l.length = N at *
    have hI0 : (0 : Int) ≤ (ki : Int) := by omega
    have hI1 : (ki : Int) < ((N : Nat) : Int) := by omega
    have HW := Lib.hid (w64 (z := y.d - y.j) (by omega) (by omega))
    go_enter Tryd.func21, Tryd.ntmps21
    go_upto_region 1 with (fail)
    rw [HW1.out]
    go_wp2_with (go_at_call 17; (with_reducible refine K.out.mono ?_); rintro e w1 ⟨rfl, h⟩)
    have HL := Lib.hid h
    clear h
    go_loopw [6] (fun s wr => ∃ v : Nat, 1 ≤ v ∧ v ≤ M + 1 ∧ s = .int .i64 v ∧ Hid (∀ u : Nat, 1 ≤ u → u < v → (u : Int) < nf u) ∧ Hid (Below W1.heap.size W1 wr)) (fun s _ => M + 1 - (intOf s).toNat)
    case atStart => exact ⟨1, Nat.le_refl _, by omega, rfl, Lib.hid (fun u h1 h2 => by omega), HL⟩
    case round =>
      obtain ⟨v, hv1, hvM, rfl, HU, HL⟩ := hrel
      have hTr := HT.out.later HL.out
      have c3 := hTr.c3
      have c4 := hTr.c4
      clear hTr
      by_cases hle : v ≤ M
      · have g1 : decide ((v : Int) ≤ y.d - y.j) = true := decide_eq_true (by omega)
        have g1' : decide ((v : Int) > y.d - y.j) = false := decide_eq_false (by omega)
        have HWV := Lib.hid (wu64 (z := (v : Int)) (by omega) (by omega))
        have HWA := Lib.hid (w64 (z := (v : Int) + y.j) (by omega) (by omega))
        have HWS := Lib.hid (w64 (z := (v : Int) + 1) (by omega) (by omega))
        have KV := Lib.hid (fun W h => KN.out W h (v : Int) ⟨by omega, by omega⟩)
        have HLE := Lib.hid hle
        obtain ⟨z, hz⟩ : ∃ z, nf (v : Int) = z := ⟨_, rfl⟩
        have HZ := Lib.hid hz
        rw [hz] at KV
        clear hz hle
        by_cases hn : z ≤ (v : Int)
        · have u1 : decide (z ≤ (v : Int)) = true := decide_eq_true hn
          have HB : Hid (bndOf y.j (leastF nf M) = ((v : Int) + y.j, 0)) := Lib.hid (by
            rw [leastF_is hv1 HLE.out (by rw [HZ.out]; exact hn) HU.out]
            rfl)
          clear hn
          obtain ⟨hw1, hw1'⟩ := HW.out
          have hwv := HWV.out
          obtain ⟨ha1, ha1'⟩ := HWA.out
          obtain ⟨hs1, hs1'⟩ := HWS.out
          go_upto_region 5 with (fail)
          go_quiet (fail)
          have HL2 := Lib.hid (below_drewN HL.out nq)
          go_wp2_with (go_at_call 32; (with_reducible refine (KV.out _ HL2.out).mono ?_); rintro e w5 ⟨rfl, h⟩; have HL5 := Lib.hid (HL2.out.trans (h.mono (Below.size HL2.out))); have hT5 := HT.out.later HL5.out; have c3 := hT5.c3; have c4 := hT5.c4; have g := HG.out _ HL5.out; have d0 := g.c0; have d1 := g.c1; have e0 := g.frozen 0; have e1 := g.frozen 1; clear h hT5)
          obtain ⟨R, hB⟩ := HF.out ((v : Int) + y.j) 0 _ HL5.out
          exact bodyPost_ret (v := .agg #[.int .i64 _, .int .i64 0]) (results_got4 rfl _ _ _ _ _ rfl R) rfl ⟨by rw [HB.out], hB⟩
        · have u1 : decide (z ≤ (v : Int)) = false := decide_eq_false hn
          have HN := Lib.hid hn
          clear hn
          obtain ⟨hw1, hw1'⟩ := HW.out
          have hwv := HWV.out
          obtain ⟨ha1, ha1'⟩ := HWA.out
          obtain ⟨hs1, hs1'⟩ := HWS.out
          go_upto_region 5 with (fail)
          go_quiet (fail)
          have HL2 := Lib.hid (below_drewN HL.out nq)
          go_wp2_with (go_at_call 32; (with_reducible refine (KV.out _ HL2.out).mono ?_); rintro e w5 ⟨rfl, h⟩; have HL5 := Lib.hid (HL2.out.trans (h.mono (Below.size HL2.out))); clear h)
          clear hw1 hw1' hwv ha1 ha1' hs1 hs1'
          go_roundw
          case rel =>
            refine ⟨v + 1, by omega, by have := HLE.out; omega, by go_num, Lib.hid (fun u h1 h2 => ?_), HL5⟩
            rcases Nat.lt_or_ge u v with h3 | h3
            · exact HU.out u h1 h3
            · obtain rfl : u = v := by omega
              rw [HZ.out]
              have := HN.out
              omega
          case measure => have := HLE.out; simp [intOf]; omega
      · have g1 : decide ((v : Int) ≤ y.d - y.j) = false := decide_eq_false (by omega)
        have g1' : decide ((v : Int) > y.d - y.j) = true := decide_eq_true (by omega)
        have HB : Hid (bndOf y.j (leastF nf M) = (0, 16)) := Lib.hid (by
          rw [leastF_not fun u h1 h2 => HU.out u h1 (by omega)]
          rfl)
        clear hle
        obtain ⟨hw1, hw1'⟩ := HW.out
        go_upto_region 5 with (fail)
        go_quiet (fail)
        have HL2 := Lib.hid (below_drewN HL.out nq)
        have g := HG.out _ HL2.out
        have d0 := g.c0
        have d1 := g.c1
        have e0 := g.frozen 0
        have e1 := g.frozen 1
        clear g
        go_wp2
        obtain ⟨R, hB⟩ := HF.out 0 16 _ HL2.out
        exact bodyPost_ret (v := .agg #[.int .i64 0, .int .i64 16]) (results_got4 rfl _ _ _ _ _ rfl R) rfl ⟨by rw [HB.out], hB⟩
theorem eachF_len (N : Int → Int) (M : Int) : ∀ (f : Nat) (w : Int), (eachF N M f w).length ≤ f + 1
  | 0, w => by simp [eachF]
  | f + 1, w => by
    have := eachF_len N M f (N w)
    rw [eachF]
    split
    · simp
    · rw [List.length_cons]; omega
theorem own_last {B : Nat} {V : World} {v : Value} {pre : List Int} {z : Int} (h : OwnU B V v (pre ++ [z])) : ∃ g c, v = .slice (some ⟨g, 0, none⟩) (pre.length + 1) c ∧ pre.length + 1 ≤ c ∧ c ≤ maxLen ∧ V.cell? ⟨g, pre.length, none⟩ = some (.int .u64 z) := by
  unfold OwnU at h
  obtain ⟨A, c, hv, hl, hm⟩ := own_len h
  rcases h.2 with ⟨hv2, h0⟩ | ⟨g, cap, cur, hv2, hb, hh, _⟩
  · simp at h0
  · have hc := h.cells (g := g) (by rw [hv2]; rfl)
    have hq := hc pre.length (.int .u64 z) (by simp [cellsU])
    rw [add_none, Nat.zero_add] at hq
    rw [hv] at hv2
    simp only [Value.slice.injEq] at hv2
    obtain ⟨rfl, _, rfl⟩ := hv2
    exact ⟨g, c, by rw [hv]; simp, by simpa using hl, hm, hq⟩
/-- While the reckoning is told. -/
structure EaL (B : Nat) (w : World) (nf : Int → Int) (M : Nat) (all : List Int) (pre : List Int) (z : Int) (f : Nat) (v : Value) (wr : World) : Prop where
  o : OwnU B wr v (pre ++ [z])
  b : Below w.heap.size w wr
  u : U z
  p : 1 ≤ z
  e : all = pre ++ eachF nf M f z
  m : (M : Int) - z < (f : Int)
  n : pre.length + f ≤ M + 1
  r : z ≤ nf z
set_option maxRecDepth 100000 in
set_option maxHeartbeats 8000000 in
theorem reach_any (A : Option Addr) (cap : Nat) (l : List Ts) (i : Int) (w : World) (hR : Row w A cap l) (hi : in64 i) (hM : mOf l i ≤ 1000000) :
    Calls Tryd.prog 22 #[.slice A l.length cap, .int .i64 i] w (StP (eachI l i) w) := by
  obtain ⟨i0, hii, hz0, hz1, hz2⟩ := info_parts infoU64
  have K := Lib.hid (ris_any A cap l i w hR hi)
  have hle := hR.le
  have hmx := hR.mx
  cases hb : isB l i
  · rw [hb] at K
    have e : eachI l i = [] := by unfold eachI; rw [hb]; rfl
    rw [e]
    clear hb e hR
    generalize l.length = N at *
    go_enter Tryd.func22, Tryd.ntmps22
    go_wp2_with (go_at_call 17; (with_reducible refine K.out.mono ?_); rintro e w1 ⟨rfl, h⟩)
    go_ret
    exact ⟨_, rfl, World.ownsRow_nil _ _ _ _, h⟩
  · rw [hb] at K
    have hck := (isB_iff hb).1
    have hv := isB_vs hb
    have hE : eachI l i = eachF (needI l i) (mOf l i) (mOf l i + 1) (needI l i 0) := by unfold eachI; rw [hb]; rfl
    have hrs := need_rises hb
    obtain ⟨ki, y, rfl, hki, hy⟩ := isB_get hb
    have hm := mOf_get hck hy
    have hd := chk_d hck y (List.mem_of_getElem? hy)
    have hj := (hv.all y (List.mem_of_getElem? hy)).j0
    have hd0 := hd.d0
    have hd1 := hd.d1
    rw [hE]
    obtain ⟨b, o, x, rfl, hx, -, hbl, hT⟩ := hR.get hki
    obtain rfl : y = x := by have := hy.symm.trans hx; simpa using this
    have KN := Lib.hid (fun W (h : Below w.heap.size w W) (v : Int) (hv : U v) => rneed_any (some ⟨b, o, none⟩) cap l (ki : Int) v W (hR.later h) hi hv)
    have HT := Lib.hid hT
    generalize mOf l (ki : Int) = M at *
    obtain ⟨hm0, hm1, hm2⟩ := hm
    have HNU := Lib.hid (fun (v : Int) (h : U v) => need_u l (ki : Int) v hb h)
    generalize needI l (ki : Int) = nf at *
    have HRS := Lib.hid hrs
    clear hb hE hR hv hy hx hd hck hT hrs
    generalize l.length = N at *
    have hI0 : (0 : Int) ≤ (ki : Int) := by omega
    have hI1 : (ki : Int) < ((N : Nat) : Int) := by omega
    have HW := Lib.hid (w64 (z := y.d - y.j) (by omega) (by omega))
    have HW2 := Lib.hid (wu64 (z := y.d - y.j) (by omega) (by omega))
    have HDM := Lib.hid hm0
    have HN0 := Lib.hid (HNU.out 0 ⟨by decide, by decide⟩)
    have HP0 := Lib.hid (HRS.out.pos (w := 0) (Int.le_refl _))
    obtain ⟨z0, hz0⟩ : ∃ z0, nf 0 = z0 := ⟨_, rfl⟩
    have HZ0 := Lib.hid hz0
    rw [hz0] at HN0 HP0
    have KN0 := Lib.hid (fun W h => KN.out W h 0 ⟨by decide, by decide⟩)
    rw [hz0] at KN0
    rw [hz0]
    obtain ⟨md, hmd⟩ : ∃ md, y.d - y.j = md := ⟨_, rfl⟩
    have HMD := Lib.hid (show md = (M : Int) by omega)
    rw [hmd] at HW HW2
    have HMDE := Lib.hid hmd
    clear hmd hz0 hm0
    go_enter Tryd.func22, Tryd.ntmps22
    go_upto_region 4 with (go_at_call 17; (with_reducible refine K.out.mono ?_); rintro e w1 ⟨rfl, h⟩; have HL := Lib.hid h; clear h)
    have hTr := HT.out.later HL.out
    have c3 := hTr.c3
    have c4 := hTr.c4
    obtain ⟨hw1, hw1'⟩ := HW.out
    have hw2 := HW2.out
    have hmd := HMDE.out
    clear hTr
    go_quiet (fail)
    have HL2 := Lib.hid (below_drewN HL.out nq)
    clear c3 c4
    go_upto_block 1 with (go_at_call 32; (with_reducible refine (KN0.out _ HL2.out).mono ?_); rintro e w5 ⟨rfl, h⟩; have HL5 := Lib.hid (HL2.out.trans (h.mono (Below.size HL2.out))); clear h)
    have H1 : Hid (EaL w.heap.size w nf M (eachF nf (M : Int) (M + 1) z0) [] z0 (M + 1) (.slice (some ⟨w5.heap.size, 0, none⟩) 1 1) (w5.alloc (.cells #[.int .u64 z0] 36))) := Lib.hid ⟨own_single w5 w.heap.size z0 (Below.size HL5.out), HL5.out.alloc (Below.size HL5.out) _, HN0.out, HP0.out, rfl, by have := HP0.out; omega, by simp, by rw [← HZ0.out]; exact HRS.out.mono (Int.le_refl _) (Int.le_trans (by decide) (HRS.out.pos (Int.le_refl _)))⟩
    have HAL : Hid (∃ all, eachF nf (M : Int) (M + 1) z0 = all) := Lib.hid ⟨_, rfl⟩
    obtain ⟨all, hall⟩ := HAL.out
    have HALL := Lib.hid hall
    rw [hall] at H1
    clear hall HAL hw1 hw1' hw2
    go_loopg [7] (M + 2) (fun mm s wr => ∃ (pre : List Int) (z : Int) (f : Nat), f < mm ∧ Hid (EaL w.heap.size w nf M all pre z f s wr))
    case atStart => exact ⟨[], z0, M + 1, by omega, H1⟩
    case round =>
      generalize wr = wq at *
      obtain ⟨pre, z, f, hf, HE⟩ := hrel
      obtain ⟨g, c, rfl, hlc, hcm, hcell⟩ := own_last HE.out.o
      have hpn := HE.out.n
      have hpn2 : pre.length ≤ 1000001 := by omega
      unfold maxLen at hcm
      obtain ⟨n, hnl⟩ : ∃ n, pre.length + 1 = n := ⟨_, rfl⟩
      obtain ⟨q, hq⟩ : ∃ q, pre.length = q := ⟨_, rfl⟩
      have hlen : (pre ++ [z]).length = n := by rw [List.length_append, ← hnl]; rfl
      have HLEN := Lib.hid hlen
      rw [hnl] at hlc HE ⊢
      rw [hq] at hcell hpn2 hnl
      have hcq : (n : Int) ≤ (c : Int) := by omega
      have hcm2 : (c : Int) ≤ 9223372036854775807 := by omega
      have g0 : (0 : Int) ≤ (q : Int) := by omega
      have g1 : (q : Int) < (n : Int) := by omega
      have g2 : (n : Int) - 1 = (q : Int) := by omega
      have HBB : Hid (n + 1 ≤ maxLen ∧ (n + 1) * 8 ≤ 140737488355328) := Lib.hid (by unfold maxLen; omega)
      have HWQ := Lib.hid (w64 (z := (q : Int)) (by omega) (by omega))
      have KZ := Lib.hid (fun W h => KN.out W h z HE.out.u)
      have hzu := HNU.out z HE.out.u
      have hmo := HRS.out.mono (w := 0) (w' := z) (Int.le_refl _) (by have := HE.out.p; omega)
      have hpz := HRS.out.pos (w := z) (by have := HE.out.p; omega)
      obtain ⟨nz, hnz⟩ : ∃ nz, nf z = nz := ⟨_, rfl⟩
      have HNZ := Lib.hid hnz
      rw [hnz] at KZ hzu hpz
      have HZU := Lib.hid hzu
      have HPZ := Lib.hid hpz
      clear hq hpn hnz hzu hmo hpz hlc hcm hnl hlen hpn2
      by_cases hz : z > md
      · have u1 : decide (z > md) = true := decide_eq_true hz
        have u1' : decide (md < z) = true := decide_eq_true hz
        have HFI : Hid (eachF nf (M : Int) f z = [z]) := Lib.hid (by
          have := HMD.out
          cases f with
          | zero => rfl
          | succ f => rw [eachF, if_pos (.inl (by omega))])
        clear hz
        obtain ⟨hq1, hq1'⟩ := HWQ.out
        go_wp2_with (go_at_call 32; (with_reducible refine (KZ.out _ HE.out.b).mono ?_); rintro e w6 ⟨rfl, h⟩; have HL6 := Lib.hid (HE.out.b.trans (h.mono (Below.size HE.out.b))); have HO6 := Lib.hid (own_stay h HE.out.o); clear h)
        go_ret
        refine ⟨_, rfl, ?_, HL6.out⟩
        have e1 := HE.out.e
        rw [HFI.out] at e1
        unfold OwnU
        rw [HALL.out, e1]
        exact HO6.out
      · have u1 : decide (z > md) = false := decide_eq_false hz
        have u1' : decide (md < z) = false := decide_eq_false hz
        have HZM := Lib.hid hz
        clear hz
        by_cases hn : nz = z
        · have u2 : (nz == z) = true := by simpa using hn
          have HFI : Hid (eachF nf (M : Int) f z = [z]) := Lib.hid (by
            cases f with
            | zero => rfl
            | succ f => rw [eachF, if_pos (.inr (by rw [HNZ.out]; exact hn))])
          clear hn
          obtain ⟨hq1, hq1'⟩ := HWQ.out
          go_wp2_with (go_at_call 32; (with_reducible refine (KZ.out _ HE.out.b).mono ?_); rintro e w6 ⟨rfl, h⟩; have HL6 := Lib.hid (HE.out.b.trans (h.mono (Below.size HE.out.b))); have HO6 := Lib.hid (own_stay h HE.out.o); clear h)
          go_ret
          refine ⟨_, rfl, ?_, HL6.out⟩
          have e1 := HE.out.e
          rw [HFI.out] at e1
          unfold OwnU
          rw [HALL.out, e1]
          exact HO6.out
        · have u2 : (nz == z) = false := by simpa using hn
          obtain ⟨f', hf'⟩ : ∃ f', f = f' + 1 := ⟨f - 1, by have := HE.out.m; have := HZM.out; have := HMD.out; omega⟩
          subst hf'
          have HFI : Hid (eachF nf (M : Int) (f' + 1) z = z :: eachF nf (M : Int) f' nz) := Lib.hid (by
            have := HZM.out
            have := HMD.out
            rw [eachF, if_neg (by rintro (h | h); omega; exact hn (by rw [← HNZ.out]; exact h)), HNZ.out])
          have HN1 := Lib.hid hn
          clear hn
          obtain ⟨hq1, hq1'⟩ := HWQ.out
          have HB1 := HBB
          go_wp2_with (first
            | (go_at_call 32; (with_reducible refine (KZ.out _ HE.out.b).mono ?_); rintro e w6 ⟨rfl, h⟩; have HL6 := Lib.hid (HE.out.b.trans (h.mono (Below.size HE.out.b))); have HO6 := Lib.hid (own_stay h HE.out.o); have HN7 := Lib.hid (u_new w6 nz); have HS6 := Lib.hid (Below.size HL6.out); clear h)
            | (at_builtin; refine wpList_append_own _ rfl _ _ 52 rfl w.heap.size 36 i0 _ 1 8 Tryd.underlying52 hii hz0 hz1 hz2 rfl (by decide) _ _ _ rfl (HO6.out.alloc _) ⟨w6.heap.size, 0, none⟩ 1 1 [.int .u64 nz] rfl rfl HN7.out (by intro u hu; simp at hu; subst hu; rfl) (by rw [HLEN.out]; exact HB1.out.1) (by rw [HLEN.out]; exact HB1.out.2) (by rw [World.size_alloc]; exact Nat.le_succ_of_le HS6.out) ?_; intro v' w7 hown' hgrow hnil'; have HOW := Lib.hid hown'; have HGR := Lib.hid hgrow; clear hown' hgrow hnil'))
          clear hq1 hq1' u1 u1' u2 g0 g1 g2 hcq hcm2 hcell
          go_roundg (f' + 1)
          case measure => omega
          case rel =>
            refine ⟨pre ++ [z], nz, f', by omega, Lib.hid ⟨?_, ?_, HZU.out, HPZ.out, ?_, ?_, ?_, ?_⟩⟩
            · have h7 := HOW.out
              unfold OwnU
              rw [cellsU_snoc, List.length_append]
              exact h7
            · have hb6 := Below.size HL6.out
              exact (HL6.out.alloc hb6 _).grown HGR.out (by rw [World.size_alloc]; omega) (fun k hk => (HO6.out.lt k hk).1)
            · rw [HE.out.e, HFI.out]
              simp
            · have h1 := HE.out.m
              have h3 : z ≤ nz := by rw [← HNZ.out]; exact HE.out.r
              have h4 := HN1.out
              omega
            · have h1 := HE.out.n
              rw [List.length_append]
              simp
              omega
            · have h3 : z ≤ nz := by rw [← HNZ.out]; exact HE.out.r
              have h4 := HRS.out.mono (w := z) (w' := nz) (by have := HE.out.p; omega) h3
              rwa [HNZ.out] at h4
end Go.Proofs.YtnhddnldebdmbaaDoor
/- rta.part, rta.most, rta.may: their contracts. -/
namespace Go.Proofs.YtnhddnldebdmbaaDoor
open Go.RowKit
set_option linter.unusedVariables false
set_option linter.unusedSimpArgs false
/-- 2^63 times a by b, at its end. -/
def partI (a b : Int) : Int := if b ≤ a / 2 then 18446744073709551615 else 9223372036854775808 * a / b
theorem partI_nat (x y : Nat) (h : ¬ y ≤ x / 2) : partI (x : Int) (y : Int) = ((9223372036854775808 * x / y : Nat) : Int) := by
  unfold partI
  rw [if_neg (by omega), Int.natCast_ediv, Int.natCast_mul]
  rfl
theorem part_bd {a b : Int} (ha : U a) (hb : U b) : U (partI a b) ∧ partI a b * b ≤ 9223372036854775808 * a := by
  obtain ⟨x, rfl⟩ : ∃ x : Nat, a = (x : Int) := ⟨a.toNat, by have := ha.1; omega⟩
  obtain ⟨y, rfl⟩ : ∃ y : Nat, b = (y : Int) := ⟨b.toNat, by have := hb.1; omega⟩
  by_cases h : y ≤ x / 2
  · have e : partI (x : Int) (y : Int) = 18446744073709551615 := by unfold partI; rw [if_pos (by omega)]
    rw [e]
    exact ⟨⟨by decide, by decide⟩, by omega⟩
  · rw [partI_nat x y h]
    have h1 := Nat.div_mul_le_self (9223372036854775808 * x) y
    have h2 : 9223372036854775808 * x / y < 18446744073709551616 := (Nat.div_lt_iff_lt_mul (by omega)).2 (by omega)
    generalize 9223372036854775808 * x / y = q at *
    refine ⟨⟨by omega, by omega⟩, ?_⟩
    rw [← Int.natCast_mul]
    omega
set_option maxRecDepth 100000 in
set_option maxHeartbeats 4000000 in
theorem part_any (a b : Int) (w : World) (ha : U a) (hb : U b) :
    Calls Tryd.prog 57 #[.int .u64 a, .int .u64 b] w fun e w' => e = .returned (.int .u64 (partI a b)) ∧ Below w.heap.size w w' := by
  obtain ⟨x, rfl⟩ : ∃ x : Nat, a = (x : Int) := ⟨a.toNat, by have := ha.1; omega⟩
  obtain ⟨y, rfl⟩ : ∃ y : Nat, b = (y : Int) := ⟨b.toNat, by have := hb.1; omega⟩
  have hx := ha.2
  have hy := hb.2
  have KM : Calls Tryd.prog 74 #[.int .u64 9223372036854775808, .int .u64 (x : Int)] w fun e w' => e = .returned (.tuple #[.int .u64 ((9223372036854775808 * x / 18446744073709551616 : Nat) : Int), .int .u64 ((9223372036854775808 * x % 18446744073709551616 : Nat) : Int)]) ∧ w' = w := Tryd.bits_Mul64 9223372036854775808 x (by omega) (by omega) w
  have e1 : 9223372036854775808 * x / 18446744073709551616 = x / 2 := by omega
  obtain ⟨lo, hlo⟩ : ∃ lo, 9223372036854775808 * x % 18446744073709551616 = lo := ⟨_, rfl⟩
  rw [e1, hlo] at KM
  obtain ⟨h, hh⟩ : ∃ h, x / 2 = h := ⟨_, rfl⟩
  rw [hh] at KM
  have hl : lo < 18446744073709551616 := by omega
  have hhx : h * 18446744073709551616 + lo = 9223372036854775808 * x := by omega
  by_cases hc : y ≤ h
  · have t1 : decide ((h : Int) ≥ (y : Int)) = true := decide_eq_true (by omega)
    have t2 : decide (y ≤ h) = true := decide_eq_true hc
    have e : partI (x : Int) (y : Int) = 18446744073709551615 := by unfold partI; rw [if_pos (by omega)]
    rw [e]
    clear hc hh hhx hl hlo e1 ha hb e
    go_enter Tryd.func57, Tryd.ntmps57
    go_wp2_with (first
      | (go_at_call 74; (with_reducible refine KM.mono ?_); rintro e w1 ⟨rfl, rfl⟩)
      | fail)
    go_ret
    exact ⟨rfl, Below.refl _ _⟩
  · have t1 : decide ((h : Int) ≥ (y : Int)) = false := decide_eq_false (by omega)
    have t2 : decide (y ≤ h) = false := decide_eq_false hc
    have KD := Lib.hid (fun W => div64_any h lo y W (by omega) (by omega) hl)
    rw [partI_nat x y (by omega)]
    rw [hhx] at KD
    generalize 9223372036854775808 * x / y = q at *
    clear hc hh hhx hl hlo e1 ha hb
    go_enter Tryd.func57, Tryd.ntmps57
    go_wp2_with (first
      | (go_at_call 74; (with_reducible refine KM.mono ?_); rintro e w1 ⟨rfl, rfl⟩)
      | (go_at_call 75; (with_reducible refine (KD.out _).mono ?_); rintro e w2 ⟨⟨r, rfl⟩, hb⟩)
      | fail)
    go_ret
    exact ⟨rfl, hb⟩
/-- The greatest number of a reckoning that is not too great. -/
theorem most_any (x : Ts) (w : World) (h1 : 0 ≤ x.d - x.j) (h2 : x.d - x.j ≤ 4611686018427387904) :
    Calls Tryd.prog 39 #[tsV x] w fun e w' => e = .returned (.int .u64 (x.d - x.j)) ∧ Below w.heap.size w w' := by
  obtain ⟨w1, w2⟩ := w64 (z := x.d - x.j) (by omega) h2
  have w3 : IntKind.u64.wrap (x.d - x.j) = x.d - x.j := by rw [IntKind.wrap_u64]; omega
  have HT := TAt.new w x
  have c3 := HT.c3
  have c4 := HT.c4
  have hb : Below w.heap.size w (w.alloc (.cells #[.string x.n, .int .i64 x.c, .int .i64 x.t, .int .i64 x.d, .int .i64 x.j, .int .i64 x.q, .int .i64 x.p] 35)) := (Below.refl _ _).alloc (Nat.le_refl _) _
  clear h1 h2 HT
  go_enter Tryd.func39, Tryd.ntmps39
  go_wp2
  go_ret
  exact ⟨rfl, hb⟩
set_option maxRecDepth 100000 in
theorem rmay_any (A : Option Addr) (cap : Nat) (l : List Ts) (i : Int) (w : World) (hR : Row w A cap l) (hi : in64 i) :
    Calls Tryd.prog 26 #[.slice A l.length cap, .int .i64 i] w fun e w' => e = .returned (.bool (isB l i)) ∧ Below w.heap.size w w' := by
  have K := Lib.hid (checkAll_any A cap l w hR)
  have HE : Hid (isB l i = (decide ((chkAll l).2 = 0) && (decide (0 ≤ i) && decide (i < (l.length : Int))))) := Lib.hid rfl
  have hmx := Nat.le_trans hR.le hR.mx
  generalize isB l i = b at *
  generalize (chkAll l).1 = a at *
  generalize (chkAll l).2 = ce at *
  generalize l.length = N at *
  clear hR
  by_cases h1 : i < 0
  · have u1 : decide (i < 0) = true := decide_eq_true h1
    have hb : b = false := by rw [HE.out, decide_eq_false (show ¬ 0 ≤ i by omega)]; simp
    rw [hb]
    clear hb HE
    go_enter Tryd.func26, Tryd.ntmps26
    go_wp2
    go_ret
    exact ⟨rfl, Below.refl _ _⟩
  · have u1 : decide (i < 0) = false := decide_eq_false h1
    by_cases h2 : i < (N : Int)
    · have u2 : decide (i ≥ (N : Int)) = false := decide_eq_false (by omega)
      have u2' : decide ((N : Int) ≤ i) = false := decide_eq_false (by omega)
      have hb : b = (ce == 0) := by rw [HE.out, decide_eq_true (show 0 ≤ i by omega), decide_eq_true h2, Bool.and_true, Bool.and_true]; rfl
      rw [hb]
      clear hb HE
      go_enter Tryd.func26, Tryd.ntmps26
      go_wp2_with (go_at_call 37; (with_reducible refine K.out.mono ?_); rintro e w1 ⟨rfl, h⟩)
      go_ret
      exact ⟨rfl, h⟩
    · have u2 : decide (i ≥ (N : Int)) = true := decide_eq_true (by omega)
      have u2' : decide ((N : Int) ≤ i) = true := decide_eq_true (by omega)
      have hb : b = false := by rw [HE.out, decide_eq_false h2]; simp
      rw [hb]
      clear hb HE
      go_enter Tryd.func26, Tryd.ntmps26
      go_wp2
      go_ret
      exact ⟨rfl, Below.refl _ _⟩
end Go.Proofs.YtnhddnldebdmbaaDoor
