/- Texts about the program, one after the other: DPst, DRis, DSt1, DSte, Door. -/
import Derived.Test.YtepdaghbplfhdaaDoorG5
import Derived.Test.YtepdaghbplfhdaaDoorG7
import Derived.Test.YtepdaghbplfhdaaDoorG6
import Derived.LaidMore
import Derived.Lib.LaidTab
import Derived.Stop.Joined
/- Steps, told by rises: plain words. -/
namespace Go.Proofs.YtepdaghbplfhdaaDoor
open Go.RowKit
set_option linter.unusedVariables false
set_option linter.unusedSimpArgs false
/-- The least number above w in which the task is released more often. -/
def riseS (x : Ts) (w : Int) : Int := if w = 0 then 1 else relS x w * x.t - x.j + 1
def lF (w : Int) (s : Int × Bool) (x : Ts) : Int × Bool := if (!s.2 || decide (riseS x w < s.1)) = true then (riseS x w, true) else s
def leastP (A : List Ts) (w : Int) : Int × Bool := A.foldl (lF w) (0, false)
def stepL (A : List Ts) (m : Int) : Nat → Int → List Int
  | 0, _ => []
  | f + 1, w => if (!(leastP A w).2 || decide ((leastP A w).1 > m)) = true then [] else (leastP A w).1 :: stepL A m f (leastP A w).1
def evB (A : List Ts) (n : Int) : Bool := A.any (fun x => decide (relS x n > relS x (n - 1)))
theorem relS_is {x : Ts} {w : Int} (hx : Rel x) (h1 : 1 ≤ w) (h2 : w ≤ 1099511627776) : relS x w = ceilI (w + x.j) x.t := by
  obtain ⟨⟨t0, t1⟩, j0, j1⟩ := hx
  unfold relS oftS
  rw [if_neg (by omega), satAdd_fit (by omega), ceil_is (by omega) t0]
theorem relS_zero (x : Ts) : relS x 0 = 0 := by unfold relS; rw [if_pos rfl]
/-- A quotient from above, by its two bounds. -/
theorem ceilI_bds {a t : Int} (ht : 1 ≤ t) : a ≤ ceilI a t * t ∧ ceilI a t * t ≤ a + t - 1 := by
  unfold ceilI
  have e := Int.emod_add_mul_ediv (a + t - 1) t
  have r0 := Int.emod_nonneg (a + t - 1) (show t ≠ 0 by omega)
  have r1 := Int.emod_lt_of_pos (a + t - 1) (show 0 < t by omega)
  rw [Int.mul_comm] at e
  omega
theorem ceilI_le_of {a t c : Int} (ht : 1 ≤ t) (h : a ≤ c * t) : ceilI a t ≤ c := by
  have hb := (ceilI_bds (a := a) ht).2
  rcases Int.lt_or_le c (ceilI a t) with hc | hc
  · have : (c + 1) * t ≤ ceilI a t * t := Int.mul_le_mul_of_nonneg_right (by omega) (by omega)
    rw [Int.add_mul, Int.one_mul] at this
    omega
  · exact hc
theorem ceilI_ge_of {a t c : Int} (ht : 1 ≤ t) (h : c * t < a) : c + 1 ≤ ceilI a t := by
  have hb := (ceilI_bds (a := a) ht).1
  rcases Int.lt_or_le c (ceilI a t) with hc | hc
  · omega
  · have : ceilI a t * t ≤ c * t := Int.mul_le_mul_of_nonneg_right hc (by omega)
    omega
theorem rise_spec {x : Ts} {w : Int} (hx : Rel x) (h0 : 0 ≤ w) (h1 : w ≤ 1000000) :
    w < riseS x w ∧ riseS x w ≤ w + 2147483648 ∧ relS x (riseS x w) > relS x (riseS x w - 1) ∧ ∀ n, w < n → n < riseS x w → ¬ relS x n > relS x (n - 1) := by
  have hR := hx
  obtain ⟨⟨t0, t1⟩, j0, j1⟩ := hx
  by_cases hw : w = 0
  · subst hw
    have e : riseS x 0 = 1 := by unfold riseS; rw [if_pos rfl]
    rw [e]
    refine ⟨by omega, by omega, ?_, fun n _ _ => by omega⟩
    rw [show (1 : Int) - 1 = 0 from rfl, relS_zero, relS_is hR (by omega) (by omega)]
    have := ceilI_ge_of (a := 1 + x.j) (c := 0) t0 (by omega)
    omega
  · have hc := relS_is hR (show 1 ≤ w by omega) (by omega)
    obtain ⟨b0, b1⟩ := ceilI_bds (a := w + x.j) t0
    have e : riseS x w = ceilI (w + x.j) x.t * x.t - x.j + 1 := by unfold riseS; rw [if_neg hw, hc]
    rw [e]
    generalize hcc : ceilI (w + x.j) x.t = c at *
    refine ⟨by omega, by omega, ?_, fun n hn1 hn2 => ?_⟩
    · rw [relS_is hR (by omega) (by omega), relS_is hR (by omega) (by omega)]
      have g1 := ceilI_ge_of (a := c * x.t - x.j + 1 + x.j) (c := c) t0 (by omega)
      have g2 := ceilI_le_of (a := c * x.t - x.j + 1 - 1 + x.j) (c := c) t0 (by omega)
      omega
    · rw [relS_is hR (by omega) (by omega), relS_is hR (by omega) (by omega)]
      have g2 := ceilI_le_of (a := n + x.j) (c := c) t0 (by omega)
      have g3 := ceilI_mono (a := w + x.j) (b := n - 1 + x.j) t0 (by omega)
      omega
theorem least_fold (w : Int) : ∀ (A : List Ts) (s : Int × Bool), s.2 = true → (A.foldl (lF w) s).2 = true ∧ (A.foldl (lF w) s).1 ≤ s.1 ∧ (∀ x ∈ A, (A.foldl (lF w) s).1 ≤ riseS x w) ∧ ((A.foldl (lF w) s).1 = s.1 ∨ ∃ x ∈ A, (A.foldl (lF w) s).1 = riseS x w)
  | [], s, h => ⟨h, Int.le_refl _, by simp, .inl rfl⟩
  | a :: A, s, h => by
    have hs : (lF w s a).2 = true := by
      unfold lF
      split
      · rfl
      · exact h
    obtain ⟨r1, r2, r3, r4⟩ := least_fold w A (lF w s a) hs
    have h1 : (lF w s a).1 ≤ s.1 ∧ (lF w s a).1 ≤ riseS a w ∧ ((lF w s a).1 = s.1 ∨ (lF w s a).1 = riseS a w) := by
      unfold lF
      rw [h]
      by_cases hl : riseS a w < s.1
      · rw [if_pos (by simpa using hl)]; exact ⟨by omega, Int.le_refl _, .inr rfl⟩
      · rw [if_neg (by simpa using hl)]; exact ⟨Int.le_refl _, by omega, .inl rfl⟩
    rw [List.foldl_cons]
    refine ⟨r1, by omega, fun x hx => ?_, ?_⟩
    · rcases List.mem_cons.1 hx with rfl | hx
      · omega
      · exact r3 x hx
    · rcases r4 with r4 | ⟨x, hx, r4⟩
      · rcases h1.2.2 with h2 | h2
        · exact .inl (by omega)
        · exact .inr ⟨a, by simp, by omega⟩
      · exact .inr ⟨x, by simp [hx], r4⟩
theorem least_cons (w : Int) (a : Ts) (A : List Ts) : (leastP (a :: A) w).2 = true ∧ (∀ x ∈ a :: A, (leastP (a :: A) w).1 ≤ riseS x w) ∧ ∃ x ∈ a :: A, (leastP (a :: A) w).1 = riseS x w := by
  have e : leastP (a :: A) w = A.foldl (lF w) (riseS a w, true) := rfl
  obtain ⟨r1, r2, r3, r4⟩ := least_fold w A (riseS a w, true) rfl
  rw [e]
  refine ⟨r1, fun x hx => ?_, ?_⟩
  · rcases List.mem_cons.1 hx with rfl | hx
    · exact r2
    · exact r3 x hx
  · rcases r4 with r4 | ⟨x, hx, r4⟩
    · exact ⟨a, by simp, r4⟩
    · exact ⟨x, by simp [hx], r4⟩
theorem least_spec {a : Ts} {A : List Ts} {w : Int} (hA : ∀ x ∈ a :: A, Rel x) (h0 : 0 ≤ w) (h1 : w ≤ 1000000) :
    w < (leastP (a :: A) w).1 ∧ (leastP (a :: A) w).1 ≤ w + 2147483648 ∧ evB (a :: A) (leastP (a :: A) w).1 = true ∧ ∀ n, w < n → n < (leastP (a :: A) w).1 → evB (a :: A) n = false := by
  obtain ⟨_, r2, x, hx, r3⟩ := least_cons w a A
  obtain ⟨s1, s2, s3, _⟩ := rise_spec (hA x hx) h0 h1
  rw [r3]
  refine ⟨s1, s2, List.any_eq_true.2 ⟨x, hx, decide_eq_true s3⟩, fun n hn1 hn2 => ?_⟩
  rw [evB, List.any_eq_false]
  intro z hz
  obtain ⟨_, _, _, z4⟩ := rise_spec (hA z hz) h0 h1
  have := r2 z hz
  simpa using z4 n hn1 (by omega)
/-- The events behind w, up to m. -/
def evs (A : List Ts) (w m : Nat) : List Int := ((List.range' (w + 1) (m - w)).filter (fun k : Nat => evB A (k : Int))).map (fun k : Nat => (k : Int))
theorem stepL_evs {A : List Ts} (hA : ∀ x ∈ A, Rel x) (m : Nat) (hm : m ≤ 1000000) : ∀ (f w : Nat), w ≤ m → m - w ≤ f → stepL A (m : Int) f (w : Int) = evs A w m
  | 0, w, hw, hf => by
    rw [stepL, evs, show m - w = 0 by omega]
    rfl
  | f + 1, w, hw, hf => by
    cases A with
    | nil =>
      rw [stepL, if_pos (show (!(leastP [] (w : Int)).2 || decide ((leastP [] (w : Int)).1 > (m : Int))) = true from rfl), evs, List.filter_eq_nil_iff.2 (by simp [evB])]
      rfl
    | cons a A =>
      obtain ⟨s1, s2, s3, s4⟩ := least_spec hA (w := (w : Int)) (by omega) (by omega)
      have r1 := (least_cons (w : Int) a A).1
      rw [stepL, r1]
      by_cases hn : (leastP (a :: A) w).1 > (m : Int)
      · rw [if_pos (by simpa using hn), evs, List.filter_eq_nil_iff.2 (fun k hk => ?_)]
        · rfl
        · have hk2 := List.mem_range'_1.1 hk
          rw [s4 (k : Int) (by omega) (by omega)]
          decide
      · rw [if_neg (by simpa using hn)]
        obtain ⟨n, hnn⟩ := Int.eq_ofNat_of_zero_le (show 0 ≤ (leastP (a :: A) w).1 by omega)
        rw [hnn] at s1 s2 s3 s4 hn ⊢
        rw [stepL_evs hA m hm f n (by omega) (by omega), evs, evs]
        have e : m - w = (n - 1 - w) + (1 + (m - n)) := by omega
        have e2 : List.range' (w + 1) (m - w) = List.range' (w + 1) (n - 1 - w) ++ (n :: List.range' (n + 1) (m - n)) := by
          rw [e]
          have := @List.range'_append (w + 1) (n - 1 - w) (1 + (m - n)) 1
          rw [Nat.one_mul] at this
          rw [← this, Nat.add_comm 1 (m - n), List.range'_succ, show w + 1 + (n - 1 - w) = n by omega]
        have hnil : (List.range' (w + 1) (n - 1 - w)).filter (fun k : Nat => evB (a :: A) (k : Int)) = [] := List.filter_eq_nil_iff.2 (fun k hk => by
          have hk2 := List.mem_range'_1.1 hk
          rw [s4 (k : Int) (by omega) (by omega)]
          decide)
        rw [e2, List.filter_append, hnil, List.filter_cons, if_pos (by simpa using s3)]
        rfl
theorem stpS_evs (l : List Ts) (i : Int) (A : List Ts) : ∀ m : Nat, (∀ k : Nat, 1 ≤ k → k ≤ m → stpB l i (k : Int) = evB A (k : Int)) → stpS l i m = evs A 0 m
  | 0, _ => rfl
  | m + 1, h => by
    have ih := stpS_evs l i A m (fun k h1 h2 => h k h1 (by omega))
    have h1 := h (m + 1) (by omega) (Nat.le_refl _)
    have e : ((m + 1 : Nat) : Int) = (m : Int) + 1 := by omega
    rw [e] at h1
    rw [stpS, h1, ih, evs, evs]
    simp only [Nat.sub_zero, Nat.zero_add]
    rw [List.range'_concat, List.filter_append, List.map_append]
    simp only [Nat.one_mul]
    rw [show 1 + m = m + 1 by omega, List.filter_cons, List.filter_nil, e]
    cases evB A ((m : Int) + 1)
    · simp
    · simp
theorem sum_lt_any {l : List Ts} {f g : Ts → Int} (h : ∀ x ∈ l, f x ≤ g x) : decide ((l.map f).sum < (l.map g).sum) = l.any (fun x => decide (f x < g x)) := by
  induction l with
  | nil => simp
  | cons a l ih =>
    have ih := ih (fun x hx => h x (by simp [hx]))
    have ha := h a (by simp)
    have hs := sum_le (l := l) (f := f) (g := g) (fun x hx => h x (by simp [hx]))
    rw [List.map_cons, List.map_cons, List.sum_cons, List.sum_cons, List.any_cons, ← ih]
    by_cases h1 : f a < g a
    · rw [decide_eq_true h1, Bool.true_or, decide_eq_true_eq]; omega
    · rw [decide_eq_false h1, Bool.false_or, decide_eq_decide]; omega
/-- A task by what steps hang on. -/
def prT (x : Ts) : Ts := ⟨ByteArray.empty, 0, x.t, 0, x.j, 0, 0⟩
theorem prT_rel (x : Ts) (w : Int) : relS (prT x) w = relS x w := rfl
theorem hi_rel {ts : List Ts} (h : St ts) (p : Int) {w : Int} (h0 : 0 ≤ w) (h1 : w ≤ 1000000) : hiU p w ts = (ts.map (fun x => if x.p < p then relS x w * x.c else 0)).sum := by
  rw [h.hi h0 (by omega)]
  by_cases hw : w = 0
  · rw [if_pos hw, hw]
    have : ∀ l : List Ts, (l.map (fun x => if x.p < p then relS x 0 * x.c else 0)).sum = 0 := fun l => by
      induction l with
      | nil => rfl
      | cons a l ih =>
        rw [List.map_cons, List.sum_cons, ih, relS_zero]
        simp
    rw [this]
  · rw [if_neg hw]
    refine sum_eq fun x hx => ?_
    unfold addH
    split
    · rw [relS_is (h.vs.all x hx).rel (by omega) (by omega)]
    · rfl
theorem rel_mono {x : Ts} {w : Int} (hx : Rel x) (h1 : 1 ≤ w) (h2 : w ≤ 1000000) : relS x (w - 1) ≤ relS x w := by
  by_cases hw : w = 1
  · subst hw
    rw [show (1 : Int) - 1 = 0 from rfl, relS_zero]
    exact (relS_u hx ⟨by decide, by decide⟩).1
  · rw [relS_is hx (by omega) (by omega), relS_is hx (by omega) (by omega)]
    exact ceilI_mono hx.t.1 (by omega)
theorem stp_ev {ts : List Ts} (h : St ts) {k : Nat} {y : Ts} (hy : ts[k]? = some y) {n : Int} (h1 : 1 ≤ n) (h2 : n ≤ 1000000) :
    stpB ts (k : Int) n = evB ((ts.filter (fun x => decide (x.p < y.p))).map prT) n := by
  unfold stpB
  rw [higher_at h.chk hy, higher_at h.chk hy, hi_rel h _ (by omega) h2, hi_rel h _ (by omega) (by omega)]
  show decide (_ < _) = _
  rw [sum_lt_any (fun x hx => ?_)]
  · rw [evB, List.any_map, List.any_filter]
    have hg : ∀ x ∈ ts, (decide ((if x.p < y.p then relS x (n - 1) * x.c else 0) < (if x.p < y.p then relS x n * x.c else 0)) : Bool) = (decide (x.p < y.p) && ((fun x => decide (relS x n > relS x (n - 1))) ∘ prT) x) := fun x hx => by
      have hc : 1 ≤ x.c := (h.vs.all x hx).c0
      have hm := rel_mono (h.vs.all x hx).rel h1 h2
      show _ = (decide (x.p < y.p) && decide (relS x n > relS x (n - 1)))
      by_cases hp : x.p < y.p
      · rw [if_pos hp, if_pos hp, decide_eq_true hp, Bool.true_and, decide_eq_decide]
        refine ⟨fun hl => ?_, fun hl => Int.mul_lt_mul_of_pos_right hl (by omega)⟩
        rcases Int.lt_or_le (relS x (n - 1)) (relS x n) with h9 | h9
        · exact h9
        · have := Int.mul_le_mul_of_nonneg_right h9 (show 0 ≤ x.c by omega)
          omega
      · rw [if_neg hp, if_neg hp, decide_eq_false hp]
        simp
    have : ∀ l : List Ts, (∀ x ∈ l, x ∈ ts) → l.any (fun x => decide ((if x.p < y.p then relS x (n - 1) * x.c else 0) < (if x.p < y.p then relS x n * x.c else 0))) = l.any (fun x => decide (x.p < y.p) && ((fun x => decide (relS x n > relS x (n - 1))) ∘ prT) x) := fun l hl => by
      induction l with
      | nil => rfl
      | cons a l ih =>
        rw [List.any_cons, List.any_cons, hg a (hl a (by simp)), ih (fun x hx => hl x (by simp [hx]))]
    exact this ts (fun x hx => hx)
  · have hc : 1 ≤ x.c := (h.vs.all x hx).c0
    have hm := rel_mono (h.vs.all x hx).rel h1 h2
    split
    · exact Int.mul_le_mul_of_nonneg_right hm (by omega)
    · omega
/-- What Steps holds on to. -/
def aheadS (l : List Ts) (i : Int) : List Ts := if isB l i then (l.filter (fun x => decide (x.p < pOf l i))).map prT else []
theorem ahead_rel {l : List Ts} {i : Int} : ∀ x ∈ aheadS l i, Rel x := by
  unfold aheadS
  split
  · rename_i h
    intro x hx
    obtain ⟨z, hz, rfl⟩ := List.mem_map.1 hx
    have := (isB_vs h).all z (List.mem_filter.1 hz).1
    exact ⟨⟨this.t0, this.t1⟩, this.j0, this.j1⟩
  · intro x hx; cases hx
theorem steps_same {ts : List Ts} (h : St ts) (i : Int) (m : Nat) (hm : m ≤ 4000) : stepL (aheadS ts i) (m : Int) 4096 0 = stpS ts i m := by
  have e := stepL_evs (ahead_rel (l := ts) (i := i)) m (by omega) 4096 0 (by omega) (by omega)
  rw [show ((0 : Nat) : Int) = 0 from rfl] at e
  rw [e]
  symm
  refine stpS_evs ts i _ m fun k h1 h2 => ?_
  cases hb : isB ts i
  · have : aheadS ts i = [] := by unfold aheadS; rw [hb]; rfl
    rw [this]
    unfold stpB higherI
    rw [hb]
    rfl
  · obtain ⟨ki, y, rfl, hki, hy⟩ := isB_get hb
    have : aheadS ts (ki : Int) = (ts.filter (fun x => decide (x.p < y.p))).map prT := by unfold aheadS; rw [hb, if_pos rfl, (pOf_get hy).1]
    rw [this]
    exact stp_ev h hy (by omega) (by omega)
end Go.Proofs.YtepdaghbplfhdaaDoor
/- Rises, and the least of them: the program's own. -/
namespace Go.Proofs.YtepdaghbplfhdaaDoor
open Go.RowKit
set_option linter.unusedVariables false
set_option linter.unusedSimpArgs false
set_option maxRecDepth 100000 in
set_option maxHeartbeats 8000000 in
theorem rise_any (x : Ts) (v : Int) (w : World) (hx : Rel x) (h0 : 0 ≤ v) (h1 : v ≤ 1000000) :
    Calls Tryd.prog 43 #[tsV x, .int .u64 v] w fun e w' => e = .returned (.int .u64 (riseS x v)) ∧ Below w.heap.size w w' := by
  obtain ⟨s1, s2, _, _⟩ := rise_spec hx h0 h1
  have KR := Lib.hid (fun W => rel_any x v W hx ⟨h0, by omega⟩)
  have hru := relS_u hx (w := v) ⟨h0, by omega⟩
  have hE : v ≠ 0 → riseS x v = relS x v * x.t - x.j + 1 := fun h => by unfold riseS; rw [if_neg h]
  obtain ⟨⟨t0, t1⟩, j0, j1⟩ := hx
  have hb : Below w.heap.size w (w.alloc (.cells #[.string x.n, .int .i64 x.c, .int .i64 x.t, .int .i64 x.d, .int .i64 x.j, .int .i64 x.q, .int .i64 x.p] 43)) := (Below.refl _ _).alloc (Nat.le_refl _) _
  by_cases hv : v = 0
  · have e : riseS x v = 1 := by unfold riseS; rw [if_pos hv]
    rw [e]
    subst hv
    clear e KR hE s1 s2
    go_enter Tryd.func43, Tryd.ntmps43
    go_wp2
    go_ret
    exact ⟨rfl, hb⟩
  · have hE := hE hv
    have q0 : (v == 0) = false := by simpa using hv
    have hw1 : IntKind.u64.wrap x.j = x.j := by rw [IntKind.wrap_u64]; omega
    have hw2 : IntKind.u64.wrap x.t = x.t := by rw [IntKind.wrap_u64]; omega
    rw [hE] at s1 s2 ⊢
    generalize relS x v = r at *
    generalize hm : r * x.t = m at *
    have hw3 : IntKind.u64.wrap m = m := by rw [IntKind.wrap_u64]; omega
    have hw4 : IntKind.u64.wrap (m - x.j) = m - x.j := by rw [IntKind.wrap_u64]; omega
    have hw5 : IntKind.u64.wrap (m - x.j + 1) = m - x.j + 1 := by rw [IntKind.wrap_u64]; omega
    have HT := Lib.hid (TAt.new w x)
    have HM := Lib.hid hm
    clear hE hv hm hru
    go_enter Tryd.func43, Tryd.ntmps43
    go_upto_region 3 with (fail)
    obtain ⟨W0, hW0⟩ : ∃ W0, w.alloc (.cells #[.string x.n, .int .i64 x.c, .int .i64 x.t, .int .i64 x.d, .int .i64 x.j, .int .i64 x.q, .int .i64 x.p] 43) = W0 := ⟨_, rfl⟩
    rw [hW0] at HT hb
    try rw [hW0]
    have HB := Lib.hid hb
    clear hW0 hb
    have HV : Hid (Lt W0 W0) := Lib.hid (Below.refl _ _)
    have P0 := fun (i : Wv W0) => (HT.out.later i.lt).c0
    have P1 := fun (i : Wv W0) => (HT.out.later i.lt).c1
    have P2 := fun (i : Wv W0) => (HT.out.later i.lt).c2
    have P3 := fun (i : Wv W0) => (HT.out.later i.lt).c3
    have P4 := fun (i : Wv W0) => (HT.out.later i.lt).c4
    have P5 := fun (i : Wv W0) => (HT.out.later i.lt).c5
    have P6 := fun (i : Wv W0) => (HT.out.later i.lt).c6
    have KB2 := Lib.hid (fun (i : Wv W0) => calls_in (KR.out i.W))
    have hmm := HM.out
    refine wp_region_in HV.out (by kernel_rfl) (by kernel_rfl) ?_
    repeat (go_big_quiet_step ((go_at_call 47; with_reducible exact KB2.out _)))
    refine wpQuiet_nil ?_
    intro _ hw9
    obtain ⟨nq, hw99⟩ := hw9
    subst hw99
    go_wp2
    go_ret
    exact ⟨rfl, HB.out.trans (nq.lt.mono (Below.size HB.out))⟩
set_option maxRecDepth 100000 in
set_option maxHeartbeats 8000000 in
theorem least_any (A : Option Addr) (cap : Nat) (l : List Ts) (v : Int) (w : World) (hR : Row w A cap l) (hl : ∀ x ∈ l, Rel x) (h0 : 0 ≤ v) (h1 : v ≤ 1000000) :
    Calls Tryd.prog 28 #[.slice A l.length cap, .int .u64 v] w fun e w' => e = .returned (.tuple #[.int .u64 (leastP l v).1, .bool (leastP l v).2]) ∧ Below w.heap.size w w' := by
  have hle := hR.le
  have hmx := hR.mx
  have ROW := Lib.hid hR
  have HRL := Lib.hid hl
  have HV := Lib.hid (And.intro h0 h1)
  have HLP : Hid (leastP l v = (l.take l.length).foldl (lF v) (0, false)) := Lib.hid (by rw [List.take_of_length_le (Nat.le_refl _)]; rfl)
  generalize leastP l v = lp at *
  generalize hN : l.length = N at *
  have HN := Lib.hid hN
  clear hR hl hN h0 h1
  go_enter Tryd.func28, Tryd.ntmps28
  go_wp2
  go_loopw [6, 7, 13] (fun f o i wr => ∃ (j : Nat) (n : Int) (q : Bool), j ≤ N ∧ i = .int .i64 j ∧ f = .int .u64 n ∧ o = .bool q ∧ Hid ((l.take j).foldl (lF v) (0, false) = (n, q)) ∧ Hid (Lt w wr)) (fun _ _ i _ => N - (intOf i).toNat)
  case atStart => exact ⟨0, 0, false, Nat.zero_le _, rfl, rfl, rfl, Lib.hid rfl, Lib.hid (Below.refl _ _)⟩
  case round =>
    obtain ⟨j, n, q, hj, rfl, rfl, rfl, HF, HL⟩ := hrel
    by_cases hlt : j < N
    · obtain ⟨b', o, x, rfl, hx, hxw, hbl, hT⟩ := ROW.out.get (k := j) (by rw [HN.out]; exact hlt)
      have hTr := hT.later HL.out
      have c0 := hTr.c0
      have c1 := hTr.c1
      have c2 := hTr.c2
      have c3 := hTr.c3
      have c4 := hTr.c4
      have c5 := hTr.c5
      have c6 := hTr.c6
      have hi0 : (0 : Int) ≤ (j : Int) := by omega
      have hi1 : (j : Int) < ((N : Nat) : Int) := by omega
      have g1 : decide ((j : Int) < (N : Int)) = true := decide_eq_true hi1
      have HST : Hid ((l.take (j + 1)).foldl (lF v) (0, false) = lF v (n, q) x) := Lib.hid (by rw [foldl_snoc _ _ _ _ _ hx, HF.out])
      have KR := Lib.hid (fun W => rise_any x v W (HRL.out x (List.mem_of_getElem? hx)) HV.out.1 HV.out.2)
      have hlF : lF v (n, q) x = if (!q || decide (riseS x v < n)) = true then (riseS x v, true) else (n, q) := rfl
      rw [hlF] at HST
      have HTn := Lib.hid (TAt.new wr x)
      generalize riseS x v = z at *
      clear hT hTr hx hxw hbl hlF
      go_upto_region 5 with (fail)
      obtain ⟨V0, hV0⟩ : ∃ V0, wr.alloc (.cells #[.string x.n, .int .i64 x.c, .int .i64 x.t, .int .i64 x.d, .int .i64 x.j, .int .i64 x.q, .int .i64 x.p] 43) = V0 := ⟨_, rfl⟩
      have HB0 : Hid (Lt w V0) := Lib.hid (by rw [← hV0]; exact HL.out.alloc (Below.size HL.out) _)
      rw [hV0] at HTn
      try rw [hV0]
      have d0 := HTn.out.c0
      have d1 := HTn.out.c1
      have d2 := HTn.out.c2
      have d3 := HTn.out.c3
      have d4 := HTn.out.c4
      have d5 := HTn.out.c5
      have d6 := HTn.out.c6
      clear hV0 c0 c1 c2 c3 c4 c5 c6
      cases q
      · have e1 : (!false || decide (z < n)) = true := rfl
        rw [if_pos e1] at HST
        clear e1
        go_wp2_with (go_at_call 43; (with_reducible refine (KR.out _).mono ?_); rintro e w5 ⟨rfl, h⟩; have HB1 := Lib.hid (lt_step _ _ HB0.out h); clear h)
        go_roundw
        case rel => exact ⟨j + 1, z, true, by omega, by go_num, rfl, rfl, HST, HB1⟩
        case measure => simp [intOf]; omega
      · by_cases hz : z < n
        · have u1 : decide (z < n) = true := decide_eq_true hz
          rw [if_pos (by rw [u1]; rfl)] at HST
          go_wp2_with (go_at_call 43; (with_reducible refine (KR.out _).mono ?_); rintro e w5 ⟨rfl, h⟩; have HB1 := Lib.hid (lt_step _ _ HB0.out h); clear h)
          go_roundw
          case rel => exact ⟨j + 1, z, true, by omega, by go_num, rfl, rfl, HST, HB1⟩
          case measure => simp [intOf]; omega
        · have u1 : decide (z < n) = false := decide_eq_false hz
          rw [if_neg (by rw [u1]; decide)] at HST
          go_wp2_with (go_at_call 43; (with_reducible refine (KR.out _).mono ?_); rintro e w5 ⟨rfl, h⟩; have HB1 := Lib.hid (lt_step _ _ HB0.out h); clear h)
          go_roundw
          case rel => exact ⟨j + 1, n, true, by omega, by go_num, rfl, rfl, HST, HB1⟩
          case measure => simp [intOf]; omega
    · obtain rfl : j = N := by omega
      have g1 : decide ((j : Int) < (j : Int)) = false := decide_eq_false (by omega)
      have e := HLP.out.trans HF.out
      subst e
      go_wp2
      go_ret2
      exact ⟨rfl, HL.out⟩
end Go.Proofs.YtepdaghbplfhdaaDoor
/- Steps, told one by one: the iterator's word. -/
namespace Go.Proofs.YtepdaghbplfhdaaDoor
open Go.RowKit Go.Shelf
set_option linter.unusedVariables false
set_option linter.unusedSimpArgs false
attribute [local go_sem] Oper.semAt_some
abbrev numU (x : Int) : Array Value := #[.int .u64 x]
/-- What the iterator leans on. -/
structure StS (w : World) (A : Option Addr) (cap : Nat) (l : List Ts) (m : Int) (ba bm : Nat) : Prop where
  bx : Boxed w ba 23 (.slice A l.length cap)
  mx : Boxed w bm 24 (.int .u64 m)
  rw_ : Row w A cap l
structure StK (P : Nat → TypeId → Prop) (A : Option Addr) (l : List Ts) (ba bm : Nat) : Prop where
  a : ∀ T, P ba T
  m : ∀ T, P bm T
  r : l ≠ [] → ∀ b o, A = some ⟨b, o, none⟩ → ∀ T, P b T
theorem Row.keepG2 {P : Nat → TypeId → Prop} {A : Option Addr} {cap : Nat} {l : List Ts} {w w' : World} (h : Row w A cap l) (hk : KeepG P w w') (hr : l ≠ [] → ∀ b o, A = some ⟨b, o, none⟩ → ∀ T, P b T) : Row w' A cap l :=
  ⟨h.le, h.mx, h.wf, fun i x hx => by
    obtain ⟨b, o, e, ht⟩ := h.at_ i x hx
    exact ⟨b, o, e, ⟨fun j v hv => hk.cell (ht.r j v hv) (hr (by rintro rfl; simp at hx) b o e)⟩⟩⟩
theorem StS.keep {P : Nat → TypeId → Prop} {A : Option Addr} {cap ba bm : Nat} {l : List Ts} {m : Int} {w w' : World} (h : StS w A cap l m ba bm) (hP : StK P A l ba bm) (hk : KeepG P w w') : StS w' A cap l m ba bm :=
  ⟨hk.boxed h.bx (hP.a _), hk.boxed h.mx (hP.m _), h.rw_.keepG2 hk hP.r⟩
theorem StS.later {A : Option Addr} {cap ba bm : Nat} {l : List Ts} {m : Int} {w w' : World} (h : StS w A cap l m ba bm) (hb : Below w.heap.size w w') : StS w' A cap l m ba bm :=
  h.keep (P := fun _ _ => True) ⟨fun _ => trivial, fun _ => trivial, fun _ _ _ _ _ => trivial⟩ (KeepG.below hb)
theorem stepL_stop {A : List Ts} {m : Int} {f : Nat} {v : Int} (h : (!(leastP A v).2 || decide ((leastP A v).1 > m)) = true) : stepL A m (f + 1) v = [] := by rw [stepL, if_pos h]
theorem stepL_go {A : List Ts} {m : Int} {f : Nat} {v : Int} (h : (!(leastP A v).2 || decide ((leastP A v).1 > m)) = false) : stepL A m (f + 1) v = (leastP A v).1 :: stepL A m f (leastP A v).1 := by rw [stepL, h]; rfl
theorem least_nonneg {A : List Ts} {v : Int} (hA : ∀ x ∈ A, Rel x) (h0 : 0 ≤ v) (h1 : v ≤ 1000000) : 0 ≤ (leastP A v).1 := by
  cases A with
  | nil => exact Int.le_refl _
  | cons a A => have := (least_spec hA h0 h1).1; omega
set_option maxRecDepth 100000 in
set_option maxHeartbeats 4000000 in
theorem steps1_seq (n : Nat) (hn1 : 1 ≤ n) (A : Option Addr) (cap : Nat) (l : List Ts) (m : Int) (ba bm : Nat) (P : Nat → TypeId → Prop) (w : World) (hS : StS w A cap l m ba bm) (hP : StK P A l ba bm) (hl : ∀ x ∈ l, Rel x) (hm0 : 0 ≤ m) (hm1 : m ≤ 1000000) :
    SeqG numU n 27 #[.pointer (some ⟨ba, 0, none⟩), .pointer (some ⟨bm, 0, none⟩)] P (stepL l m 4096 0) w := by
  intro lp J Jx W hW hO hOx hY hJ
  have HS0 := Lib.hid (hS.later hW)
  have HY := Lib.hid hY
  have HP := Lib.hid hP
  have HLR := Lib.hid hl
  have HJ0 := Lib.hid hJ
  have HO := Lib.hid hO
  have HM := Lib.hid (And.intro hm0 hm1)
  clear hS hY hP hl hJ hO hOx hm0 hm1
  refine callsIn_of_wp Tryd.func27 rfl trivial ?_ rfl
  simp only [Tryd.ntmps27, List.size_toArray, List.length_cons, List.length_nil, Nat.reduceAdd, Nat.reduceSub, Array.replicate_succ, Array.replicate_zero, List.push_toArray, List.append_toArray, List.nil_append, List.cons_append]
  refine wpIn_wide.2 (wp_scope_straight ((wpIn_wide (n := n)).1 ?_))
  gi_wp2
  refine wpIn_label ?_
  gi_wp2
  gi_loopw [4, 7] (fun s4 s7 wr => ∃ (k : Nat) (v : Int) (pre : List Int), k ≤ 4096 ∧ s7 = .int .i64 k ∧ s4 = .int .u64 v ∧ Hid (0 ≤ v ∧ v ≤ m) ∧ Hid (stepL l m 4096 0 = pre ++ stepL l m (4096 - k) v) ∧ Hid (J pre wr) ∧ Hid (StS wr A cap l m ba bm) ∧ Hid (W.heap.size ≤ wr.heap.size)) (fun _ s7 _ => 4096 - (intOf s7).toNat)
  case atStart => exact ⟨0, 0, [], Nat.zero_le _, rfl, rfl, Lib.hid ⟨Int.le_refl _, HM.out.1⟩, Lib.hid rfl, HJ0, HS0, Lib.hid (Nat.le_refl _)⟩
  case round =>
    obtain ⟨k, v, pre, hk, rfl, rfl, HV, HL, HJ, HS, HSz⟩ := hrel
    clear HJ0 HS0
    by_cases hlt : k < 4096
    · have hdk : decide ((k : Int) < 4096) = true := decide_eq_true (by omega)
      have hv1 : v ≤ 1000000 := by have := HV.out.2; have := HM.out.2; omega
      have KL := Lib.hid (fun W hR => least_any A cap l v W hR HLR.out HV.out.1 hv1)
      have h0n := least_nonneg HLR.out HV.out.1 hv1
      obtain ⟨f, hf⟩ : ∃ f, 4096 - k = f + 1 := ⟨4095 - k, by omega⟩
      have hfk : 4096 - (k + 1) = f := by omega
      have HFK := Lib.hid hfk
      have HL1 := HL.out
      rw [hf] at HL1
      have ca := HS.out.bx.cell
      have HSTOP := Lib.hid (fun h => HL1.trans (by rw [stepL_stop h]) : (!(leastP l v).2 || decide ((leastP l v).1 > m)) = true → stepL l m 4096 0 = pre ++ [])
      have HGO := Lib.hid (fun h => HL1.trans (by rw [stepL_go h]) : (!(leastP l v).2 || decide ((leastP l v).1 > m)) = false → stepL l m 4096 0 = pre ++ (leastP l v).1 :: stepL l m f (leastP l v).1)
      obtain ⟨nx, hnx⟩ : ∃ nx, (leastP l v).1 = nx := ⟨_, rfl⟩
      obtain ⟨q, hq⟩ : ∃ q, (leastP l v).2 = q := ⟨_, rfl⟩
      simp only [hnx, hq] at KL HSTOP HGO h0n
      clear hnx hq HL1 hf hfk
      have KA : Hid (∀ W, StS W A cap l m ba bm → Calls Tryd.prog 28 #[.slice A l.length cap, .int .u64 v] W fun e w' => e = .returned (.tuple #[.int .u64 nx, .bool q]) ∧ Below W.heap.size W w') := Lib.hid (fun W h => KL.out W h.rw_)
      cases q
      · have HE := Lib.hid (HSTOP.out rfl)
        clear HSTOP HGO
        gi_wp2_with (refine ⟨trivial, ?_⟩; gi_at_call 28; refine (callsIn_wide.2 (KA.out _ HS.out)).mono ?_; rintro e w5 ⟨rfl, hb⟩; have HJ5 := Lib.hid (own_below HO.out HJ.out hb); clear hb)
        simp only [Exit.noGoto]
        go_end0
        exact ⟨⟨_, rfl⟩, .inl (by rw [HE.out, List.append_nil]; exact HJ5.out)⟩
      · by_cases hnm : nx > m
        · have HE := Lib.hid (HSTOP.out (by rw [decide_eq_true hnm]; rfl))
          have u1 : decide (nx > m) = true := decide_eq_true hnm
          have u1' : decide (m < nx) = true := decide_eq_true hnm
          clear HSTOP HGO
          gi_wp2_with (refine ⟨trivial, ?_⟩; gi_at_call 28; refine (callsIn_wide.2 (KA.out _ HS.out)).mono ?_; rintro e w5 ⟨rfl, hb⟩; have HJ5 := Lib.hid (own_below HO.out HJ.out hb); have cm := (HS.out.later hb).mx.cell; clear hb)
          simp only [Exit.noGoto]
          go_end0
          exact ⟨⟨_, rfl⟩, .inl (by rw [HE.out, List.append_nil]; exact HJ5.out)⟩
        · have u1 : decide (nx > m) = false := decide_eq_false hnm
          have u1' : decide (m < nx) = false := decide_eq_false hnm
          have HE := Lib.hid (HGO.out (by rw [u1]; rfl))
          have HNM := Lib.hid hnm
          clear HSTOP HGO hnm
          gi_wp2_with (refine ⟨trivial, ?_⟩; gi_at_call 28; refine (callsIn_wide.2 (KA.out _ HS.out)).mono ?_; rintro e w5 ⟨rfl, hb⟩; have HS5 := Lib.hid (HS.out.later hb); have cm := HS5.out.mx.cell; have HZ5 := Lib.hid (Nat.le_trans HSz.out hb.size); obtain ⟨fn, tmps, assign, body, hy, hR⟩ := HY.out pre nx _ w5 (own_below HO.out HJ.out hb) HE.out; simp only [numU] at hy; clear hb)
          refine hR.mono ?_
          rintro e W3 (⟨rfl, hJ4, hk4, -⟩ | ⟨rfl, hJx4, -⟩)
          · have HS4 := Lib.hid (HS5.out.keep HP.out hk4)
            have HZ4 := Lib.hid (Nat.le_trans HZ5.out hk4.size)
            gi_wp2
            go_roundw
            case rel => exact ⟨k + 1, nx, pre ++ [nx], by omega, by go_num, rfl, Lib.hid ⟨h0n, by have := HNM.out; omega⟩, Lib.hid (by rw [HFK.out, HE.out]; simp), Lib.hid hJ4, HS4, HZ4⟩
            case measure => simp [intOf]; omega
          · gi_wp2
            simp only [Exit.noGoto]
            go_end0
            exact ⟨⟨_, rfl⟩, .inr ⟨pre, nx, _, HE.out, hJx4⟩⟩
    · obtain rfl : k = 4096 := by omega
      have hdk : decide (((4096 : Nat) : Int) < 4096) = false := by decide
      have HE := Lib.hid HL.out
      gi_wp2
      simp only [Exit.noGoto]
      go_end0
      exact ⟨⟨_, rfl⟩, .inl (by rw [HE.out]; simpa [stepL] using HJ.out)⟩
end Go.Proofs.YtepdaghbplfhdaaDoor
/- Steps: the program's own. -/
namespace Go.Proofs.YtepdaghbplfhdaaDoor
open Go.RowKit Go.Shelf
set_option linter.unusedVariables false
set_option linter.unusedSimpArgs false
attribute [local go_sem] Oper.semAt_some
def P2 (B0 Bw : Nat) (k : Nat) (T : TypeId) : Prop := (k < Bw ∧ k ≠ B0) ∨ T = 57 ∨ T = 71
theorem own_grown {W W' : World} {row : Option Nat} (hg : W.grownBy W' row) (hn : ∀ r, row = some r → ∃ o : Obj, W.heap[r]? = some o ∧ o.isCells = false) {base e size k : Nat} {v : Value} {xs : List Value} (hr : W.ownsRow base e size v k xs) : W'.ownsRow base e size v k xs := by
  obtain ⟨h1, h2⟩ := hr
  refine ⟨h1, ?_⟩
  rcases h2 with h2 | ⟨g, cap, cur, hv, hg2, hh, r⟩
  · exact .inl h2
  · subst hv
    exact .inr ⟨g, cap, cur, rfl, hg2, (grownBy_keeps_cells hg hn hh rfl).trans hh, r⟩
theorem own_aside {W : World} {B : Nat} (u : Value) {base e size k : Nat} {v : Value} {xs : List Value} (hr : W.ownsRow base e size v k xs) (hB : B < base) : (W.setCell ⟨B, 0, none⟩ u).ownsRow base e size v k xs := by
  obtain ⟨h1, h2⟩ := hr
  refine ⟨h1, ?_⟩
  rcases h2 with h2 | ⟨g, cap, cur, hv, hg2, hh, r⟩
  · exact .inl h2
  · subst hv
    exact .inr ⟨g, cap, cur, rfl, hg2, (heap_setCell_other W ⟨B, 0, none⟩ g u (by show g ≠ B; omega)).trans hh, r⟩
/-- While the row is being filled. -/
structure SeI (w : World) (Bw : Nat) (m : Int) (pre : List Ts) (v : Value) (V : World) : Prop where
  b : Below w.heap.size w V
  mx : Boxed V w.heap.size 24 (.int .u64 m)
  bx : Boxed V (w.heap.size + 1) 23 v
  si : SetIn Bw V v pre.length (pre.map prT)
theorem SeI.own {w V V' : World} {Bw : Nat} {m : Int} {pre : List Ts} {v : Value} {row : Option Nat} {D : Nat} (h : SeI w Bw m pre v V) (hg : V.grownBy V' row) (hr : ∀ r, row = some r → D ≤ r ∧ ∃ o : Obj, V.heap[r]? = some o ∧ o.isCells = false) (hB : w.heap.size ≤ D) : SeI w Bw m pre v V' :=
  ⟨h.b.grown hg h.b.size (fun k e => by have := (hr k e).1; omega), boxed_kept h.mx hg (fun r e => (hr r e).2), boxed_kept h.bx hg (fun r e => (hr r e).2), ⟨h.si.len, h.si.wf, own_grown hg (fun r e => (hr r e).2) h.si.row⟩⟩
theorem SeI.later {w V V' : World} {Bw : Nat} {m : Int} {pre : List Ts} {v : Value} (h : SeI w Bw m pre v V) (hb : Below V.heap.size V V') : SeI w Bw m pre v V' :=
  ⟨h.b.trans (hb.mono h.b.size), boxed_later2 h.mx hb, boxed_later2 h.bx hb, ⟨h.si.len, h.si.wf, own_stay hb h.si.row⟩⟩
theorem prT_w {x : Ts} (h : Rel x) : TsW (prT x) := by
  obtain ⟨⟨t0, t1⟩, j0, j1⟩ := h
  have z : in64 0 := ⟨by decide, by decide⟩
  exact ⟨Nat.zero_le _, z, ⟨by show _ ≤ x.t; omega, by show x.t ≤ _; omega⟩, z, ⟨by show _ ≤ x.j; omega, by show x.j ≤ _; omega⟩, z, z⟩
/-- Behind a round. -/
theorem SeI.step {w V w4 : World} {Bw : Nat} {m : Int} {pre : List Ts} {v v' : Value} {x : Ts} (h : SeI w Bw m pre v V) (hx : Rel x) (hBw : w.heap.size + 2 ≤ Bw) (hV : Bw ≤ V.heap.size) (o : Obj)
    (hown : w4.ownsRow Bw 43 7 v' (pre.length + 1) (tsCells (pre.map prT) ++ tsL (prT x))) (hg : (V.alloc o).grownBy w4 v.ownBlock) :
    SeI w Bw m (pre ++ [x]) v' (w4.setCell ⟨w.heap.size + 1, 0, none⟩ v') ∧ KeepG (P2 (w.heap.size + 1) Bw) V (w4.setCell ⟨w.heap.size + 1, 0, none⟩ v') ∧ KeepsFrom Bw V (w4.setCell ⟨w.heap.size + 1, 0, none⟩ v') := by
  have ha : Below V.heap.size V (V.alloc o) := (Below.refl _ _).alloc (Nat.le_refl _) _
  have h1 := h.later ha
  have hrow := h1.si.row
  have hge : ∀ g, v.ownBlock = some g → Bw ≤ g := fun g hg' => (h1.si.row.lt g hg').1
  have hsz : (V.alloc o).heap.size = V.heap.size + 1 := by simp
  have hty : ∀ g, v.ownBlock = some g → ∃ cs fr, (V.alloc o).heap[g]? = some (.cells cs 43 fr) := fun g hg' => by
    rcases hrow.2 with h2 | ⟨g2, cap, cur, hv, _, hh, _⟩
    · rw [h2.1] at hg'; cases hg'
    · rw [hv] at hg'
      cases hg'
      exact ⟨_, _, hh⟩
  have b4 : Below w.heap.size w w4 := h1.b.grown hg h1.b.size (fun g e => by have := hge g e; omega)
  have mx4 : Boxed w4 w.heap.size 24 (.int .u64 m) := (hg.block _ h1.mx.lt (fun e => by have := hge _ e.symm; omega)).trans h1.mx
  have bx4 : Boxed w4 (w.heap.size + 1) 23 v := (hg.block _ h1.bx.lt (fun e => by have := hge _ e.symm; omega)).trans h1.bx
  refine ⟨⟨b4.setCell (p := ⟨w.heap.size + 1, 0, none⟩) (by show w.heap.size ≤ w.heap.size + 1; omega) _, Boxed.other mx4 (by omega) _, Boxed.set _ bx4, ?_⟩, ?_, ?_⟩
  · have := h1.si.snoc (prT_w hx) hown
    rw [List.map_append, List.length_append]
    exact ⟨this.len, this.wf, own_aside _ this.row (by omega)⟩
  · refine (KeepG.below ha).trans (KeepG.trans ⟨hg.size, fun k cs T fr hp hk => (hg.block k (Array.getElem?_eq_some_iff.1 hk).1 (fun e => ?_)).trans hk⟩ (KeepG.setCell _ fun cs T fr hc => ?_))
    · obtain ⟨cs', fr', hh⟩ := hty k e.symm
      rw [hh] at hk
      simp only [Option.some.injEq, Obj.cells.injEq] at hk
      have hk3 := hge k e.symm
      rcases hp with hp | hp | hp
      · omega
      · rw [← hk.2.1] at hp; exact absurd hp (by decide)
      · rw [← hk.2.1] at hp; exact absurd hp (by decide)
    · have hb4 : w4.heap[w.heap.size + 1]? = some (.cells #[v] 23 (0, 0)) := bx4
      rw [show w4.heap[(⟨w.heap.size + 1, 0, none⟩ : Addr).block]? = _ from hb4] at hc
      simp only [Option.some.injEq, Obj.cells.injEq] at hc
      rintro (hp | hp | hp)
      · exact hp.2 rfl
      · rw [← hc.2.1] at hp; exact absurd hp (by decide)
      · rw [← hc.2.1] at hp; exact absurd hp (by decide)
  · refine (keepsFrom_later ha).trans (KeepsFrom.trans ⟨hg.size, fun k p _ hk hp => (hg.block k (Array.getElem?_eq_some_iff.1 hk).1 (fun e => ?_)).trans hk⟩ ((KeepsOthers.setCell _ _ _).from _))
    obtain ⟨cs', fr', hh⟩ := hty k e.symm
    rw [hh] at hk
    cases hk
    simp [Obj.isCells] at hp
theorem SeI.bx4 {w V w4 : World} {Bw : Nat} {m : Int} {pre : List Ts} {v : Value} (h : SeI w Bw m pre v V) (hBw : w.heap.size + 2 ≤ Bw) (o : Obj) (hg : (V.alloc o).grownBy w4 v.ownBlock) : Boxed w4 (w.heap.size + 1) 23 v := by
  have h1 := h.later ((Below.refl _ _).alloc (Nat.le_refl _) o)
  exact (hg.block _ h1.bx.lt (fun e => by have := (h1.si.row.lt _ e.symm).1; omega)).trans h1.bx
/-- What Steps tells. -/
def SteP (l : List Ts) (i m : Int) (w : World) (e : Ending) (w' : World) : Prop := ∃ A cap, e = .returned (.func (.func 27) #[] #[.pointer (some ⟨w.heap.size + 1, 0, none⟩), .pointer (some ⟨w.heap.size, 0, none⟩)]) ∧
  StS w' A cap (aheadS l i) m (w.heap.size + 1) w.heap.size ∧ Below w.heap.size w w' ∧ (aheadS l i ≠ [] → ∀ b o, A = some ⟨b, o, none⟩ → w.heap.size ≤ b ∧ b < w'.heap.size)
theorem SeI.fin {w V : World} {Bw : Nat} {m : Int} {L : List Ts} {v : Value} (h : SeI w Bw m L v V) (hB : w.heap.size ≤ Bw) :
    ∃ A cap, StS V A cap (L.map prT) m (w.heap.size + 1) w.heap.size ∧ (L.map prT ≠ [] → ∀ b o, A = some ⟨b, o, none⟩ → w.heap.size ≤ b ∧ b < V.heap.size) := by
  obtain ⟨A, cap, hv, hR⟩ := h.si.rowR
  have hbx := h.bx
  rw [hv] at hbx
  refine ⟨A, cap, ⟨hbx, h.mx, hR⟩, fun hne b o e => ?_⟩
  have hk : 0 < (L.map prT).length := List.length_pos_iff.2 hne
  obtain ⟨b', o', x, e', _, _, hlt, _⟩ := hR.get hk
  rw [e] at e'
  cases e'
  have ho : v.ownBlock = some b := by
    rcases h.si.row.2 with h2 | ⟨g2, cap2, cur, hv2, _, hh, _⟩
    · have := h.si.len; omega
    · rw [hv2] at hv
      simp only [Value.slice.injEq] at hv
      rw [e] at hv
      have : g2 = b := by have := hv.1; simp at this; exact this.1
      rw [hv2, this]; rfl
  exact ⟨Nat.le_trans hB (h.si.row.lt b ho).1, hlt⟩
set_option maxRecDepth 100000 in
set_option maxHeartbeats 8000000 in
theorem steps_any (A : Option Addr) (cap : Nat) (l : List Ts) (i m : Int) (w : World) (hR : Row w A cap l) (hi : in64 i) (hT : Tab w) :
    Calls Tryd.prog 15 #[.slice A l.length cap, .int .i64 i, .int .u64 m] w (SteP l i m w) := by
  have hmf : ∀ (fn : Fn) (first cap : Array Value) (w : World), (Instr.makeFunc fn first cap).run Tryd.prog w = .ok (.func fn first cap) w := fun _ _ _ _ => rfl
  obtain ⟨i0, hii, hz0, hz1, hz2⟩ := info_parts infoTs
  have hb1 : Below w.heap.size w ((w.alloc (.cells #[.int .u64 m] 24)).alloc (.cells #[.slice none 0 0] 23)) := ((Below.refl _ _).alloc (Nat.le_refl _) _).alloc (by simp) _
  obtain ⟨W1, hW1, X1, R1, T1, s1⟩ : ∃ W1, (w.alloc (.cells #[.int .u64 m] 24)).alloc (.cells #[.slice none 0 0] 23) = W1 ∧ (∀ B, SeI w B m [] (.slice none 0 0) W1) ∧ Row W1 A cap l ∧ Tab W1 ∧ W1.heap.size = w.heap.size + 2 :=
    ⟨_, rfl, fun B => ⟨hb1, Boxed.alloc (Boxed.new _ _ _) _, by have := Boxed.new (w.alloc (.cells #[.int .u64 m] 24)) 23 (.slice none 0 0); rwa [World.size_alloc] at this, SetIn.nil _ _⟩, hR.later hb1, hT.below hb1, by simp⟩
  have K := Lib.hid (dmay_any A cap l i W1 R1 hi)
  have htab := hT.pos
  have HW1 := Lib.hid hW1
  cases hb : isB l i
  · rw [hb] at K
    have ha : aheadS l i = [] := by unfold aheadS; rw [hb]; rfl
    have FIN : Hid (∀ W, Below W1.heap.size W1 W → ∃ A cap, StS W A cap (aheadS l i) m (w.heap.size + 1) w.heap.size ∧ Below w.heap.size w W ∧ (aheadS l i ≠ [] → ∀ b o, A = some ⟨b, o, none⟩ → w.heap.size ≤ b ∧ b < W.heap.size)) := Lib.hid (fun W hW => by
      have h := (X1 0).later hW
      refine ⟨none, 0, ⟨by rw [ha]; exact h.bx, h.mx, by rw [ha]; exact Row.nil _ _ (by omega)⟩, h.b, fun h => absurd ha h⟩)
    clear hb hb1 hR hT R1 T1 X1 hW1 ha
    generalize l.length = N at *
    go_enter Tryd.func15, Tryd.ntmps15
    go_upto_region 2 with (fail)
    rw [HW1.out]
    go_wp2_with (go_at_call 24; (with_reducible refine K.out.mono ?_); rintro e w1 ⟨rfl, h⟩)
    obtain ⟨A', cap', f1, f2, f3⟩ := FIN.out _ h
    go_ret
    exact ⟨A', cap', rfl, f1, f2, f3⟩
  · rw [hb] at K
    have hv := isB_vs hb
    obtain ⟨ki, y, rfl, hki, hy⟩ := isB_get hb
    have hA : aheadS l (ki : Int) = (l.filter (fun x => decide (x.p < y.p))).map prT := by unfold aheadS; rw [hb, if_pos rfl, (pOf_get hy).1]
    have hvl := hv.n1
    obtain ⟨b, o, x0, rfl, -, -, hbl, -⟩ := hR.get hki
    have KH := Lib.hid (fun W (h : Below W1.heap.size W1 W) => thigher_any (some ⟨b, o, none⟩) cap l (ki : Int) W (R1.later h) hi)
    have KA := Lib.hid (fun W => at_any (some ⟨b, o, none⟩) l.length cap (higherF l (ki : Int)) W)
    have HIN : Hid (∀ j, higherF l (ki : Int) j = true → j < l.length) := Lib.hid (fun j hj => by
      rcases Nat.lt_or_ge j l.length with h | h
      · exact h
      · rw [higherF_far h] at hj; cases hj)
    have HLT := Lib.hid (higher_tks hv hy)
    have HOK : Hid (∀ x ∈ l.filter (fun x => decide (x.p < y.p)), Rel x) := Lib.hid (fun x hx => (hv.all x (List.mem_filter.1 hx).1).rel)
    have HLL : Hid ((l.filter (fun x => decide (x.p < y.p))).length ≤ 1024) := Lib.hid (by have := List.length_filter_le (fun x : Ts => decide (x.p < y.p)) l; omega)
    unfold SteP
    rw [hA]
    generalize l.filter (fun x => decide (x.p < y.p)) = L at *
    have X1 := Lib.hid X1
    have R1 := Lib.hid R1
    have T1 := Lib.hid T1
    clear hb hA hb1 hR hT hv hy hvl hW1
    generalize higherF l (ki : Int) = f at *
    refine (callsIn_wide (n := 5)).1 ?_
    refine callsIn_of_wp_marks Tryd.func15 rfl trivial ?_ rfl
    simp only [Tryd.ntmps15, List.size_toArray, List.length_cons, List.length_nil, Nat.reduceAdd, Nat.reduceSub, Array.replicate_succ, Array.replicate_zero, List.push_toArray, List.append_toArray, List.nil_append, List.cons_append]
    refine wpIn_wide.2 ?_
    go_upto_region 2 with (fail)
    rw [HW1.out]
    clear HW1
    go_wp2_with (first
      | (go_at_call 24; (with_reducible refine K.out.mono ?_); rintro e w1 ⟨rfl, h1⟩)
      | (go_at_call 26; (with_reducible refine (KH.out _ h1).mono ?_); rintro e w2 ⟨rfl, h2⟩)
      | (go_at_call 25; (with_reducible refine (KA.out _).mono ?_); rintro e w3 ⟨rfl, rfl⟩)
      | fail)
    have h12 : Below W1.heap.size W1 w2 := h1.trans (h2.mono h1.size)
    have X2 := fun B => (X1.out B).later h12
    have R2 := R1.out.later h12
    have T2 := T1.out.below h12
    obtain ⟨W3, hW3, S3, B3, s3⟩ := at_made R2 T2 HIN.out
    rw [hW3]
    have X3 := (X2 W3.heap.size).later B3
    have hsz2 := (X2 0).b.size
    have hsz1 := h12.size
    have hBw : w.heap.size + 2 ≤ W3.heap.size := by omega
    have HP : Hid (AtP (P2 (w.heap.size + 1) W3.heap.size) (some ⟨b, o, none⟩) w2.heap.size) := Lib.hid ⟨fun _ => .inr (.inl rfl), fun _ => .inr (.inr rfl), fun _ => .inl ⟨by omega, by omega⟩, fun _ => .inl ⟨by omega, by omega⟩, by rintro b' o' e T; cases e; exact .inl ⟨by omega, by omega⟩⟩
    have SQ := at1_seq (5 - 1) (by omega) (some ⟨b, o, none⟩) cap l f (w2.heap.size + 1) w2.heap.size (P2 (w.heap.size + 1) W3.heap.size) W3 S3 HP.out
    rw [HLT.out] at SQ
    have SQ := Lib.hid SQ
    clear hW3 S3 HP HLT X2 R2 T2 h12 h1 h2 K KH KA HIN X1 R1 T1 B3
    have hws : w.heap.size ≤ W3.heap.size := by omega
    clear s1 s3 hsz1 hsz2
    refine (wpIn_wide (n := 5)).1 ?_
    refine wpIn_named fun fr hfr => ?_
    refine rangeG (vals := tskV) (gf := 39) (lb := #[.pointer (some ⟨w2.heap.size + 1, 0, none⟩), .pointer (some ⟨w2.heap.size, 0, none⟩)]) (by rw [hfr]; rfl) (enters_of Tryd.func39 (by kernel_rfl) rfl)
      SQ.out (Below.refl _ _) (fun x => rfl)
      (fun pre V => ∃ v, SeI w W3.heap.size m pre v V ∧ W3.heap.size ≤ V.heap.size) (fun _ _ _ => False)
      (fun pre X Y row h hg hr => h.imp fun v h => ⟨h.1.own hg hr hws, Nat.le_trans h.2 hg.size⟩) (fun c s X Y row h _ _ => h) ⟨_, X3, Nat.le_refl _⟩
      (fun x a' V => ∃ Bt, TAt V Bt 0 x ∧ a' = { tmps := (fr.tmps.setIfInBounds 17 (tsV x)).setIfInBounds 8 (.pointer (some ⟨Bt, 0, none⟩)), defers := [] })
      (fun x a' _ X Y row hs hg hr => hs.imp fun Bt h => ⟨h.1.keepG (keepG_grown hg (fun r e => (hr r e).2)), h.2⟩)
      ?assign ?body ?done ?stop
    case assign =>
      intro l2 pre x V K ⟨v, hi, hVs⟩ hK
      have hTn := TAt.new V x
      have hIn := hi.later ((Below.refl _ _).alloc (Nat.le_refl _) (.cells #[.string x.n, .int .i64 x.c, .int .i64 x.t, .int .i64 x.d, .int .i64 x.j, .int .i64 x.q, .int .i64 x.p] 43))
      subst hfr
      clear SQ
      gi_wp2
      exact hK _ _ ((KeepsOthers.alloc _ _).from _) (KeepG.below ((Below.refl _ _).alloc (Nat.le_refl _) _)) ⟨v, hIn, by simp; omega⟩ ⟨V.heap.size, hTn, rfl⟩
    case body =>
      rintro l2 pre x a' V ⟨v, hi, hVs⟩ ⟨Bt, hT, rfl⟩ ⟨r, hr⟩
      have hx := HOK.out x (by rw [hr]; simp)
      have hpl : pre.length ≤ 1024 := by have := HLL.out; rw [hr] at this; simp at this; omega
      have HPL := Lib.hid hpl
      have cb := hi.bx.cell
      have c2 := hT.c2
      have c4 := hT.c4
      have H7 := Lib.hid (seven_new V (prT x))
      have HI := Lib.hid hi
      have HX := Lib.hid hx
      have HBW := Lib.hid (And.intro hBw hVs)
      have hbx1 := (hi.later ((Below.refl _ _).alloc (Nat.le_refl _) (.cells #[.string (prT x).n, .int .i64 (prT x).c, .int .i64 (prT x).t, .int .i64 (prT x).d, .int .i64 (prT x).j, .int .i64 (prT x).q, .int .i64 (prT x).p] 43))).bx
      have HB1 := Lib.hid hbx1
      subst hfr
      clear SQ HOK HLL hT hi hr hx hpl hbx1
      dsimp only [List.setIfInBounds_toArray, List.set_cons_succ, List.set_cons_zero]
      gi_wp2_with (gi_at_builtin; refine wpListIn_append_own _ rfl _ _ 23 rfl W3.heap.size 43 i0 _ 7 64 Tryd.underlying23 hii hz0 hz1 hz2 rfl (by decide) _ pre.length (tsCells (pre.map prT)) rfl ((HI.out.later ((Below.refl _ _).alloc (Nat.le_refl _) _)).si.row) ⟨V.heap.size, 0, none⟩ 1 1 (tsL (prT x)) rfl rfl H7.out (tsL_one _) (by have := HPL.out; unfold maxLen; omega) (by have := HPL.out; omega) (by have := HBW.out.2; simp; omega) ?_; intro v' w4 hown hgrow hnil; have b9 := HI.out.bx4 HBW.out.1 _ hgrow; have c9 := b9.cell; have f9 := b9.frozen; obtain ⟨A9, cap9, e9, _, _⟩ := own_len hown; subst e9; have HOW := Lib.hid hown; have HGR := Lib.hid hgrow; clear hown hgrow hnil b9)
      obtain ⟨g1, g2, g3⟩ := HI.out.step HX.out HBW.out.1 HBW.out.2 _ HOW.out HGR.out
      exact ⟨g3, g2, _, g1, Nat.le_trans HBW.out.2 g2.size⟩
    case done =>
      rintro D V hD ⟨v, hi, hVs⟩ hK
      have hi2 := hi.own (D := w.heap.size) (grownBy_putObj' V D (.deferred none)) (fun r e => by cases e; exact ⟨Nat.le_trans hws hD, _, hK, rfl⟩) (Nat.le_refl _)
      obtain ⟨A', cap', f1, f2⟩ := hi2.fin hws
      have HF1 := Lib.hid f1
      have HF2 := Lib.hid f2
      have HF3 := Lib.hid hi2.b
      subst hfr
      clear SQ HOK HLL hi hi2 f1 f2
      go_wp2
      refine ⟨by simp, .inl ⟨_, _, rfl, run_takeDeferred hK, ?_⟩⟩
      exact ⟨_, by simp [results, Tryd.f15, go_sem], A', cap', rfl, HF1.out, HF3.out, HF2.out⟩
    case stop =>
      rintro D c pre x V hD hr h hK
      exact h.elim
end Go.Proofs.YtepdaghbplfhdaaDoor
/- What the rows' condition on math/bits' table gives the walks, and the heap that meets it. -/
namespace Go.Proofs.YtepdaghbplfhdaaDoor
open Go.ChangeShapes Go.WideShapes Go.ChangeAt Go.RowKit
set_option linter.unusedVariables false

theorem own : ownKnob Tryd.prog.godebug = none := by kernel_rfl
theorem laidOut : laidOutB Tryd.prog = true := by kernel_rfl
/-- The condition's list, as the rows bear it. -/
abbrev LL : List (String × DataW Unit) := Rows.demandTellsRow.laid
theorem door_met (os : Os) (args : Array Value) : laidMetH Tryd.prog LL ((World.doorLaid Tryd.prog 4000 os).forCall (fun _ _ => 0) ⟨#[], args, []⟩).memory :=
  laidMetH_of_parts3 (fuel := 8) (laidMet_of_run' 8 (by kernel_rfl) (by kernel_rfl)) (by kernel_rfl) (by kernel_rfl)
theorem tab_of_laid {W : World} (h : laidMetH Tryd.prog LL W) : Tab W := by
  rw [MakeChecks.laidMetH_plain _ _ _ (by kernel_rfl)] at h
  have ht := Lib.tabIs_of_head (P := Tryd.prog) (W := W) (k := .u8) (zs := deB.map fun n : Nat => (n : Int)) (rest := []) (g := 0) (t := 93) (e := 5) (n := 64) (by kernel_rfl) (by kernel_rfl) Tryd.underlying93 Tryd.underlying5 (by kernel_rfl) (by kernel_rfl) h
  intro i v hv
  have := World.var?_cell (g := 0) (by kernel_rfl) ht i
  rw [this]
  simp [hv]
end Go.Proofs.YtepdaghbplfhdaaDoor
