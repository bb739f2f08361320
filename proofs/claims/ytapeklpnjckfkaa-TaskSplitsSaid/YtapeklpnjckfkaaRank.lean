/- Rank; how many are in a set. -/
import Derived.Test.YtapeklpnjckfkaaOrder2
import Derived.Test.YtapeklpnjckfkaaLower
namespace Go.Proofs.Ytapeklpnjckfkaa
open Go.RowKit
set_option linter.unusedVariables false
set_option linter.unusedSimpArgs false

instance (l : List Ts) (a b : Nat) : Decidable (Ahead l a b) := by unfold Ahead; infer_instance
def aheadB (l : List Ts) (i : Nat) : Nat → Bool := fun k => decide (Ahead l k i)
def cntTo (f : Nat → Bool) (k : Nat) : Nat := (List.range k).countP f
theorem cntTo_zero (f : Nat → Bool) : cntTo f 0 = 0 := rfl
theorem cntTo_yes {f : Nat → Bool} {k : Nat} (h : f k = true) : cntTo f (k + 1) = cntTo f k + 1 := by
  rw [cntTo, List.range_succ, List.countP_append, List.countP_singleton, if_pos h]; rfl
theorem cntTo_no {f : Nat → Bool} {k : Nat} (h : f k = false) : cntTo f (k + 1) = cntTo f k := by
  rw [cntTo, List.range_succ, List.countP_append, List.countP_singleton, if_neg (by rw [h]; simp)]; rfl
theorem cntTo_le (f : Nat → Bool) (k : Nat) : cntTo f k ≤ k := by
  have := List.countP_le_length (p := f) (l := List.range k)
  rwa [List.length_range] at this

/-- Of a row of which just the first q are so, q are so. -/
theorem countP_first (f : Nat → Bool) : ∀ (o : List Nat) (q : Nat), q ≤ o.length → (∀ k a, o[k]? = some a → (f a = true ↔ k < q)) → o.countP f = q
  | [], q, hq, _ => by simp at hq; subst hq; rfl
  | a :: r, q, hq, h => by
    have h0 := h 0 a rfl
    cases q with
    | zero =>
      have hf : f a = false := by
        cases hfa : f a with
        | false => rfl
        | true => exact absurd (h0.1 hfa) (by omega)
      rw [List.countP_cons_of_neg (by rw [hf]; simp)]
      exact countP_first f r 0 (Nat.zero_le _) fun k b hb => by
        have := h (k + 1) b (by simpa using hb)
        constructor
        · intro e; have := this.1 e; omega
        · intro e; omega
    | succ q =>
      rw [List.countP_cons_of_pos (h0.2 (by omega))]
      congr 1
      exact countP_first f r q (by simp at hq; omega) fun k b hb => by
        have := h (k + 1) b (by simpa using hb)
        constructor
        · intro e; have := this.1 e; omega
        · intro e; exact this.2 (by omega)
theorem IsOrd.count {l : List Ts} {o : List Nat} (h : IsOrd l o) (f : Nat → Bool) (q : Nat) (hq : q ≤ l.length) (hf : ∀ k a, o[k]? = some a → (f a = true ↔ k < q)) : cntTo f l.length = q := by
  rw [cntTo, ← h.perm.countP_eq]
  exact countP_first f o q (by rw [h.len]; exact hq) hf
theorem IsOrd.at_ {l : List Ts} {o : List Nat} (h : IsOrd l o) {i : Nat} (hi : i < l.length) : ∃ q, q < l.length ∧ o[q]? = some i := by
  have : i ∈ o := h.perm.mem_iff.2 (by simpa using hi)
  obtain ⟨q, hq, e⟩ := List.getElem_of_mem this
  exact ⟨q, by rw [← h.len]; exact hq, by rw [List.getElem?_eq_getElem hq, e]⟩
theorem IsOrd.rank {l : List Ts} {o : List Nat} (h : IsOrd l o) {q i : Nat} (hq : o[q]? = some i) : cntTo (aheadB l i) l.length = q := by
  have hlt := (List.getElem?_eq_some_iff.1 hq).1
  rw [h.len] at hlt
  refine h.count _ q (by omega) fun k a ha => ?_
  simp only [aheadB, decide_eq_true_eq]
  rcases Nat.lt_trichotomy k q with hk | hk | hk
  · exact ⟨fun _ => hk, fun _ => h.srt k q a i hk ha hq⟩
  · subst hk
    obtain rfl : a = i := Option.some.inj (ha.symm.trans hq)
    refine ⟨fun e => ?_, fun e => absurd e (by omega)⟩
    unfold Ahead at e
    omega
  · refine ⟨fun e => ?_, fun e => absurd e (by omega)⟩
    have := h.srt q k i a hk hq ha
    unfold Ahead at e this
    omega

/-! ### Rank -/
theorem ahead_at {l : List Ts} {k i : Nat} {x xi : Ts} (hx : l[k]? = some x) (hi : l[i]? = some xi) : aheadB l i k = decide (x.p < xi.p ∨ (x.p = xi.p ∧ k < i)) := by
  simp [aheadB, Ahead, pOf, hx, hi]
set_option maxRecDepth 100000 in
set_option maxHeartbeats 4000000 in
theorem rank_any (A : Option Addr) (cap : Nat) (l : List Ts) (i : Nat) (w : World) (hR : Row w A cap l) (hi : i < l.length) (hn : l.length ≤ 1000) :
    Calls Try.prog 31 #[.slice A l.length cap, .int .i64 (i : Int)] w fun e w' => e = .returned (.int .i64 (cntTo (aheadB l i) l.length : Int)) ∧ Below w.heap.size w w' := by
  have hle := hR.le
  have hmx := hR.mx
  obtain ⟨b, o, xi, rfl, hxi, hwi, hbl, hTi⟩ := hR.get hi
  have ROW := Lib.hid hR
  have HAT := Lib.hid (fun k x hx => ahead_at (l := l) (k := k) (i := i) (x := x) hx hxi)
  have d6 := hTi.c6
  have hi0 : (0 : Int) ≤ (i : Int) := by omega
  have hi1 : (i : Int) < (l.length : Int) := by omega
  generalize hf : aheadB l i = f at *
  clear hR hxi hwi hTi hf
  go_enter Try.func31, Try.ntmps31
  go_wp2
  go_loopw [5, 6] (fun c s wr => ∃ k q : Nat, k ≤ l.length ∧ s = .int .i64 k ∧ c = .int .i64 (cntTo f k : Int) ∧ wr = w.drewN q) (fun _ s _ => l.length - (intOf s).toNat)
  case atStart => exact ⟨0, 0, Nat.zero_le _, rfl, rfl, rfl⟩
  case round =>
    obtain ⟨k, q, hk, rfl, rfl, rfl⟩ := hrel
    by_cases hlt : k < l.length
    · obtain ⟨x, hx⟩ : ∃ x, l[k]? = some x := ⟨l[k], List.getElem?_eq_getElem hlt⟩
      have c6 := (ROW.out.at2 hx).c6
      have hk0 : (0 : Int) ≤ (k : Int) := by omega
      have hk1 : (k : Int) < (l.length : Int) := by omega
      have HF := Lib.hid (HAT.out k x hx)
      have hcl := cntTo_le f k
      have hc0 : (0 : Int) ≤ (cntTo f k : Int) := by omega
      have hc1 : (cntTo f k : Int) ≤ 1000 := by omega
      clear hx hcl
      by_cases h1 : x.p < xi.p
      · have h1' : decide (x.p < xi.p) = true := decide_eq_true h1
        have HN := Lib.hid (cntTo_yes (f := f) (k := k) (by rw [HF.out]; exact decide_eq_true (.inl h1)))
        go_wp2
        go_quiet (fail)
        go_wp2
        refine ⟨⟨k + 1, q + nq, by omega, by go_num, by rw [HN.out]; go_num, rfl⟩, by simp [intOf]; omega⟩
      · have h1' : decide (x.p < xi.p) = false := decide_eq_false h1
        have HN1 := Lib.hid h1
        clear h1
        by_cases h2 : x.p = xi.p
        · have h2' : (x.p == xi.p) = true := by simpa using h2
          have HN2 := Lib.hid h2
          clear h2
          by_cases h3 : k < i
          · have h3' : decide ((k : Int) < (i : Int)) = true := decide_eq_true (by omega)
            have h3'' : decide (k < i) = true := decide_eq_true h3
            have HN := Lib.hid (cntTo_yes (f := f) (k := k) (by rw [HF.out]; exact decide_eq_true (.inr ⟨HN2.out, h3⟩)))
            go_wp2
            go_quiet (fail)
            go_wp2
            refine ⟨⟨k + 1, q + nq, by omega, by go_num, by rw [HN.out]; go_num, rfl⟩, by simp [intOf]; omega⟩
          · have h3' : decide ((k : Int) < (i : Int)) = false := decide_eq_false (by omega)
            have h3'' : decide (k < i) = false := decide_eq_false h3
            have HN := Lib.hid (cntTo_no (f := f) (k := k) (by rw [HF.out]; exact decide_eq_false (fun h => h.elim HN1.out (fun h => h3 h.2))))
            go_wp2
            go_quiet (fail)
            go_wp2
            refine ⟨⟨k + 1, q + nq, by omega, by go_num, by rw [HN.out], rfl⟩, by simp [intOf]; omega⟩
        · have h2' : (x.p == xi.p) = false := by simpa using h2
          have HN := Lib.hid (cntTo_no (f := f) (k := k) (by rw [HF.out]; exact decide_eq_false (fun h => h.elim HN1.out (fun h => h2 h.1))))
          go_wp2
          go_quiet (fail)
          go_wp2
          refine ⟨⟨k + 1, q + nq, by omega, by go_num, by rw [HN.out], rfl⟩, by simp [intOf]; omega⟩
    · obtain rfl : k = l.length := by omega
      go_wp2
      go_ret
      exact ⟨rfl, drewN_below (Below.refl _ _) _⟩

/-! ### How many are in a set -/
theorem pc_count (x : Nat) : ∀ k, pc x k = (List.range k).countP (fun j => x.testBit j)
  | 0 => rfl
  | k + 1 => by
    rw [pc, pc_count x k, List.range_succ, List.countP_append, List.countP_singleton]
    cases x.testBit k <;> rfl
end Go.Proofs.Ytapeklpnjckfkaa
