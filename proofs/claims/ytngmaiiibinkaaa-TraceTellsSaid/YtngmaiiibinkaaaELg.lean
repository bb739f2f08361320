/- What legal jobs are like. -/
import Derived.Test.YtngmaiiibinkaaaEMany
import Derived.Test.YtngmaiiibinkaaaRLeg
namespace Go.Proofs.Ytngmaiiibinkaaa
open Go.RowKit
set_option linter.unusedVariables false
set_option linter.unusedSimpArgs false
theorem fitB_parts (q : Int) : ∀ (left : Int) (l : List Int), 0 ≤ left → fitB q left l = true → Pos1 l ∧ l.sum ≤ left ∧ ∀ x ∈ l, x ≤ q
  | left, [], h0, _ => ⟨fun x hx => by simp at hx, by simpa using h0, by simp⟩
  | left, c :: r, h0, h => by
    simp only [fitB, Bool.and_eq_true, decide_eq_true_eq] at h
    obtain ⟨h1, h2, h3⟩ := fitB_parts q (left - c) r (by omega) h.2
    refine ⟨fun x hx => ?_, by rw [List.sum_cons]; omega, fun x hx => ?_⟩
    · rcases List.mem_cons.1 hx with rfl | hx
      · omega
      · exact h1 x hx
    · rcases List.mem_cons.1 hx with rfl | hx
      · omega
      · exact h3 x hx
theorem tsOver {x : Ts} (h : checkE x = 0) : x.c + x.j ≤ x.t ∧ x.q ≤ x.c ∧ x.c + x.j ≤ x.d := by
  by_cases h1 : (namedB x && rangedB x) = true
  · rw [checkE, if_pos h1] at h
    by_cases h2 : overB x = true
    · rw [if_pos h2] at h; omega
    · simp [overB] at h2
      omega
  · rw [checkE, if_neg h1] at h; omega
theorem tk_over {ts : List Ts} (h : (chkAll ts).2 = 0) {p : Int} (h0 : 0 ≤ p) (h1 : p < ts.length) : (tk ts p).c + (tk ts p).j ≤ (tk ts p).t ∧ (tk ts p).q ≤ (tk ts p).c ∧ (tk ts p).c + (tk ts p).j ≤ (tk ts p).d := by
  obtain ⟨k, rfl⟩ : ∃ k : Nat, p = (k : Int) := ⟨p.toNat, by omega⟩
  have e : ts[k]? = some (ts[k]'(by omega)) := List.getElem?_eq_getElem (by omega)
  rw [tk_get e]
  rw [chkAll] at h
  split at h
  · cases h
  · exact tsOver (chkFrom_ok ts [] h _ (List.mem_of_getElem? e))
/-- Of a legal job. -/
structure LJ (ts : List Ts) (j : Fv) : Prop where
  t0 : 0 ≤ j.t
  t1 : j.t < ts.length
  a0 : 0 ≤ j.a
  a1 : j.a ≤ 17592186044416
  r0 : j.a ≤ j.r
  r1 : j.r ≤ j.a + (tk ts j.t).j
  k0 : 1 ≤ j.k
  k1 : j.k ≤ (tk ts j.t).c
  pos : Pos1 j.c
  fit : j.c.sum ≤ j.k
  q : ∀ x ∈ j.c, x ≤ (tk ts j.t).q
structure LJs (ts : List Ts) (js : List Fv) : Prop where
  all : ∀ j ∈ js, LJ ts j
  pw : js.Pairwise (fun x y => x.t = y.t → x.a + (tk ts x.t).t ≤ y.a)
  last : ∀ p l, lastT js p = some l → ∀ i ∈ js, i.t = p → i.a ≤ l.a
theorem ljs_of {ts : List Ts} (hv : Vs ts) : ∀ js : List Fv, legF ts [] js = true → LJs ts js := by
  refine snoc_ind ?_ ?_
  · intro _
    exact ⟨by simp, List.Pairwise.nil, fun p l h => by simp [lastT_nil] at h⟩
  · intro js j ih h
    rw [legF_app, List.nil_append, Bool.and_eq_true] at h
    obtain ⟨h1, h2⟩ := h
    have I := ih h1
    simp only [legF, Bool.and_true] at h2
    obtain ⟨⟨t0, t1⟩, ⟨a0, a1⟩, ⟨r0, r1⟩, ⟨k0, k1⟩, hf⟩ := legJ_parts h2
    have hk := hv.tk j.t
    have hsn : ∀ i ∈ js, i.t = j.t → i.a + (tk ts i.t).t ≤ j.a := by
      intro i hi hit
      cases hl : lastT js j.t with
      | none =>
        exfalso
        unfold lastT at hl
        rw [List.find?_eq_none] at hl
        have := hl i (by simpa using hi)
        simp [hit] at this
      | some l =>
        have h3 := I.last _ _ hl i hi hit
        unfold soonI at a0
        rw [hl] at a0
        simp only at a0
        rw [hit]; omega
    have ha0 : 0 ≤ j.a := by
      unfold soonI at a0
      cases hl : lastT js j.t with
      | none => rw [hl] at a0; exact a0
      | some l =>
        rw [hl] at a0
        have := (I.all l (lastT_mem hl).1).a0
        have := hk.t0
        simp only at a0
        omega
    obtain ⟨f1, f2, f3⟩ := fitB_parts _ _ _ (by omega) hf
    refine ⟨fun i hi => ?_, ?_, fun p l hl i hi hip => ?_⟩
    · rcases List.mem_append.1 hi with hi | hi
      · exact I.all i hi
      · rw [List.mem_singleton.1 hi]
        exact ⟨t0, by omega, ha0, a1, r0, r1, k0, k1, f1, f2, f3⟩
    · refine List.pairwise_append.2 ⟨I.pw, List.pairwise_singleton _ _, fun x hx y hy => ?_⟩
      rw [List.mem_singleton.1 hy]
      exact fun e => hsn x hx e
    · rw [lastT_snoc] at hl
      rcases List.mem_append.1 hi with hi | hi
      · split at hl
        · rename_i e
          injection hl with hl
          subst hl
          have := hsn i hi (by rw [hip, e])
          have := (hv.tk i.t).t0
          omega
        · exact I.last p l hl i hi hip
      · rw [List.mem_singleton.1 hi] at hip ⊢
        rw [if_pos hip] at hl
        injection hl with hl
        subst hl
        exact Int.le_refl _
theorem legS_parts {ts : List Ts} {js : List Fv} (h : legS ts js = true) : (chkAll ts).2 = 0 ∧ js.length ≤ 4096 ∧ legF ts [] js = true := by
  unfold legS at h
  rw [Bool.and_eq_true, decide_eq_true_eq] at h
  exact ⟨h.1.1, h.1.2, h.2⟩
theorem jb_lj {ts : List Ts} {js : List Fv} (h : LJs ts js) {i : Nat} (hi : i < js.length) : LJ ts (jb js i) := by
  have e : js[i]? = some js[i] := List.getElem?_eq_getElem hi
  rw [jb_get e]
  exact h.all _ (List.mem_of_getElem? e)
theorem lg_of {ts : List Ts} {js : List Fv} (h : LJs ts js) : Lg js := by
  refine ⟨fun i hi => ?_, fun i hi => (jb_lj h hi).k0, fun i => ?_, fun i hi => (jb_lj h hi).fit⟩
  · have := jb_lj h hi; have := this.a0; have := (jb_lj h hi).r0; omega
  · by_cases hi : i < js.length
    · exact (jb_lj h hi).pos
    · intro x hx
      have : js[i]? = none := List.getElem?_eq_none (by omega)
      simp [jb, this] at hx
theorem seq_of {ts : List Ts} {js : List Fv} (hc : (chkAll ts).2 = 0) (h : LJs ts js) : Seq js := by
  refine ⟨fun i j hij hj ht => ?_⟩
  have hi : i < js.length := by omega
  have h1 := List.pairwise_iff_getElem.1 h.pw i j hi hj hij
  have e1 := jb_get (List.getElem?_eq_getElem hi)
  have e2 := jb_get (List.getElem?_eq_getElem hj)
  have l1 := jb_lj h hi
  have l2 := jb_lj h hj
  rw [← e1, ← e2] at h1
  have h2 := h1 ht
  have ov := tk_over hc l1.t0 l1.t1
  have := l1.r1
  have := l2.r0
  have := l1.k0
  have := l1.k1
  omega
end Go.Proofs.Ytngmaiiibinkaaa
