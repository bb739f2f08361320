/- Ticks that are alike. -/
import Derived.Test.YtngmaiiibinkaaaEPure
import Derived.Test.YtngmaiiibinkaaaSet
namespace Go.Proofs.Ytngmaiiibinkaaa
set_option linter.unusedVariables false
set_option linter.unusedSimpArgs false
theorem addN_add (sp : List Spn) (i : Nat) (t u v : Int) : addN (addN sp i t u) i (t + u) v = addN sp i t (u + v) := by
  rcases List.eq_nil_or_concat sp with h | ⟨l, x, h⟩
  · subst h
    simp [addN, Int.add_assoc]
  · rw [List.concat_eq_append] at h
    subst h
    unfold addN
    simp only [List.getLast?_concat, List.dropLast_concat]
    by_cases hc : x.j = i ∧ x.t = t
    · rw [if_pos hc, if_pos hc]
      simp [List.getLast?_concat, List.dropLast_concat, Int.add_assoc]
    · rw [if_neg hc, if_neg hc]
      simp only [List.getLast?_concat, List.dropLast_concat]
      simp [Int.add_assoc]
section
variable {ts : List Ts} {js : List Fv}
theorem runM_add {s : TSt} {n u v : Int} {i : Nat} (hi : i < s.dn.length) (hk : kO s.dn i + u ≠ (jb js i).k) : runM js (runM js s n i u) (n + u) i v = runM js s n i (u + v) := by
  have h1 : kO (s.dn.set i (kO s.dn i + u)) i = kO s.dn i + u := by rw [kO_set _ _ hi, if_pos rfl]
  simp only [runM, h1, addN_add, if_neg hk, List.set_set, Int.add_assoc]
theorem tst_succ (n : Nat) : tst ts js (n + 1) = tstep ts js (tst ts js n) n := rfl
theorem tstep_some {s : TSt} {t : Int} {i : Nat} (h : whoS ts js s t = some i) : tstep ts js s t = runM js s t i 1 := by rw [tstep, h]
theorem tstep_none {s : TSt} {t : Int} (h : whoS ts js s t = none) : tstep ts js s t = { s with ru := none } := by rw [tstep, h]
/-- As long as it goes on with one job. -/
theorem run_on {n : Nat} {i : Nat} {m : Nat} (hi : i < (tst ts js n).dn.length) (hw : who ts js n = some i) (hk : kO (tst ts js n).dn i + m ≤ (jb js i).k)
    (hgo : ∀ u : Nat, 1 ≤ u → u < m → whoS ts js (runM js (tst ts js n) n i u) ((n + u : Nat) : Int) = some i) :
    ∀ u : Nat, 1 ≤ u → u ≤ m → tst ts js (n + u) = runM js (tst ts js n) n i u := by
  intro u
  induction u with
  | zero => intro h; omega
  | succ u ih =>
    intro h1 h2
    by_cases hu : u = 0
    · subst hu
      exact tstep_some hw
    · have e := ih (by omega) (by omega)
      rw [← Nat.add_assoc, tst_succ, e, tstep_some (hgo u (by omega) (by omega))]
      rw [show ((n + u : Nat) : Int) = (n : Int) + (u : Int) by omega, runM_add hi (by omega), show ((u + 1 : Nat) : Int) = (u : Int) + 1 by omega]
/-- Nobody is within a section. -/
def Dec (js : List Fv) (s : TSt) : Prop := ∀ i, s.ru = some i → wthS (jb js i).c (kO s.dn i) = false
theorem Dec.who {s : TSt} {t : Int} (h : Dec js s) : whoS ts js s t = pkN ts js s.dn t js.length := by
  unfold whoS
  cases hr : s.ru with
  | none => rfl
  | some i => simp only [h i hr, Bool.false_eq_true, if_false]
theorem run_sec {n i : Nat} {a : Int} {r : List Int} (hl : Lg js) (hw : who ts js n = some i) (hc : wthS (jb js i).c (kO (tst ts js n).dn i) = false) (he : cl (jb js i).c (kO (tst ts js n).dn i) = a :: r) :
    ∀ u : Nat, 1 ≤ u → (u : Int) ≤ a → tst ts js (n + u) = runM js (tst ts js n) n i u := by
  have hI := ti_all (ts := ts) hl n
  obtain ⟨h1, h2, h3⟩ := hI.who_some hl hw
  have hd := hI.d0 i h1
  obtain ⟨c1, c2, c3, c4, c5⟩ := cl_step _ _ _ _ (hl.pos i) hd.1 hc he
  have hf := hl.fit i h1
  intro u hu1 hu2
  have hil : i < (tst ts js n).dn.length := by rw [hI.ld]; exact h1
  refine run_on (m := u) hil hw (by omega) (fun v hv1 hv2 => ?_) u hu1 (Nat.le_refl _)
  unfold whoS
  have e1 : kO ((tst ts js n).dn.set i (kO (tst ts js n).dn i + (v : Int))) i = kO (tst ts js n).dn i + v := by rw [kO_set _ _ hil, if_pos rfl]
  simp only [runM, e1, c3 v (by omega) (by omega), if_true]
theorem run_free {n i m : Nat} (hl : Lg js) (hD : Dec js (tst ts js n)) (hw : who ts js n = some i) (he : cl (jb js i).c (kO (tst ts js n).dn i) = []) (hk : kO (tst ts js n).dn i + m ≤ (jb js i).k)
    (hr : ∀ j, j < js.length → (jb js j).r ≤ n ∨ (n : Int) + m ≤ (jb js j).r) : ∀ u : Nat, 1 ≤ u → u ≤ m → tst ts js (n + u) = runM js (tst ts js n) n i u := by
  have hI := ti_all (ts := ts) hl n
  obtain ⟨h1, h2, h3⟩ := hI.who_some hl hw
  have hil : i < (tst ts js n).dn.length := by rw [hI.ld]; exact h1
  have hd := hI.d0 i h1
  refine run_on hil hw hk (fun v hv1 hv2 => ?_)
  have hp : pkN ts js (tst ts js n).dn n js.length = some i := by rw [← hD.who]; exact hw
  have hB := (pkN_spec _).2 _ hp
  unfold whoS
  have e1 : kO ((tst ts js n).dn.set i (kO (tst ts js n).dn i + (v : Int))) i = kO (tst ts js n).dn i + v := by rw [kO_set _ _ hil, if_pos rfl]
  simp only [runM, e1, (cl_none _ _ he v (by omega)).1, Bool.false_eq_true, if_false]
  refine pkN_best ⟨h1, ?_, fun j hj hjr => ?_⟩
  · rw [rdy_iff, kO_set _ _ hil, if_pos rfl]; omega
  · rw [rdy_iff, kO_set _ _ hil] at hjr
    by_cases hji : j = i
    · subst hji; exact .inr ⟨rfl, Nat.le_refl _⟩
    · rw [if_neg hji] at hjr
      exact hB.2.2 j hj (rdy_iff.2 ⟨by rcases hr j hj with h | h <;> omega, hjr.2⟩)
theorem run_idle {n m : Nat} (hw : who ts js n = none) (hl : Lg js) (hr : ∀ j, j < js.length → (jb js j).r ≤ n ∨ (n : Int) + m ≤ (jb js j).r) :
    ∀ u : Nat, 1 ≤ u → u ≤ m → tst ts js (n + u) = { tst ts js n with ru := none } := by
  have hI := ti_all (ts := ts) hl n
  have hno := hI.who_none hl hw
  intro u
  induction u with
  | zero => intro h; omega
  | succ u ih =>
    intro h1 h2
    by_cases hu : u = 0
    · subst hu
      exact tstep_none hw
    · have e := ih (by omega) (by omega)
      have h3 : whoS ts js { tst ts js n with ru := none } ((n + u : Nat) : Int) = none := by
        unfold whoS
        refine pkN_no fun j hj => ?_
        have := hno j hj
        rw [← Bool.not_eq_true, rdy_iff] at this ⊢
        rcases hr j hj with h | h
        · intro hh; exact this ⟨h, hh.2⟩
        · omega
      rw [← Nat.add_assoc, tst_succ, e, tstep_none h3]
theorem run_done {n : Nat} (hl : Lg js) (hd : ∀ i, i < js.length → kO (tst ts js n).dn i = (jb js i).k) : ∀ u : Nat, (tst ts js (n + u)).dn = (tst ts js n).dn ∧ (tst ts js (n + u)).sp = (tst ts js n).sp ∧ (tst ts js (n + u)).en = (tst ts js n).en
  | 0 => ⟨rfl, rfl, rfl⟩
  | u + 1 => by
    obtain ⟨h1, h2, h3⟩ := run_done hl hd u
    have hI := ti_all (ts := ts) hl (n + u)
    have hw : whoS ts js (tst ts js (n + u)) ((n + u : Nat) : Int) = none := by
      cases hw : whoS ts js (tst ts js (n + u)) ((n + u : Nat) : Int) with
      | none => rfl
      | some i =>
        have := hI.who_some hl hw
        have e := hd i this.1
        rw [h1] at this
        omega
    rw [← Nat.add_assoc, tst_succ, tstep_none hw]
    exact ⟨h1, h2, h3⟩

/-! ### Queues, and who is the most urgent -/
/-- The order is that of releases; of m places those that are released are to be worked. -/
def quS (js : List Fv) (dn : List Int) (l : List Nat) (τ : Nat) : List Nat := l.filter fun p => decide ((jb js p).t = (τ : Int)) && decide (kO dn p < (jb js p).k)
theorem quS_mem {dn : List Int} {l : List Nat} {τ p : Nat} : p ∈ quS js dn l τ ↔ p ∈ l ∧ (jb js p).t = (τ : Int) ∧ kO dn p < (jb js p).k := by simp [quS]
theorem quS_app {dn : List Int} {l : List Nat} {τ p : Nat} : quS js dn (l ++ [p]) τ = quS js dn l τ ++ (if (jb js p).t = (τ : Int) ∧ kO dn p < (jb js p).k then [p] else []) := by
  unfold quS
  rw [List.filter_append]
  congr 1
  by_cases h : (jb js p).t = (τ : Int) ∧ kO dn p < (jb js p).k
  · rw [if_pos h, List.filter_cons_of_pos (by simp [h])]; rfl
  · rw [if_neg h, List.filter_cons_of_neg (by simp only [Bool.and_eq_true, decide_eq_true_eq]; exact h)]; rfl
/-- Jobs of one task are released in order of places. -/
structure Seq (js : List Fv) : Prop where
  seq : ∀ i j, i < j → j < js.length → (jb js i).t = (jb js j).t → (jb js i).r < (jb js j).r
structure Hd (ts : List Ts) (js : List Fv) (dn : List Int) (l : List Nat) (L : List Int) : Prop where
  srt : L.Pairwise (fun a b => (tk ts a).p < (tk ts b).p)
  mem : ∀ τ : Nat, (τ : Int) ∈ L ↔ quS js dn l τ ≠ []
  nat : ∀ x ∈ L, ∃ τ : Nat, x = (τ : Int) ∧ τ < ts.length
/-- What is released by n stands ahead in the order. -/
structure Rel (js : List Fv) (o : List Nat) (m : Nat) (n : Int) : Prop where
  le : m ≤ o.length
  lo : ∀ p ∈ o.take m, (jb js p).r ≤ n
  hi : ∀ p ∈ o.drop m, n < (jb js p).r
theorem kO_rls {p : Nat} (h : p < js.length) : kO (js.map (·.r)) p = (jb js p).r := by
  simp [kO, jb, h]
theorem ord_seq {o : List Nat} {m : Nat} {dn : List Int} {τ p q : Nat} {r : List Nat} (hO : IsOrd (js.map (·.r)) o) (hS : Seq js) (hq : quS js dn (o.take m) τ = p :: r) (h : q ∈ quS js dn (o.take m) τ) : p ≤ q := by
  rcases Nat.lt_or_ge q p with hlt | hge
  · exfalso
    have hp : p ∈ quS js dn (o.take m) τ := by rw [hq]; simp
    obtain ⟨a1, a2, a3⟩ := quS_mem.1 hp
    obtain ⟨b1, b2, b3⟩ := quS_mem.1 h
    have hpl : p < js.length := by have := hO.mem.1 (List.mem_of_mem_take a1); simpa using this
    have h1 := hS.seq q p hlt hpl (by rw [a2, b2])
    have hs : (quS js dn (o.take m) τ).Pairwise (Ahead (js.map (·.r))) := (hO.srt.sublist (List.take_sublist _ _)).sublist List.filter_sublist
    rw [hq] at hs h
    rcases List.mem_cons.1 h with rfl | h
    · omega
    · have := (List.pairwise_cons.1 hs).1 q h
      unfold Ahead at this
      rw [kO_rls hpl, kO_rls (by omega)] at this
      omega
  · exact hge
theorem pick_some {o : List Nat} {m p : Nat} {dn : List Int} {n x : Int} {L r : List Int} {rest : List Nat} (hlen : ∀ i, i < js.length → 0 ≤ (jb js i).t) (hO : IsOrd (js.map (·.r)) o) (hS : Seq js)
    (hR : Rel js o m n) (hH : Hd ts js dn (o.take m) (x :: r)) (hD : Dist ts) (ht : ∀ i, i < js.length → (jb js i).t < ts.length) {τ : Nat} (hx : x = (τ : Int)) (hq : quS js dn (o.take m) τ = p :: rest) : pkN ts js dn n js.length = some p := by
  subst hx
  have hp : p ∈ quS js dn (o.take m) τ := by rw [hq]; simp
  obtain ⟨a1, a2, a3⟩ := quS_mem.1 hp
  have hpl : p < js.length := by have := hO.mem.1 (List.mem_of_mem_take a1); simpa using this
  refine pkN_best ⟨hpl, rdy_iff.2 ⟨hR.lo p a1, a3⟩, fun i hi hir => ?_⟩
  rw [rdy_iff] at hir
  have hio : i ∈ o.take m := by
    have h1 : i ∈ o := hO.mem.2 (by simpa using hi)
    rw [← List.take_append_drop m o] at h1
    rcases List.mem_append.1 h1 with h | h
    · exact h
    · have := hR.hi i h; omega
  obtain ⟨σ, hσ⟩ : ∃ σ : Nat, (jb js i).t = (σ : Int) := ⟨(jb js i).t.toNat, by have := hlen i hi; omega⟩
  have hiq : i ∈ quS js dn (o.take m) σ := quS_mem.2 ⟨hio, hσ, hir.2⟩
  have hσL : (σ : Int) ∈ (τ : Int) :: r := (hH.mem σ).2 (fun e => by rw [e] at hiq; cases hiq)
  unfold prO
  rw [hσ, a2]
  rcases List.mem_cons.1 hσL with h | h
  · obtain rfl : σ = τ := by omega
    exact .inr ⟨rfl, ord_seq hO hS hq hiq⟩
  · exact .inl ((List.pairwise_cons.1 hH.srt).1 _ h)
theorem pick_none {o : List Nat} {m : Nat} {dn : List Int} {n : Int} (hlen : ∀ i, i < js.length → 0 ≤ (jb js i).t) (hO : IsOrd (js.map (·.r)) o)
    (hR : Rel js o m n) (hH : Hd ts js dn (o.take m) []) : pkN ts js dn n js.length = none := by
  refine pkN_no fun i hi => ?_
  rw [← Bool.not_eq_true, rdy_iff]
  intro hir
  have hio : i ∈ o.take m := by
    have h1 : i ∈ o := hO.mem.2 (by simpa using hi)
    rw [← List.take_append_drop m o] at h1
    rcases List.mem_append.1 h1 with h | h
    · exact h
    · have := hR.hi i h; omega
  obtain ⟨σ, hσ⟩ : ∃ σ : Nat, (jb js i).t = (σ : Int) := ⟨(jb js i).t.toNat, by have := hlen i hi; omega⟩
  have hiq : i ∈ quS js dn (o.take m) σ := quS_mem.2 ⟨hio, hσ, hir.2⟩
  have := (hH.mem σ).2 (fun e => by rw [e] at hiq; cases hiq)
  cases this
end
end Go.Proofs.Ytngmaiiibinkaaa
