/- Appends of things: onto a row that came in and is full, onto a row of the call's own. -/
import Derived.Test.YtebbpgokhelmdaaRef
import Derived.Deep.AppendSrc
import Derived.Deep.DeepAppendWide
import Derived.Laws.OwnMore
namespace Go.Proofs.Ytebbpgokhelmdaa
open Go.RowKit Go.Shelf
set_option linter.unusedVariables false
set_option linter.unusedSimpArgs false
/-- The cells of things. -/
def itC (l : List It) : List Value := l.flatMap (fun x => [.int .i64 x.k, .int .i64 x.w])
theorem itC_length (l : List It) : (itC l).length = l.length * 2 := by
  induction l with
  | nil => rfl
  | cons x l ih => simp [itC] at ih ⊢; omega
theorem itC_cons (x : It) (l : List It) : itC (x :: l) = .int .i64 x.k :: .int .i64 x.w :: itC l := rfl
theorem itC_append (a b : List It) : itC (a ++ b) = itC a ++ itC b := by simp [itC]
theorem itC_get {l : List It} {i : Nat} {x : It} (h : l[i]? = some x) : (itC l)[i * 2]? = some (.int .i64 x.k) ∧ (itC l)[i * 2 + 1]? = some (.int .i64 x.w) := by
  induction l generalizing i with
  | nil => simp at h
  | cons y l ih =>
    rw [itC_cons]
    cases i with
    | zero => simp at h; subst h; exact ⟨rfl, rfl⟩
    | succ i =>
      simp at h
      obtain ⟨h1, h2⟩ := ih h
      rw [show (i + 1) * 2 = i * 2 + 1 + 1 by omega, show i * 2 + 1 + 1 + 1 = (i * 2 + 1) + 1 + 1 by omega]
      exact ⟨by simpa using h1, by simpa using h2⟩
theorem itC_of {l : List It} {j : Nat} {u : Value} (h : (itC l)[j]? = some u) : ∃ i x, l[i]? = some x ∧ ((j = i * 2 ∧ u = .int .i64 x.k) ∨ (j = i * 2 + 1 ∧ u = .int .i64 x.w)) := by
  induction l generalizing j with
  | nil => simp [itC] at h
  | cons y l ih =>
    rw [itC_cons] at h
    match j, h with
    | 0, h => simp at h; exact ⟨0, y, rfl, .inl ⟨rfl, h.symm⟩⟩
    | 1, h => simp at h; exact ⟨0, y, rfl, .inr ⟨rfl, h.symm⟩⟩
    | j + 2, h =>
      obtain ⟨i, x, hx, hu⟩ := ih (j := j) (by simpa using h)
      refine ⟨i + 1, x, by simpa using hx, ?_⟩
      rcases hu with ⟨rfl, hu⟩ | ⟨rfl, hu⟩
      · exact .inl ⟨by omega, hu⟩
      · exact .inr ⟨by omega, hu⟩
theorem itC_one (l : List It) : ∀ u ∈ itC l, u.oneCell' = true := by
  intro u hu
  obtain ⟨j, hj⟩ := List.mem_iff_getElem?.1 hu
  obtain ⟨i, x, -, ⟨-, rfl⟩ | ⟨-, rfl⟩⟩ := itC_of hj <;> rfl
/-- Things behind an address. -/
theorem RowOfM.cells {w : World} {b o : Nat} {L : List It} (h : RowOfM w (some ⟨b, o, none⟩) L) : ∀ j u, (itC L)[j]? = some u → w.cell? ((⟨b, o, none⟩ : Addr).add j) = some u := by
  intro j u hj
  rw [add_none]
  obtain ⟨i, x, hx, hu⟩ := itC_of hj
  obtain ⟨b', o', e, -, -, x0, x1⟩ := h i x hx
  cases e
  rcases hu with ⟨rfl, rfl⟩ | ⟨rfl, rfl⟩
  · exact x0
  · rw [← Nat.add_assoc]; exact x1
theorem infoItem : (Try.prog.info? 31).map (fun i => (i.zero, i.size, i.bytes)) = some (some (.agg #[.int .i64 0, .int .i64 0]), 2, 16) := by kernel_rfl
theorem rowM_of_own {w : World} {B n : Nat} {v : Value} {L : List It} (h : w.ownsRow B 31 2 v n (itC L)) (hw : ∀ x ∈ L, okM x) {A : Option Addr} {cap : Nat} (hv : v = .slice A n cap) : RowOfM w A L := by
  intro i x hx
  have hl := h.1
  rw [itC_length] at hl
  have hi := (List.getElem?_eq_some_iff.1 hx).1
  obtain ⟨g, cap', e, -, hg, -, -, -⟩ := own_form h (by omega)
  rw [hv] at e
  cases e
  obtain ⟨g1, g2⟩ := itC_get hx
  subst hv
  refine ⟨g, 0, rfl, hg, hw x (List.mem_of_getElem? hx), ?_, ?_⟩
  · rw [Nat.zero_add]; exact own_cell h rfl g1
  · rw [Nat.zero_add]; exact own_cell h rfl g2
/-- Onto a full row that came in: a new one. -/
theorem run_app1 {w : World} (ty : TypeId) {A : Option Addr} {L : List It} {x : It} (hA : A = none → L = []) (hs : ∀ a, A = some a → a.spot = none) (hR : RowOfM w A L) (hL : L.length ≤ 1000) (ad : Addr) (x0 : w.cell? (ad.add 0) = some (.int .i64 x.k)) (x1 : w.cell? (ad.add 1) = some (.int .i64 x.w)) :
    ∃ v' w', (Builtin.append_ #[25, 25] ty #[.slice A L.length L.length, .slice (some ad) 1 1]).run Try.prog w = .ok v' w' ∧ w'.ownsRow w.heap.size 31 2 v' (L.length + 1) (itC (L ++ [x])) ∧ Below w.heap.size w w' := by
  obtain ⟨i0, hi, hz0, hz1, hz2⟩ := info_parts infoItem
  have hsrc : Src Try.prog i0.size 25 (.slice (some ad) 1 1) 1 [.int .i64 x.k, .int .i64 x.w] w := by
    rw [hz1]
    refine Src.ofSlice w Try.underlying25 ad 1 1 _ rfl ?_ ?_
    · intro j u hj
      match j, hj with
      | 0, hj => simp at hj; subst hj; exact x0
      | 1, hj => simp at hj; subst hj; exact x1
    · intro u hu
      simp at hu
      rcases hu with rfl | rfl <;> rfl
  have hold : (Builtin.firstCells i0.size L.length (.slice A L.length L.length)).run Try.prog w.drew = .ok (itC L).toArray w.drew := by
    rw [hz1]
    cases A with
    | none => rw [hA rfl]; exact run_firstCells_none w.drew 2 0 0 0
    | some a =>
      obtain ⟨b, o, sp⟩ := a
      have := hs _ rfl
      simp only at this
      subst this
      exact run_firstCells_some w.drew 2 L.length _ _ _ _ (itC_length L) (by simpa using hR.cells)
  have hrun := run_append_grow_src (P := Try.prog) w 25 25 ty 31 i0 _ Try.underlying25 hi hz0 A L.length L.length (itC L) hold (.slice (some ad) 1 1) 1 _ hsrc (by omega) (by omega) (by rw [hz2]; exact growslice_fits (by omega) (by omega))
  refine ⟨_, _, hrun, ?_, (below_drew w).alloc (Nat.le_refl _) _⟩
  have hge := grownCap_ge w (L.length + 1) L.length 31
  have hcm : grownCap w (L.length + 1) L.length 31 ≤ maxLen := grownCap_le_maxLen w (L.length + 1) L.length 31 (by unfold maxLen; omega)
  refine ⟨by rw [itC_length]; simp, .inr ⟨w.heap.size, _, _, rfl, Nat.le_refl _, heap_alloc_new w.drew _, hge, hcm, ?_, ?_⟩⟩
  · simp only [Array.size_append, List.size_toArray, size_zeroCells, List.length_append, itC_length]
    simp [Value.cells]
    omega
  · rw [itC_append]
    simp only [Array.toList_append]
    rw [List.take_append_of_le_length (by simp [itC_length]; omega)]
    rw [List.take_of_length_le (by simp [itC_length]; omega)]
    rfl
/-- Onto a row of the call's own, any number. -/
theorem run_app2 {w : World} (ty : TypeId) {B : Nat} {v : Value} {L M : List It} {A : Option Addr} {cap : Nat} (hown : w.ownsRow B 31 2 v L.length (itC L)) (hA : A = none → M = [] ∧ cap = 0) (hs : ∀ a, A = some a → a.spot = none) (hR : RowOfM w A M) (hL : L.length ≤ 1000) (hM : M.length ≤ 1000) (hB : B ≤ w.heap.size) :
    ∃ v' w', (Builtin.append_ #[25, 25] ty #[v, .slice A M.length cap]).run Try.prog w = .ok v' w' ∧ w'.ownsRow B 31 2 v' (L ++ M).length (itC (L ++ M)) ∧ w.grownBy w' v.ownBlock := by
  obtain ⟨i0, hi, hz0, hz1, hz2⟩ := info_parts infoItem
  rw [itC_append, List.length_append]
  cases A with
  | none =>
    obtain ⟨rfl, rfl⟩ := hA rfl
    refine ⟨v, w, run_append_owned_none (P := Try.prog) w B 25 ty 31 i0 2 Try.underlying25 hi v L.length (itC L) hown, ?_, ?_⟩
    · simpa [itC] using hown
    · exact ⟨rfl, rfl, rfl, Nat.le_refl _, fun _ _ _ => rfl⟩
  | some a =>
    obtain ⟨b, o, sp⟩ := a
    have := hs _ rfl
    simp only at this
    subst this
    obtain ⟨v', w', h1, h2, h3, -⟩ := run_append_own_wide (P := Try.prog) w B 25 ty 31 i0 _ 2 16 Try.underlying25 hi hz0 hz1 hz2 rfl (by omega) v L.length (itC L) hown ⟨b, o, none⟩ M.length cap (itC M) (itC_length M) hR.cells (itC_one M) (by unfold maxLen; omega) (by omega) hB
    exact ⟨v', w', h1, h2, h3⟩
theorem own_addr {w : World} {B n c : Nat} {A : Option Addr} {M : List It} (h : w.ownsRow B 31 2 (.slice A n c) n (itC M)) : (A = none → M = [] ∧ c = 0) ∧ (∀ a, A = some a → a.spot = none) := by
  obtain ⟨h1, h2⟩ := h
  rw [itC_length] at h1
  rcases h2 with ⟨e, hn⟩ | ⟨g, cap, cur, e, -⟩
  · cases e
    exact ⟨fun _ => ⟨List.length_eq_zero_iff.1 (by omega), rfl⟩, fun a ha => by cases ha⟩
  · cases e
    exact ⟨fun h => (by cases h), fun a ha => by cases ha; rfl⟩
theorem frozen_block {w w' : World} {b : Nat} (h : w'.heap[b]? = w.heap[b]?) (hf : w.frozen? ⟨b, 0, none⟩ = false) : w'.frozen? ⟨b, 0, none⟩ = false := by
  simp only [World.frozen?, h]; exact hf
theorem RowOfM.ok {w : World} {A : Option Addr} {xs : List It} (h : RowOfM w A xs) : ∀ x ∈ xs, okM x := fun x hx => by
  obtain ⟨i, hi⟩ := List.mem_iff_getElem?.1 hx
  obtain ⟨b, o, -, -, ho, -⟩ := h i x hi
  exact ho
/-- The end of Push. -/
theorem push_end {B bm : Nat} {w w4 : World} {X : List Nat} {L' : List It} {v4 : Value} {B5 : Nat} (hB : B ≤ bm) (hbm : ∃ s, w.heap[bm]? = some (.cells #[s] 28 (0, 0))) (hbX : bm ∈ X) (hBw : B ≤ w.heap.size)
    (hb : Below w.heap.size w w4) (h5 : w.heap.size ≤ B5) (hn : 0 < L'.length) {n' : Nat} (hn' : L'.length = n') (ho : w4.ownsRow B5 31 2 v4 n' (itC L')) (hok : ∀ x ∈ L', okM x) :
    ∃ X', MH B (w4.setCell ⟨bm, 0, none⟩ v4) bm X' L' ∧ Kept [bm] w (w4.setCell ⟨bm, 0, none⟩ v4) ∧ ∀ k ∈ X', k ∈ X ∨ w.heap.size ≤ k := by
  subst hn'
  obtain ⟨s, hs⟩ := hbm
  have hlt := (Array.getElem?_eq_some_iff.1 hs).1
  obtain ⟨g, cap, rfl, hg5, hgl, hle, hmx, -⟩ := own_form ho hn
  have h4 : w4.heap[bm]? = some (.cells #[s] 28 (0, 0)) := (hb.block bm hlt).trans hs
  have hk : Kept [bm] w (w4.setCell ⟨bm, 0, none⟩ (.slice (some ⟨g, 0, none⟩) L'.length cap)) := (Kept.of [bm] hb).set bm 0 _ (by simp)
  refine ⟨[bm, g], ⟨⟨_, cap, Boxed.set (W := w4) (B := bm) (t := 28) _ h4, hle, hmx, ?_, .inr ⟨g, 0, rfl, by omega, by simpa using hgl, by omega, rfl⟩⟩, hB⟩, hk, ?_⟩
  · have hr := rowM_of_own ho hok rfl
    refine hr.same (fun a ha => ?_)
    cases ha
    exact Below.heap_setCell _ _ _ _ (by simp; omega)
  · intro k hk
    simp at hk
    rcases hk with rfl | rfl
    · exact .inl hbX
    · exact .inr (by omega)
theorem RowOfM.take {w : World} {A : Option Addr} {xs : List It} (h : RowOfM w A xs) (m : Nat) : RowOfM w A (xs.take m) := fun i x hx => h i x (by
  rw [List.getElem?_take] at hx
  split at hx
  · exact hx
  · cases hx)
theorem RowOfM.drop {w : World} {b o : Nat} {xs : List It} (h : RowOfM w (some ⟨b, o, none⟩) xs) (m : Nat) : RowOfM w (some ⟨b, o + m * 2, none⟩) (xs.drop m) := fun i x hx => by
  rw [List.getElem?_drop] at hx
  obtain ⟨b', o', e, h1, h2, x0, x1⟩ := h (m + i) x hx
  cases e
  refine ⟨b, o + m * 2, rfl, h1, h2, ?_, ?_⟩
  · rw [← x0]; congr 2; omega
  · rw [← x1]; congr 2; omega
section
variable {ops : Array Oper} {rest : List Oper} {o : Oper} {a : Act} {w : World} {K : Act → World → Prop} {Q : Exit → Act → World → Prop} {E : Prop}
theorem wpList_app2 (hgd : o.guard = none) (s x : Operand) (ho : o.op = Op.call { callee := Callee.builtin Builtin.append, args := #[s, x], argTypes := #[25, 25] })
    {B : Nat} {v : Value} {L M : List It} {A : Option Addr} {cap n1 : Nat} (hn1 : L.length = n1) (hown : w.ownsRow B 31 2 v n1 (itC L)) (hA : A = none → M = [] ∧ cap = 0) (hs : ∀ a, A = some a → a.spot = none) (hR : RowOfM w A M) (hL : L.length ≤ 1000) (m : Nat) (hm : M.length = m) (hM : m ≤ 1000) (hB : B ≤ w.heap.size)
    (hv : a.eval s = v) (hx : a.eval x = .slice A m cap)
    (hK : ∀ v' w', w'.ownsRow B 31 2 v' (n1 + m) (itC (L ++ M)) → w.grownBy w' v.ownBlock → wpList Try.prog ops Q rest (a.put o.dst v') w') : wpList Try.prog ops Q (o :: rest) a w := by
  subst hm
  subst hn1
  rw [← List.length_append] at hK
  refine wpList_plain hgd fun K hK' => ?_
  obtain ⟨v', w', hrun, r1, r2⟩ := run_app2 o.type hown hA hs hR hL hM hB
  unfold Oper.wp
  simp [execOp, ho, resolve, invoke, builtin, hv, hx, hrun, Result.andThen]
  exact hK' _ _ (hK v' w' r1 r2)
theorem step_app2 (hgd : o.guard = none) (s x : Operand) (ho : o.op = Op.call { callee := Callee.builtin Builtin.append, args := #[s, x], argTypes := #[25, 25] })
    {B : Nat} {v : Value} {L M : List It} {A : Option Addr} {cap n1 : Nat} (hn1 : L.length = n1) (hown : w.ownsRow B 31 2 v n1 (itC L)) (hA : A = none → M = [] ∧ cap = 0) (hs : ∀ a, A = some a → a.spot = none) (hR : RowOfM w A M) (hL : L.length ≤ 1000) (m : Nat) (hm : M.length = m) (hM : m ≤ 1000) (hB : B ≤ w.heap.size)
    (hv : a.eval s = v) (hx : a.eval x = .slice A m cap)
    (hK : ∀ v' w', w'.ownsRow B 31 2 v' (n1 + m) (itC (L ++ M)) → w.grownBy w' v.ownBlock → K (a.put o.dst v') w') :
    if Region.wanted o (yielded ops a.tmps) = true then Oper.wp Try.prog o a w K Q else E := by
  subst hm
  subst hn1
  rw [← List.length_append] at hK
  have hw : Region.wanted o (yielded ops a.tmps) = true := by simp [Region.wanted, hgd]
  rw [if_pos hw]
  obtain ⟨v', w', hrun, r1, r2⟩ := run_app2 o.type hown hA hs hR hL hM hB
  unfold Oper.wp
  simp [execOp, ho, resolve, invoke, builtin, hv, hx, hrun, Result.andThen]
  exact hK v' w' r1 r2
theorem step_app1 (hgd : o.guard = none) (s x : Operand) (ho : o.op = Op.call { callee := Callee.builtin Builtin.append, args := #[s, x], argTypes := #[25, 25] })
    {A : Option Addr} {L : List It} {y : It} (n : Nat) (hn : L.length = n) (hA : A = none → L = []) (hs : ∀ a, A = some a → a.spot = none) (hR : RowOfM w A L) (hL : L.length ≤ 1000) (ad : Addr) (x0 : w.cell? (ad.add 0) = some (.int .i64 y.k)) (x1 : w.cell? (ad.add 1) = some (.int .i64 y.w))
    (hv : a.eval s = .slice A n n) (hx : a.eval x = .slice (some ad) 1 1)
    (hK : ∀ v' w', w'.ownsRow w.heap.size 31 2 v' (n + 1) (itC (L ++ [y])) → Below w.heap.size w w' → K (a.put o.dst v') w') :
    if Region.wanted o (yielded ops a.tmps) = true then Oper.wp Try.prog o a w K Q else E := by
  subst hn
  have hw : Region.wanted o (yielded ops a.tmps) = true := by simp [Region.wanted, hgd]
  rw [if_pos hw]
  obtain ⟨v', w', hrun, r1, r2⟩ := run_app1 o.type hA hs hR hL ad x0 x1
  unfold Oper.wp
  simp [execOp, ho, resolve, invoke, builtin, hv, hx, hrun, Result.andThen]
  exact hK v' w' r1 r2
end
end Go.Proofs.Ytebbpgokhelmdaa
