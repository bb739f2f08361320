/- A set of tasks, split by one of them: pure facts; a set is the same value as itself. -/
import Derived.Test.YtapeklpnjckfkaaUrg0
import Derived.Test.YtapeklpnjckfkaaSet
import Derived.Laws.StructEq
namespace Go.Proofs.Ytapeklpnjckfkaa
open Go.RowKit
set_option linter.unusedVariables false
set_option linter.unusedSimpArgs false

theorem cntTo_all {f : Nat → Bool} : ∀ n, (∀ k, k < n → f k = true) → cntTo f n = n
  | 0, _ => rfl
  | n + 1, h => by rw [cntTo_yes (h n (by omega)), cntTo_all n (fun k hk => h k (by omega))]
theorem cntTo_but {f : Nat → Bool} {i : Nat} : ∀ n, i < n → (∀ k, k < n → (f k = true ↔ k ≠ i)) → cntTo f n + 1 = n
  | 0, h, _ => by omega
  | n + 1, hi, h => by
    by_cases e : n = i
    · have hf : f n = false := by
        cases hfn : f n with
        | false => rfl
        | true => exact absurd e ((h n (by omega)).1 hfn)
      rw [cntTo_no hf, cntTo_all n (fun k hk => (h k (by omega)).2 (by omega))]
    · rw [cntTo_yes ((h n (by omega)).2 e), cntTo_but n (by omega) (fun k hk => h k (by omega))]
theorem cntTo_neg (f : Nat → Bool) : ∀ n, cntTo f n + cntTo (fun k => !f k) n = n
  | 0 => rfl
  | n + 1 => by
    have := cntTo_neg f n
    cases h : f n with
    | false => rw [cntTo_no h, cntTo_yes (f := fun k => !f k) (by simp [h])]; omega
    | true => rw [cntTo_yes h, cntTo_no (f := fun k => !f k) (by simp [h])]; omega
theorem cntTo_congr {f g : Nat → Bool} : ∀ n, (∀ k, k < n → f k = g k) → cntTo f n = cntTo g n
  | 0, _ => rfl
  | n + 1, h => by
    have hn := h n (by omega)
    have ih := cntTo_congr n (fun k hk => h k (by omega))
    cases hf : f n with
    | false => rw [cntTo_no hf, cntTo_no (hn ▸ hf), ih]
    | true => rw [cntTo_yes hf, cntTo_yes (hn ▸ hf), ih]

theorem pOf_at {l : List Ts} {k : Nat} {x : Ts} (h : l[k]? = some x) : pOf l k = x.p := by simp [pOf, h]
theorem ahead_lt {l : List Ts} (hD : Dist l) {a b : Nat} {x y : Ts} (hx : l[a]? = some x) (hy : l[b]? = some y) (h : Ahead l a b) : x.p < y.p := by
  unfold Ahead at h
  rw [pOf_at hx, pOf_at hy] at h
  rcases h with h | ⟨h1, h2⟩
  · exact h
  · have := hD a b x y hx hy h1
    omega
theorem get_of {l : List Ts} {k : Nat} (h : k < l.length) : ∃ x, l[k]? = some x := ⟨l[k], List.getElem?_eq_getElem h⟩

theorem split_minus {l : List Ts} (i : Nat) (hi : i < l.length) : minusF (higherF l (i : Int)) (lowerF l (i : Int)) = higherF l (i : Int) := by
  obtain ⟨xi, hxi⟩ := get_of hi
  funext k
  unfold minusF
  by_cases hk : k < l.length
  · obtain ⟨x, hx⟩ := get_of hk
    rw [higherF_at (pAt_some hxi) hx, lowerF_at (pAt_some hxi) hx]
    by_cases h : x.p < xi.p
    · rw [decide_eq_true h, decide_eq_false (by omega : ¬ xi.p < x.p)]; rfl
    · rw [decide_eq_false h]; rfl
  · rw [higherF_far (by omega)]; rfl
theorem split_iff {l : List Ts} (hD : Dist l) {i : Nat} (hi : i < l.length) {k : Nat} (hk : k < l.length) : orF (higherF l (i : Int)) (lowerF l (i : Int)) k = true ↔ k ≠ i := by
  obtain ⟨xi, hxi⟩ := get_of hi
  obtain ⟨x, hx⟩ := get_of hk
  unfold orF
  rw [higherF_at (pAt_some hxi) hx, lowerF_at (pAt_some hxi) hx]
  simp only [Bool.or_eq_true, decide_eq_true_eq]
  constructor
  · rintro h rfl
    obtain rfl : x = xi := Option.some.inj (hx.symm.trans hxi)
    omega
  · intro h
    have : x.p ≠ xi.p := fun e => h (hD k i x xi hx hxi e)
    omega
theorem split_has {l : List Ts} (hD : Dist l) {i : Nat} (hi : i < l.length) : orF (higherF l (i : Int)) (lowerF l (i : Int)) i = false := by
  cases h : orF (higherF l (i : Int)) (lowerF l (i : Int)) i with
  | false => rfl
  | true => exact absurd rfl ((split_iff hD hi hi).1 h)
theorem split_len {l : List Ts} (hD : Dist l) (h16 : l.length ≤ 1024) {i : Nat} (hi : i < l.length) : cnt (orF (higherF l (i : Int)) (lowerF l (i : Int))) 16 + 1 = l.length := by
  rw [cnt_few (n := l.length) (fun k hk => by unfold orF; rw [higherF_far hk, lowerF_far hk]; rfl) h16]
  exact cntTo_but _ hi fun k hk => split_iff hD hi hk
theorem split_at {l : List Ts} (hD : Dist l) (h16 : l.length ≤ 1024) {o : List Nat} (hO : IsOrd l o) {i : Nat} (hi : i < l.length) : o[cnt (higherF l (i : Int)) 16]? = some i := by
  obtain ⟨q, hq, e⟩ := hO.at_ hi
  obtain ⟨xi, hxi⟩ := get_of hi
  rw [cnt_few (n := l.length) (fun k hk => higherF_far hk) h16]
  rw [cntTo_congr (g := aheadB l i) l.length fun k hk => ?_, hO.rank e]
  · exact e
  · obtain ⟨x, hx⟩ := get_of hk
    rw [higherF_at (pAt_some hxi) hx, ahead_at hx hxi, decide_eq_decide]
    constructor
    · exact .inl
    · rintro (h | ⟨h1, h2⟩)
      · exact h
      · have := hD k i x xi hx hxi h1
        omega
theorem split_up {l : List Ts} (hD : Dist l) {o : List Nat} (hO : IsOrd l o) {j k a b : Nat} {x y : Ts} (hjk : j < k) (ha : o[j]? = some a) (hb : o[k]? = some b) (hx : l[a]? = some x) (hy : l[b]? = some y) : x.p < y.p :=
  ahead_lt hD hx hy (hO.srt j k a b hjk ha hb)
theorem split_low {l : List Ts} (hD : Dist l) (h16 : l.length ≤ 1024) {o : List Nat} (hO : IsOrd l o) {j a : Nat} (hj : j < l.length) (ha : o[j]? = some a) : cnt (lowerF l (a : Int)) 16 + (j + 1) = l.length := by
  have hal := hO.lt ha
  obtain ⟨xa, hxa⟩ := get_of hal
  rw [cnt_few (n := l.length) (fun k hk => lowerF_far hk) h16]
  have hn := cntTo_neg (lowerF l (a : Int)) l.length
  rw [hO.count (fun k => !lowerF l (a : Int) k) (j + 1) (by omega) fun k c hc => ?_] at hn
  · exact hn
  · have hcl := hO.lt hc
    obtain ⟨xc, hxc⟩ := get_of hcl
    rw [lowerF_at (pAt_some hxa) hxc]
    simp only [Bool.not_eq_true', decide_eq_false_iff_not]
    rcases Nat.lt_trichotomy k j with h | h | h
    · have := split_up hD hO h hc ha hxc hxa
      omega
    · subst h
      obtain rfl : c = a := Option.some.inj (hc.symm.trans ha)
      obtain rfl : xc = xa := Option.some.inj (hxc.symm.trans hxa)
      omega
    · have := split_up hD hO h ha hc hxa hxc
      omega

theorem run_part (c : Array Value) (i : Nat) (x : Int) (h : c[i]? = some (.int .u64 x)) (w : World) : (part 39 c i).run Try.prog w = .ok (.int .u64 x) w := by
  simp [part, h]
theorem run_equal_same (f : Nat → Bool) (w : World) : (Op.equalIn 10000 41 (setV f) (setV f)).run Try.prog w = .ok true w := by
  have key : ∀ (d : Nat), (Op.equalIn (d + 1 + 1) 41 (setV f) (setV f)).run Try.prog w = .ok true w := by
    intro d
    rw [Op.equalIn]
    simp only [Sem.run_bind, run_underlying Try.underlying41, Result.andThen_ok, Try.sizeOf39]
    simp only [Std.Legacy.Range.forIn_eq_forIn_range', Std.Legacy.Range.size, Nat.sub_zero, Nat.add_one_sub_one, Nat.div_one]
    have hl : ∀ i ∈ List.range' 0 16 1, i < 16 := by intro i hi; rw [List.mem_range'_1] at hi; omega
    generalize List.range' 0 16 1 = l at *
    induction l with
    | nil => simp
    | cons i l ih =>
      have hp := run_part (cellsL f).toArray (i * 1) (word f i : Int) (by simpa using cellsL_get f i (hl i (by simp))) w
      simp only [List.forIn_cons, Sem.run_bind, Result.andThen_ok, hp, run_equalIn_int w d 39 .u64 .u64 _ _ Try.underlying39, beq_self_eq_true, Bool.not_true, Bool.false_eq_true, if_false, Sem.run_pure]
      have := ih (fun j hj => hl j (by simp [hj]))
      simpa only [Sem.run_bind] using this
  exact key 9998


section
variable {ops : Array Oper} {C : World → Prop} {Q : Act → Prop} {a : Act} {o : Oper} {rest : List Oper}
theorem wq_load (x : Operand) (b : Nat) (f : Nat → Bool) (hC : ∀ w, C w → w.rangeAt b 0 (cellsL f)) (hw : Region.wanted o (yielded ops a.tmps) = true) (ho : o.op = .load 41 x) (hx : a.eval x = .pointer (some ⟨b, 0, none⟩))
    (h : wpQuiet Try.prog ops C Q rest (a.put o.dst (setV f))) : wpQuiet Try.prog ops C Q (o :: rest) a :=
  wq_val (setV f) hw (fun w hw' => by
    unfold execOp
    simp only [ho, hx, Instr.loadAt, Instr.sureAddr, Sem.run_bind, Sem.run_pure, Result.andThen_ok, run_loadVar_mid w b 0 41 (cellsL f) _ (hC w hw') Try.underlying41 rfl (info26 f)]) h
theorem run_neq_same (x y : Operand) (f : Nat → Bool) (ho : o.op = .binOp .neq 41 x y 41) (hx : a.eval x = setV f) (hy : a.eval y = setV f) (w : World) : (execOp a.eval o).run Try.prog w = .ok (.value (.bool false)) w := by
  unfold execOp
  simp only [ho, hx, hy, Sem.run_bind, run_eqGuard_agg (P := Try.prog) w .neq 41 x y _ _ Try.eqGuardType41, Result.andThen_ok, run_neq_struct, run_equal_same f w, Sem.run_pure, Bool.not_true]
theorem wq_neq (x y : Operand) (f : Nat → Bool) (hw : Region.wanted o (yielded ops a.tmps) = true) (ho : o.op = .binOp .neq 41 x y 41) (hx : a.eval x = setV f) (hy : a.eval y = setV f)
    (h : wpQuiet Try.prog ops C Q rest (a.put o.dst (.bool false))) : wpQuiet Try.prog ops C Q (o :: rest) a :=
  wq_val _ hw (fun w _ => run_neq_same x y f ho hx hy w) h
end
end Go.Proofs.Ytapeklpnjckfkaa
