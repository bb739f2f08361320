/- The small functions: rests, whether a number lies between two, whether a set may be; the map of last arrivals. -/
import Derived.Test.YtngmaiiibinkaaaJPure
namespace Go.Proofs.Ytngmaiiibinkaaa
open Go.RowKit
set_option linter.unusedVariables false
set_option linter.unusedSimpArgs false

/-! ### Rests -/
theorem lrest_any (x n : Int) (w : World) (hx : in64 x) (hn : 0 < n) (hn2 : n ≤ 100000) : Calls Try.prog 31 #[.int .i64 x, .int .i64 n] w fun e w' => e = .returned (.int .i64 (x % n)) ∧ w = w' := by
  rw [← restI_emod x n hn hn2]
  exact rest_any x n w hx hn hn2
set_option maxHeartbeats 1000000 in
theorem r8rest_any (x n : Int) (w : World) (hx : in64 x) (hn : 0 < n) (hn2 : n ≤ 4294967296) : Calls Try.prog 15 #[.int .i64 x, .int .i64 n] w fun e w' => e = .returned (.int .i64 (x % n)) ∧ w = w' := by
  have e : x % n = (wrap64 (x.tmod n + n)).tmod n := by
    have hb := tmod_bd x n hn
    rw [IntWalk.wrap64_in _ (by omega), twice_tmod x n hn]
  rw [e]
  obtain ⟨h1, h2⟩ := hx
  clear e
  go_enter Try.func15, Try.ntmps15
  go_wp2
  go_ret
  exact ⟨rfl, rfl⟩
/-! ### Whether a set may be -/
/-! ### Maps of numbers by numbers -/
def miP (ps : List (Int × Int)) : List (Value × Value) := ps.map fun p => (.int .i64 p.1, .int .i64 p.2)
/-- Block r holds a map that tells what f does. -/
def MI (w : World) (r : Nat) (f : Int → Option Int) : Prop := ∃ (es : Array MapEntry) (c : Nat) (ps : List (Int × Int)), w.heap[r]? = some (.map es c) ∧ es.toList.map (fun e => (e.key, e.val)) = miP ps ∧ ∀ t, ps.lookup t = f t
theorem MI.is {w : World} {r : Nat} {f : Int → Option Int} (h : MI w r f) : ∃ es c, w.heap[r]? = some (.map es c) := by
  obtain ⟨es, c, _, h1, _⟩ := h
  exact ⟨es, c, h1⟩
theorem MI.lt {w : World} {r : Nat} {f : Int → Option Int} (h : MI w r f) : r < w.heap.size := by
  obtain ⟨es, c, _, h1, _⟩ := h
  exact (Array.getElem?_eq_some_iff.1 h1).1
theorem MI.later {w w' : World} {r : Nat} {f : Int → Option Int} (h : MI w r f) (hb : Below w.heap.size w w') : MI w' r f := by
  obtain ⟨es, c, ps, h1, h2⟩ := h
  exact ⟨es, c, ps, (hb.block r ((Array.getElem?_eq_some_iff.1 h1).1)).trans h1, h2⟩
theorem MI.kept {X : List Nat} {w w' : World} {r : Nat} {f : Int → Option Int} (h : MI w r f) (hk : Kept X w w') (hx : r ∉ X) : MI w' r f := by
  obtain ⟨es, c, ps, h1, h2⟩ := h
  exact ⟨es, c, ps, (hk.block r ((Array.getElem?_eq_some_iff.1 h1).1) hx).trans h1, h2⟩
theorem MI.cell {w : World} {r : Nat} {f : Int → Option Int} (h : MI w r f) (o : Nat) : w.cell? ⟨r, o, none⟩ = none := by
  obtain ⟨es, c, h1⟩ := h.is
  exact cell_of_map h1 o
theorem MI.new (w : World) : MI (w.alloc (.map #[] 0)) w.heap.size fun _ => none := ⟨#[], 0, [], heap_alloc_new w _, rfl, fun _ => rfl⟩
theorem find_mi (s : Int) (kk : IntKind) : ∀ (es : List MapEntry) (ps : List (Int × Int)) (i : Nat), es.map (fun e => (e.key, e.val)) = miP ps →
    (∃ j v, ps.lookup s = some v ∧ j < es.length ∧ (es[j]?.map (·.key)) = some (.int .i64 s) ∧ Instr.findNow (.int kk) (.int .i64 s) es i = some (some (i + j, .int .i64 v)) ∧ ∀ x t, (ps.modify j fun p => (p.1, x)).lookup t = if t = s then some x else ps.lookup t) ∨
    (ps.lookup s = none ∧ Instr.findNow (.int kk) (.int .i64 s) es i = some none)
  | [], ps, i, h => by
    cases ps with
    | nil => exact .inr ⟨rfl, rfl⟩
    | cons a r => simp [miP] at h
  | e :: es, ps, i, h => by
    cases ps with
    | nil => simp [miP] at h
    | cons a r =>
      simp only [miP, List.map_cons, List.cons.injEq, Prod.mk.injEq] at h
      obtain ⟨⟨h1, h3⟩, h2⟩ := h
      have ih := find_mi s kk es r (i + 1) h2
      unfold Instr.findNow
      rw [h1]
      simp only [Instr.sameNow, if_true]
      obtain ⟨ak, av⟩ := a
      by_cases hs : s = ak
      · subst hs
        simp only [beq_self_eq_true]
        refine .inl ⟨0, av, by simp [List.lookup], by simp, by simp [h1], by simp [h3], fun x t => ?_⟩
        by_cases ht : t = s
        · subst ht; simp [List.lookup]
        · have : (t == s) = false := by simpa using ht
          simp [List.lookup, this, ht]
      · have hb : (s == ak) = false := by simpa using hs
        simp only [hb]
        rcases ih with ⟨j, v, i1, i2, i3, i4, i5⟩ | ⟨i1, i2⟩
        · refine .inl ⟨j + 1, v, by simp [List.lookup, hb, i1], by simp; exact i2, by simpa using i3, by rw [i4]; simp; omega, fun x t => ?_⟩
          rw [List.modify_succ_cons]
          by_cases ht : t = ak
          · subst ht
            have : ¬ t = s := fun e => hs e.symm
            simp [List.lookup, this]
          · have hb2 : (t == ak) = false := by simpa using ht
            simp only [List.lookup, hb2]
            exact i5 x t
        · exact .inr ⟨by simp [List.lookup, hb, i1], i2⟩
theorem zero64 (w : World) : (zeroValue 2).run Try.prog w = .ok (.int .i64 0) w := by kernel_rfl
theorem zeroI (w : World) : (zeroValue 3).run Try.prog w = .ok (.int .i64 0) w := by kernel_rfl
theorem look_mi {w : World} {r : Nat} {f : Int → Option Int} (h : MI w r f) (p : Int) :
    (Instr.lookup 81 (.map (some r)) (.int .i64 p) true).run Try.prog w = .ok (.tuple #[.int .i64 ((f p).getD 0), .bool (f p).isSome]) w := by
  obtain ⟨es, c, ps, h1, h2, h3⟩ := h
  have hg := getObj_map h1
  have hz := zero64 w
  have hf := fun k => find_mi p k es.toList ps 0 h2
  rcases hf .i64 with ⟨j, v, i1, i2, i3, i4, i5⟩ | ⟨i1, i2⟩
  · rw [← h3 p, i1]
    simp [Instr.lookup, hg, checkKey_int, Instr.findKey, i4]
  · rw [← h3 p, i1]
    simp [Instr.lookup, hg, checkKey_int, Instr.findKey, i2]
def updF (f : Int → Option Int) (p v : Int) : Int → Option Int := fun t => if t = p then some v else f t
theorem put_mi {w : World} {r : Nat} {f : Int → Option Int} (h : MI w r f) (p v : Int) :
    ∃ o, (Instr.mapUpdate 81 (.map (some r)) (.int .i64 p) (.int .i64 v)).run Try.prog w = .ok () (w.putObj r o) ∧ MI (w.putObj r o) r (updF f p v) := by
  have hlt := h.lt
  obtain ⟨es, c, ps, h1, h2, h3⟩ := h
  have hg := getObj_map h1
  have hs := setObj_map h1
  rcases find_mi p .i64 es.toList ps 0 h2 with ⟨j, v0, i1, i2, i3, i4, i5⟩ | ⟨i1, i2⟩
  · rw [Nat.zero_add] at i4
    obtain ⟨e0, he0, hk0⟩ := Option.map_eq_some_iff.1 i3
    have he1 : es[j]? = some e0 := by rw [← Array.getElem?_toList]; exact he0
    refine ⟨.map (es.modify j fun e => { e with key := .int .i64 p, val := .int .i64 v }) c, ?_, _, _, ps.modify j (fun q => (q.1, v)), World.putObj_heap_same hlt, ?_, fun t => ?_⟩
    · simp [Instr.mapUpdate, hg, checkKey_int, Instr.findKey, i4, hs, he1, hk0, Instr.keyThatStays, Instr.sameBits]
    · apply List.ext_getElem?
      intro i
      have hi := congrArg (fun l => l[i]?) h2
      simp only [miP, List.getElem?_map] at hi
      simp only [miP, List.getElem?_map, Array.toList_modify, List.getElem?_modify]
      by_cases hij : j = i
      · subst hij
        rw [he0] at hi ⊢
        cases hp : ps[j]? with
        | none => rw [hp] at hi; simp at hi
        | some q =>
          rw [hp] at hi
          simp at hi
          obtain ⟨hi1, hi2⟩ := hi
          rw [hk0] at hi1
          simpa using hi1
      · simp only [hij, if_false]
        simpa using hi
    · rw [i5 v t, updF, h3 t]
  · refine ⟨.map (es.push { key := .int .i64 p, val := .int .i64 v, born := c }) (c + 1), ?_, _, _, ps ++ [(p, v)], World.putObj_heap_same hlt, ?_, fun t => ?_⟩
    · simp [Instr.mapUpdate, hg, checkKey_int, Instr.findKey, i2, hs]
    · simp [miP] at h2 ⊢
      exact h2
    · have hla : ∀ (l : List (Int × Int)), l.lookup p = none → (l ++ [(p, v)]).lookup t = if t = p then some v else l.lookup t := by
        intro l
        induction l with
        | nil => intro _; by_cases ht : t = p <;> simp [List.lookup, ht]
        | cons a l ih =>
          obtain ⟨ak, av⟩ := a
          intro hn
          by_cases hpa : p = ak
          · subst hpa; simp [List.lookup] at hn
          · have hb : (p == ak) = false := by simpa using hpa
            simp only [List.lookup, hb] at hn
            by_cases hta : t = ak
            · subst hta
              have : ¬ t = p := fun e => hpa e.symm
              simp [List.lookup, this]
            · have hb2 : (t == ak) = false := by simpa using hta
              simp only [List.cons_append, List.lookup, hb2]
              exact ih hn
      rw [hla ps i1, updF, h3 t]
end Go.Proofs.Ytngmaiiibinkaaa
