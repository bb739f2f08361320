/- Count. -/
import Derived.Test.YthfiodjhjhpiaaaJLeg
import Derived.Test.YthfiodjhjhpiaaaJAwk
namespace Go.Proofs.Ythfiodjhjhpiaaa
open Go.RowKit
set_option linter.unusedVariables false
set_option linter.unusedSimpArgs false

theorem look_m2 {w : World} {r : Nat} {f : Int → Option Int} (h : MI w r f) (p : Int) :
    (Instr.lookup 36 (.map (some r)) (.int .i64 p) true).run Try.prog w = .ok (.tuple #[.int .i64 ((f p).getD 0), .bool (f p).isSome]) w := by
  obtain ⟨es, c, ps, h1, h2, h3⟩ := h
  have hg := getObj_map h1
  have hz := zeroI w
  have hf := fun k => find_mi p k es.toList ps 0 h2
  rcases hf .i64 with ⟨j, v, i1, i2, i3, i4, i5⟩ | ⟨i1, i2⟩
  · rw [← h3 p, i1]
    simp [Instr.lookup, hg, checkKey_int, Instr.findKey, i4]
  · rw [← h3 p, i1]
    simp [Instr.lookup, hg, checkKey_int, Instr.findKey, i2]
theorem look_m0 {w : World} {r : Nat} {f : Int → Option Int} (h : MI w r f) (p : Int) :
    (Instr.lookup 36 (.map (some r)) (.int .i64 p) false).run Try.prog w = .ok (.int .i64 ((f p).getD 0)) w := by
  obtain ⟨es, c, ps, h1, h2, h3⟩ := h
  have hg := getObj_map h1
  have hz := zeroI w
  have hf := fun k => find_mi p k es.toList ps 0 h2
  rcases hf .i64 with ⟨j, v, i1, i2, i3, i4, i5⟩ | ⟨i1, i2⟩
  · rw [← h3 p, i1]
    simp [Instr.lookup, hg, checkKey_int, Instr.findKey, i4]
  · rw [← h3 p, i1]
    simp [Instr.lookup, hg, checkKey_int, Instr.findKey, i2]
theorem put_m2 {w : World} {r : Nat} {f : Int → Option Int} (h : MI w r f) (p v : Int) :
    ∃ o, (Instr.mapUpdate 36 (.map (some r)) (.int .i64 p) (.int .i64 v)).run Try.prog w = .ok () (w.putObj r o) ∧ MI (w.putObj r o) r (updF f p v) := by
  have hlt := h.lt
  obtain ⟨es, c, ps, h1, h2, h3⟩ := h
  have hg := getObj_map h1
  have hs := setObj_map h1
  rcases find_mi p .i64 es.toList ps 0 h2 with ⟨j, v0, i1, i2, i3, i4, i5⟩ | ⟨i1, i2⟩
  · rw [Nat.zero_add] at i4
    obtain ⟨e0, he0, hk0⟩ := Option.map_eq_some_iff.1 i3
    have he1 : es[j]? = some e0 := by rw [← Array.getElem?_toList]; exact he0
    refine ⟨.map (es.modify j fun e => { e with key := .int .i64 p, val := .int .i64 v }) c, ?_, _, _, ps.modify j (fun q => (q.1, v)), World.putObj_heap_same hlt, ?_, fun t => ?_⟩
    · simp [Instr.mapUpdate, hg, checkKey_int, Instr.findKey, i4, hs, he1, hk0, Instr.keyThatStays, Instr.sameBits]
    · apply List.ext_getElem?
      intro i
      have hi := congrArg (fun l => l[i]?) h2
      simp only [miP, List.getElem?_map] at hi
      simp only [miP, List.getElem?_map, Array.toList_modify, List.getElem?_modify]
      by_cases hij : j = i
      · subst hij
        rw [he0] at hi ⊢
        cases hp : ps[j]? with
        | none => rw [hp] at hi; simp at hi
        | some q =>
          rw [hp] at hi
          simp at hi
          obtain ⟨hi1, hi2⟩ := hi
          rw [hk0] at hi1
          simpa using hi1
      · simp only [hij, if_false]
        simpa using hi
    · rw [i5 v t, updF, h3 t]
  · refine ⟨.map (es.push { key := .int .i64 p, val := .int .i64 v, born := c }) (c + 1), ?_, _, _, ps ++ [(p, v)], World.putObj_heap_same hlt, ?_, fun t => ?_⟩
    · simp [Instr.mapUpdate, hg, checkKey_int, Instr.findKey, i2, hs]
    · simp [miP] at h2 ⊢
      exact h2
    · have hla : ∀ (l : List (Int × Int)), l.lookup p = none → (l ++ [(p, v)]).lookup t = if t = p then some v else l.lookup t := by
        intro l
        induction l with
        | nil => intro _; by_cases ht : t = p <;> simp [List.lookup, ht]
        | cons a l ih =>
          obtain ⟨ak, av⟩ := a
          intro hn
          by_cases hpa : p = ak
          · subst hpa; simp [List.lookup] at hn
          · have hb : (p == ak) = false := by simpa using hpa
            simp only [List.lookup, hb] at hn
            by_cases hta : t = ak
            · subst hta
              have : ¬ t = p := fun e => hpa e.symm
              simp [List.lookup, this]
            · have hb2 : (t == ak) = false := by simpa using hta
              simp only [List.cons_append, List.lookup, hb2]
              exact ih hn
      rw [hla ps i1, updF, h3 t]

def cnt (js : List Fv) (p : Int) : Nat := js.countP (fun j => j.t == p)
def cntF (js : List Fv) (p : Int) : Option Int := if cnt js p = 0 then none else some (cnt js p : Int)
theorem cntF_get (js : List Fv) (p : Int) : (cntF js p).getD 0 = (cnt js p : Int) := by
  unfold cntF
  by_cases h : cnt js p = 0 <;> simp [h]
theorem cntF_is (js : List Fv) (p : Int) : (cntF js p).isSome = decide (0 < cnt js p) := by
  unfold cntF
  by_cases h : cnt js p = 0
  · simp [h]
  · simp [h]; omega
theorem cnt_le (js : List Fv) (p : Int) : cnt js p ≤ js.length := List.countP_le_length
theorem cntF_snoc (js : List Fv) (x : Fv) : updF (cntF js) x.t ((cnt js x.t : Int) + 1) = cntF (js ++ [x]) := by
  funext t
  unfold updF cntF cnt
  by_cases h : t = x.t
  · subst h
    simp
  · have h2 : (x.t == t) = false := by simp; exact fun e => h e.symm
    simp [h, h2]
theorem bel_stp {W w w' : World} (h : Below W.heap.size W w) (hb : Below w.heap.size w w') : Below W.heap.size W w' := h.trans (hb.mono h.size)
def CountPost (js : List Fv) (w : World) (e : Ending) (w' : World) : Prop := ∃ r, e = .returned (.map (some r)) ∧ MI w' r (cntF js) ∧ Below w.heap.size w w'
set_option maxRecDepth 100000 in
set_option maxHeartbeats 2000000 in
theorem count_bad (A R : Option Addr) (cap rc : Nat) (ts : List Ts) (js : List Fv) (w : World) (hT : Row w A cap ts) (hR : FRow w R rc js) (hb : legS ts js = false) :
    Calls Try.prog 20 #[.slice A ts.length cap, .slice R js.length rc] w fun e w' => e = .returned (.map none) ∧ Below w.heap.size w w' := by
  have K := legal_any A R cap rc ts js w hT hR
  rw [hb] at K
  have K := Lib.hid K
  clear hT hR hb
  go_enter Try.func20, Try.ntmps20
  go_wp2_with (go_at_call 17; (with_reducible refine K.out.mono ?_); rintro e w1 ⟨rfl, h1⟩)
  go_ret
  exact ⟨rfl, h1⟩
set_option maxRecDepth 100000 in
set_option maxHeartbeats 4000000 in
theorem count_good (A R : Option Addr) (cap rc : Nat) (ts : List Ts) (js : List Fv) (w : World) (hT : Row w A cap ts) (hR : FRow w R rc js) (hb : legS ts js = true) :
    Calls Try.prog 20 #[.slice A ts.length cap, .slice R js.length rc] w (CountPost js w) := by
  have K := legal_any A R cap rc ts js w hT hR
  rw [hb] at K
  have hl : js.length ≤ 4096 := by
    rw [legS, Bool.and_eq_true, decide_eq_true_eq] at hb
    exact hb.1.2
  have K := Lib.hid K
  have RAW := Lib.hid hR
  have hle := hR.le
  have hmx := hR.mx
  have hmm := @run_makeMap Try.prog
  clear hT hR hb
  go_enter Try.func20, Try.ntmps20
  go_upto_region 4 with (go_at_call 17; (with_reducible refine K.out.mono ?_); rintro e w1 ⟨rfl, h1⟩)
  have HI0 : Hid (MI (w1.alloc (.map #[] 0)) w1.heap.size (cntF ([] : List Fv))) := Lib.hid (MI.new w1)
  have HB0 : Hid (Below w.heap.size w (w1.alloc (.map #[] 0))) := Lib.hid (h1.trans (((Below.refl _ _).alloc (Nat.le_refl _) _).mono h1.size))
  have HR0 := Lib.hid h1.size
  clear h1 hmm
  generalize w1.alloc (.map #[] 0) = W0 at *
  generalize w1.heap.size = M at *
  go_wp2
  go_loopw [15] (fun i wr => ∃ k : Nat, k ≤ js.length ∧ i = .int .i64 k ∧ Hid (MI wr M (cntF (js.take k))) ∧ Hid (Below w.heap.size w wr)) (fun i _ => js.length - (intOf i).toNat)
  case atStart => exact ⟨0, Nat.zero_le _, rfl, HI0, HB0⟩
  case round =>
    obtain ⟨k, hk, rfl, hI, hB⟩ := hrel
    by_cases hlt : k < js.length
    · obtain ⟨rb, ro, x, C, cc, rfl, hx, hrb, hF⟩ := RAW.out.get (k := k) hlt
      have hF := hF.later hB.out
      have c0 := hF.c0
      have c1 := hF.c1
      have c2 := hF.c2
      have c3 := hF.c3
      have c4 := hF.c4
      have hi0 : (0 : Int) ≤ (k : Int) := by omega
      have hi1 : (k : Int) < (js.length : Int) := by omega
      have HX := Lib.hid hx
      have HF := Lib.hid hF
      clear hF hx
      go_upto_region 7 with (fail)
      have F1 := Lib.hid (FAt.new wr x C cc 40 HF.out.wf HF.out.s)
      have B1 := Lib.hid (box_job wr x C cc)
      have I1 := Lib.hid (hI.out.later B1.out)
      have HB1 := Lib.hid (bel_stp hB.out B1.out)
      generalize (wr.alloc (.cells #[.int .i64 x.t, .int .i64 x.a, .int .i64 x.r, .int .i64 x.k, .slice C x.c.length cc] 40)) = W1 at *
      generalize wr.heap.size = b8 at *
      obtain ⟨z0, z1, z2, z3, z4⟩ := F1.out.z
      have hlk := look_m0 I1.out x.t
      rw [cntF_get] at hlk
      have hcl := cnt_le (js.take k) x.t
      have htk : (js.take k).length ≤ 4096 := by rw [List.length_take]; omega
      obtain ⟨c, hc⟩ : ∃ c, cnt (js.take k) x.t = c := ⟨_, rfl⟩
      obtain ⟨o, hp, hm⟩ := put_m2 I1.out x.t ((cnt (js.take k) x.t : Int) + 1)
      rw [cntF_snoc, ← take_one HX.out] at hm
      rw [hc] at hp hlk hcl
      have hc0 : (0 : Int) ≤ (c : Int) := by omega
      have hc1 : (c : Int) ≤ 4096 := by omega
      have HM := Lib.hid hm
      have HK := Lib.hid ((Kept.refl [M] W1).put M o (by simp))
      clear c0 c1 c2 c3 c4 hI hm hc hcl htk
      go_wp2
      exact ⟨⟨k + 1, by omega, by go_num, HM, Lib.hid (HB1.out.trans (HK.out.below HB1.out.size (by simp; exact HR0.out)))⟩, by simp only [intOf]; omega⟩
    · obtain rfl : k = js.length := by omega
      have hI := Lib.hid hI.out
      have hmm : decide ((js.length : Int) < (js.length : Int)) = false := decide_eq_false (by omega)
      go_wp2
      go_ret
      exact ⟨M, rfl, by have := hI.out; rwa [List.take_length] at this, hB.out⟩
end Go.Proofs.Ythfiodjhjhpiaaa
