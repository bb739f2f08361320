/- From when on a job may arrive; what keeps it; sections; a job of raw numbers. -/
import Derived.Test.YthfiodjhjhpiaaaJOps
import Derived.Sort.LoopGhostIn
namespace Go.Proofs.Ythfiodjhjhpiaaa
open Go.RowKit
set_option linter.unusedVariables false
set_option linter.unusedSimpArgs false

def soonV (f : Int → Option Int) (ts : List Ts) (p : Int) : Int := match f p with | none => 0 | some a => a + (tk ts p).t
set_option maxRecDepth 100000 in
set_option maxHeartbeats 2000000 in
theorem soonest_any (A : Option Addr) (cap : Nat) (ts : List Ts) (r : Nat) (f : Int → Option Int) (p : Int) (w : World) (hR : Row w A cap ts) (hm : MI w r f)
    (hf : ∀ a, f p = some a → 0 ≤ p ∧ p < ts.length ∧ 0 ≤ a ∧ a ≤ 35184372088832) (ht : TsOk (tk ts p)) :
    Calls Try.prog 28 #[.agg #[.slice A ts.length cap, .map (some r)], .int .i64 p] w fun e w' => e = .returned (.int .i64 (soonV f ts p)) ∧ Below w.heap.size w w' := by
  have b0 : Below w.heap.size w (w.alloc (.cells #[.slice A ts.length cap, .map (some r)] 57)) := (Below.refl _ _).alloc (Nat.le_refl _) _
  have hlk := look_mi (hm.later b0) p
  have B0 := Lib.hid b0
  cases hfp : f p with
  | none =>
    rw [hfp] at hlk
    have e : soonV f ts p = 0 := by rw [soonV, hfp]
    rw [e]
    simp only [Option.getD_none, Option.isSome_none] at hlk
    clear e hf hfp ht
    go_enter Try.func28, Try.ntmps28
    go_wp2
    go_ret
    exact ⟨rfl, B0.out⟩
  | some a =>
    rw [hfp] at hlk
    have e : soonV f ts p = a + (tk ts p).t := by rw [soonV, hfp]
    rw [e]
    simp only [Option.getD_some, Option.isSome_some] at hlk
    obtain ⟨p0, p1, a0, a1⟩ := hf a hfp
    obtain ⟨k, rfl⟩ : ∃ k : Nat, p = (k : Int) := ⟨p.toNat, by omega⟩
    obtain ⟨b, o, x, rfl, hx, hw, hbl, hT⟩ := hR.get (k := k) (by omega)
    rw [tk_get hx] at ht ⊢
    have c2 := (hT.later b0).c2
    have t0 := ht.t0
    have t1 := ht.t1
    clear e hf hfp ht hx hw hT hR hm b0
    go_enter Try.func28, Try.ntmps28
    go_wp2
    go_ret
    exact ⟨rfl, B0.out⟩

set_option maxRecDepth 100000 in
set_option maxHeartbeats 2000000 in
theorem note_any (A C : Option Addr) (n cap cc : Nat) (r : Nat) (f : Int → Option Int) (x : Fv) (w : World) (hm : MI w r f) :
    Calls Try.prog 29 #[.agg #[.slice A n cap, .map (some r)], fvV x C cc] w fun e w' => e = .returned (.tuple #[]) ∧ MI w' r (updF f x.t x.a) ∧ Kept [r] w w' := by
  have b1 : Below w.heap.size w (w.alloc (.cells #[.slice A n cap, .map (some r)] 57)) := (Below.refl _ _).alloc (Nat.le_refl _) _
  have b2 := b1.alloc (by simp) (.cells #[.int .i64 x.t, .int .i64 x.a, .int .i64 x.r, .int .i64 x.k, .slice C x.c.length cc] 40)
  obtain ⟨o, hp, hm'⟩ := put_mi (hm.later b2) x.t x.a
  have HK := Lib.hid ((Kept.of [r] b2).put r o (by simp))
  have HM := Lib.hid hm'
  clear b1 b2 hm' hm
  go_enter Try.func29, Try.ntmps29
  go_wp2
  go_end0
  exact ⟨rfl, HM.out, HK.out⟩

def SecPost (sl : List Int) (w : World) (e : Ending) (w' : World) : Prop :=
  ∃ C cc, e = .returned (.slice C sl.length cc) ∧ CRow w' C cc sl ∧ (sl ≠ [] → ∀ a, C = some a → w.heap.size ≤ a.block ∧ ∃ cs fr, w'.heap[a.block]? = some (.cells cs 2 fr)) ∧ Below w.heap.size w w'
/-- Sections so far. -/
structure SecIn (B : Nat) (w : World) (v : Value) (pre : List Int) : Prop where
  row : w.ownsRow B 2 1 v pre.length (numL pre)
  wf : ∀ x ∈ pre, in64 x
theorem numL_snoc (l : List Int) (x : Int) : numL (l ++ [x]) = numL l ++ [.int .i64 x] := by simp [numL]
theorem secs_post {q k : Int} {l pre : List Int} {v : Value} {w w1 : World} (h : SecIn w.heap.size w1 v pre) (hq : secs q k l = pre) (hL : Below w.heap.size w w1) : SecPost (secs q k l) w (.returned v) w1 := by
  obtain ⟨C, cc, hv, _, hC, hs⟩ := crow_own h.row h.wf
  rw [SecPost, hq]
  exact ⟨C, cc, by rw [hv], hC, hs, hL⟩
set_option maxRecDepth 100000 in
set_option maxHeartbeats 4000000 in
theorem sections_any (A : Option Addr) (cap : Nat) (l : List Int) (q k : Int) (w : World) (hR : CRow w A cap l) (q0 : 1 ≤ q) (q1 : q ≤ 2147483647) (k0 : 0 ≤ k) (k1 : k ≤ 2147483647) :
    Calls Try.prog 44 #[.slice A l.length cap, .int .i64 q, .int .i64 k] w (SecPost (secs q k l) w) := by
  obtain ⟨i0, hi, hz0, hz1, hz2⟩ := info_parts info64
  have hle := hR.le
  have hmx := hR.mx
  have ROW := Lib.hid hR
  have HS0 : Hid (SecIn w.heap.size w (.slice none 0 0) []) := Lib.hid ⟨World.ownsRow_nil _ _ _ _, by simp⟩
  clear hR
  go_enter Try.func44, Try.ntmps44
  go_wp2
  go_step3
  go_wp2
  go_step3
  go_wp2
  go_loopg [7, 8, 15] l.length (fun g v lf i wr => ∃ (m : Nat) (pre : List Int) (left : Int), m ≤ l.length ∧ l.length - m ≤ g ∧ i = .int .i64 m ∧ lf = .int .i64 left ∧ 0 ≤ left ∧ left ≤ k ∧ (pre.length : Int) ≤ k - left ∧ Hid (SecIn w.heap.size wr v pre) ∧ Hid (secs q k l = pre ++ secs q left (l.drop m)) ∧ Lt w wr)
  case atStart => exact ⟨0, [], k, Nat.zero_le _, by omega, rfl, rfl, k0, by omega, by simp, HS0, Lib.hid rfl, Below.refl _ _⟩
  case round =>
    obtain ⟨m, pre, left, hm, hg, rfl, rfl, l0, l1, hpl, hI, hq, hL⟩ := hrel
    by_cases hlt : m < l.length
    · obtain ⟨b, o, c, rfl, hc, hcw, hbl, hcell⟩ := ROW.out.get hlt
      have hcell := (hL.cell (p := ⟨b, o + m, none⟩) hbl).trans hcell
      have hd : l.drop m = c :: l.drop (m + 1) := by
        obtain ⟨hlt', he⟩ := List.getElem?_eq_some_iff.1 hc
        rw [← he]
        exact (List.drop_eq_getElem_cons hlt')
      have HD := Lib.hid hd
      have HL := Lib.hid hL
      have m0 : (0 : Int) ≤ (m : Int) := by omega
      have m1 : (m : Int) < (l.length : Int) := by omega
      clear hc hd hL
      by_cases hz : left = 0
      · subst hz
        go_wp2
        first | rw [Exit.noGoto_ret] | simp only [Exit.noGoto]
        go_wp2
        go_ret
        exact secs_post hI.out (by rw [hq.out, HD.out, secs, if_pos rfl, List.append_nil]) HL.out
      · have hzb : (left == 0) = false := by rw [beq_eq_false_iff_ne]; exact hz
        have hmb := min_bd q left q0 (by omega)
        have hrb := emod_bd c (min q left) (by omega)
        have K : Hid (∀ (W : World) (n : Int), n = min q left → Calls Try.prog 26 #[.int .i64 c, .int .i64 n] W fun e w' => e = .returned (.int .i64 (c % min q left)) ∧ W = w') := Lib.hid (fun W n hn => by subst hn; exact srest_any c (min q left) W hcw (by omega) (by omega))
        have hQ : secs q k l = (pre ++ [1 + c % min q left]) ++ secs q (left - (1 + c % min q left)) (l.drop (m + 1)) := by rw [hq.out, HD.out, secs, if_neg hz]; simp
        have HQ := Lib.hid hQ
        have hmn : min q left = if left < q then left else q := by omega
        generalize c % min q left = s at *
        generalize hmin : min q left = mn at *
        clear hq hQ HD
        obtain ⟨t, ht⟩ : ∃ t, 1 + s = t := ⟨_, rfl⟩
        rw [ht] at HQ
        have ht0 : 1 ≤ t ∧ t ≤ left := by omega
        have hc1 := fun (V : World) => cell_one_new V (.int .i64 t) 2
        have HC1 := Lib.hid hc1
        have HI := hI
        clear hI hc1
        go_wp2_with (first
          | (go_at_call 26; (with_reducible refine (K.out _ _ (by omega)).mono ?_); rintro e w1 ⟨rfl, rfl⟩)
          | (at_builtin; refine wpList_append_own _ rfl _ _ 38 rfl w.heap.size 2 i0 _ 1 8 Try.underlying38 hi hz0 hz1 hz2 rfl (by decide) _ _ _ rfl (HI.out.row.alloc _) ⟨wr.heap.size, 0, none⟩ 1 1 [.int .i64 t] rfl rfl (by simpa using HC1.out wr) (by simp [Value.oneCell']) (by unfold maxLen; omega) (by omega) (by have := Below.size HL.out; simp; omega) ?_; intro v' w4 hown' hgrow hnil'))
        all_goals
          go_roundg (l.length - (m + 1))
          case measure => omega
          case rel =>
            refine ⟨m + 1, pre ++ [t], left - t, by omega, by omega, by go_num, rfl, by omega, by omega, by rw [List.length_append]; simp; omega, Lib.hid ⟨by rw [List.length_append, numL_snoc]; exact hown', fun y hy => ?_⟩, HQ, ?_⟩
            · rcases List.mem_append.1 hy with hy | hy
              · exact HI.out.wf y hy
              · obtain rfl := List.mem_singleton.1 hy
                exact ⟨by omega, by omega⟩
            · exact (((Below.refl w.heap.size w).trans HL.out).alloc (Below.size HL.out) _).grown hgrow (by have := Below.size HL.out; simp; omega) (fun q hq => (HI.out.row.lt q hq).1)
    · obtain rfl : m = l.length := by omega
      have HL := Lib.hid hL
      clear hL
      have hmm : decide ((l.length : Int) < (l.length : Int)) = false := decide_eq_false (by omega)
      go_wp2
      first | rw [Exit.noGoto_ret] | simp only [Exit.noGoto]
      go_wp2
      go_ret
      exact secs_post hI.out (by rw [hq.out, List.drop_length, secs, List.append_nil]) HL.out
end Go.Proofs.Ythfiodjhjhpiaaa
