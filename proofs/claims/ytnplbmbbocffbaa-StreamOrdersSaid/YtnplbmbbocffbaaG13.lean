/- Texts about the program, one after the other: GrP, SSw. -/
import Derived.Test.YtnplbmbbocffbaaG12
import Derived.Outline
import Derived.Laws.Bits128
import Derived.Deep.RegionLaw
/- Releases with their places, and the next one: plain. -/
namespace Go.Proofs.Ytnplbmbbocffbaa
set_option linter.unusedVariables false
set_option linter.unusedSimpArgs false
structure GrpOk (ks : List Int) (o : List Nat) (L : List (Int × List Nat)) : Prop where
  flat : (L.map (·.2)).flatten = o
  each : ∀ x ∈ L, x.2 ≠ [] ∧ ∀ a ∈ x.2, kO ks a = x.1
  inc : L.Pairwise (fun x y => x.1 < y.1)
theorem takeWhile_runE (ks : List Int) (o : List Nat) (r : Int) : ∀ a ∈ o.take (runE ks o r), kO ks a = r := by
  intro a ha
  have e : o.take (runE ks o r) = o.takeWhile (fun i => kO ks i == r) := by
    rw [runE]
    exact List.prefix_iff_eq_take.1 (List.takeWhile_prefix _) |>.symm
  rw [e] at ha
  have h := List.all_eq_true.1 (List.all_takeWhile (p := fun i => kO ks i == r) (l := o)) a ha
  simpa using h
theorem dropRun (ks : List Int) (o : List Nat) (r : Int) : ∀ a, (o.drop (runE ks o r))[0]? = some a → kO ks a ≠ r := by
  intro a ha
  induction o with
  | nil => simp at ha
  | cons b l ih =>
    rw [runE] at ha
    by_cases hb : kO ks b = r
    · rw [List.takeWhile_cons_of_pos (by simpa using hb), List.length_cons, List.drop_succ_cons] at ha
      exact ih ha
    · rw [List.takeWhile_cons_of_neg (by simpa using hb)] at ha
      simp at ha
      subst ha
      exact hb
theorem grp_ok (ks : List Int) : ∀ (n : Nat) (o : List Nat), o.length ≤ n → o.Pairwise (fun a b => kO ks a ≤ kO ks b) → GrpOk ks o (grp ks o) := by
  intro n
  induction n with
  | zero =>
    intro o hn hs
    have : o = [] := List.eq_nil_of_length_eq_zero (by omega)
    subst this
    exact ⟨rfl, by simp [grp_nil], by simp [grp_nil]⟩
  | succ n ih =>
    intro o hn hs
    cases o with
    | nil => exact ⟨rfl, by simp [grp_nil], by simp [grp_nil]⟩
    | cons i r =>
      rw [grp_cons]
      have hpos := runE_pos ks i r
      obtain ⟨q, hq⟩ : ∃ q, runE ks (i :: r) (kO ks i) = q := ⟨_, rfl⟩
      have htk := takeWhile_runE ks (i :: r) (kO ks i)
      have hdr := dropRun ks (i :: r) (kO ks i)
      rw [hq] at hpos htk hdr ⊢
      have hsd : ((i :: r).drop q).Pairwise (fun a b => kO ks a ≤ kO ks b) := hs.sublist (List.drop_sublist _ _)
      have ih2 := ih ((i :: r).drop q) (by rw [List.length_drop]; omega) hsd
      refine ⟨?_, fun x hx => ?_, List.pairwise_cons.2 ⟨fun y hy => ?_, ih2.inc⟩⟩
      · rw [List.map_cons, List.flatten_cons, ih2.flat, List.take_append_drop]
      · rcases List.mem_cons.1 hx with rfl | hx
        · refine ⟨?_, htk⟩
          intro h
          have := congrArg List.length h
          rw [List.length_take, List.length_cons, List.length_nil] at this
          omega
        · exact ih2.each x hx
      · obtain ⟨h1, h2⟩ := ih2.each y hy
        obtain ⟨a, ha⟩ : ∃ a, a ∈ y.2 := by
          cases hy2 : y.2 with
          | nil => exact absurd hy2 h1
          | cons a _ => exact ⟨a, by simp⟩
        have hka := h2 a ha
        have had : a ∈ (i :: r).drop q := by
          rw [← ih2.flat]
          exact List.mem_flatten.2 ⟨y.2, List.mem_map.2 ⟨y, hy, rfl⟩, ha⟩
        cases hd : (i :: r).drop q with
        | nil => rw [hd] at had; simp at had
        | cons c l =>
          have hc := hdr c (by rw [hd]; rfl)
          have hci : kO ks i ≤ kO ks c := by
            have hcm : c ∈ i :: r := (List.drop_sublist q _).subset (by rw [hd]; simp)
            rcases List.mem_cons.1 hcm with rfl | hcm
            · exact Int.le_refl _
            · exact (List.pairwise_cons.1 hs).1 c hcm
          have hca : kO ks c ≤ kO ks a := by
            rw [hd] at had hsd
            rcases List.mem_cons.1 had with rfl | had
            · exact Int.le_refl _
            · exact (List.pairwise_cons.1 hsd).1 a had
          show kO ks i < y.1
          omega
theorem IsOrd.grp {ks : List Int} {o : List Nat} (h : IsOrd ks o) : GrpOk ks o (grp ks o) := grp_ok ks _ o (Nat.le_refl _) (h.srt.imp fun {a b} hab => by unfold Ahead at hab; omega)
theorem GrpOk.find {ks : List Int} {o : List Nat} {L : List (Int × List Nat)} (h : GrpOk ks o L) (ho : IsOrd ks o) {i : Nat} (hi : i < ks.length) : ∃ x ∈ L, i ∈ x.2 ∧ x.1 = kO ks i := by
  have hm : i ∈ (L.map (·.2)).flatten := by rw [h.flat]; exact ho.mem.2 hi
  obtain ⟨l, hl, hil⟩ := List.mem_flatten.1 hm
  obtain ⟨x, hx, rfl⟩ := List.mem_map.1 hl
  exact ⟨x, hx, hil, ((h.each x hx).2 i hil).symm⟩
/-- The places are those that the document tells. -/
theorem GrpOk.places {ks : List Int} {o : List Nat} {L : List (Int × List Nat)} (h : GrpOk ks o L) (ho : IsOrd ks o) {x : Int × List Nat} (hx : x ∈ L) : x.2 = plc ks x.1 := by
  have hsub : x.2.Sublist o := by
    rw [← h.flat]
    exact List.sublist_flatten_of_mem (List.mem_map.2 ⟨x, hx, rfl⟩)
  have hp : x.2.Pairwise (· < ·) := by
    have h1 := List.pairwise_iff_getElem.1 (ho.srt.sublist hsub)
    refine List.pairwise_iff_getElem.2 fun i j hi hj hij => ?_
    have h2 := h1 i j hi hj hij
    have k1 := (h.each x hx).2 _ (List.getElem_mem hi)
    have k2 := (h.each x hx).2 _ (List.getElem_mem hj)
    unfold Ahead at h2
    omega
  have hq : (plc ks x.1).Pairwise (· < ·) := List.Pairwise.filter _ List.pairwise_lt_range
  refine List.Perm.eq_of_pairwise (le := (· < ·)) (fun a b _ _ h1 h2 => by omega) hp hq ?_
  refine (List.perm_ext_iff_of_nodup (hp.imp fun h => Nat.ne_of_lt h) (hq.imp fun h => Nat.ne_of_lt h)).2 fun a => ?_
  rw [plc, List.mem_filter, List.mem_range]
  constructor
  · intro ha
    exact ⟨ho.mem.1 (hsub.subset ha), by simpa using (h.each x hx).2 a ha⟩
  · rintro ⟨h1, h2⟩
    have h2 : kO ks a = x.1 := by simpa using h2
    obtain ⟨y, hy, hay, e⟩ := h.find ho h1
    obtain ⟨i, hi, rfl⟩ := List.getElem_of_mem hx
    obtain ⟨j, hj, rfl⟩ := List.getElem_of_mem hy
    have hinc := List.pairwise_iff_getElem.1 h.inc
    rcases Nat.lt_trichotomy i j with hij | hij | hij
    · have := hinc i j hi hj hij; omega
    · subst hij; exact hay
    · have := hinc j i hj hi hij; omega
theorem GrpOk.total {ks : List Int} {o : List Nat} {L : List (Int × List Nat)} (h : GrpOk ks o L) : (L.map (·.2.length)).sum = o.length := by
  rw [← h.flat, List.length_flatten, List.map_map]
  rfl
/-! ### The next one -/
theorem nx_spec (js : List Fv) (t : Int) : ∀ k, k ≤ js.length → (∀ b, nx js t k = some b → t < b ∧ (∃ i, i < k ∧ kO (rls js) i = b) ∧ ∀ i, i < k → t < kO (rls js) i → b ≤ kO (rls js) i) ∧ (nx js t k = none → ∀ i, i < k → kO (rls js) i ≤ t)
  | 0, _ => ⟨fun b h => by simp [nx] at h, fun _ i h => by omega⟩
  | k + 1, hk => by
    obtain ⟨h1, h2⟩ := nx_spec js t k (by omega)
    have hx := List.getElem?_eq_getElem (l := js) (i := k) (by omega)
    have hk2 := kO_rls hx
    rw [nx, hx]
    simp only
    by_cases hgt : js[k].r > t
    · rw [if_pos hgt]
      cases hn : nx js t k with
      | none =>
        have h3 := h2 hn
        refine ⟨fun b hb => ?_, fun hb => by simp [upO] at hb⟩
        simp [upO] at hb
        subst hb
        refine ⟨hgt, ⟨k, by omega, hk2⟩, fun i hi hti => ?_⟩
        rcases Nat.lt_or_ge i k with h | h
        · have := h3 i h; omega
        · obtain rfl : i = k := by omega
          omega
      | some c =>
        obtain ⟨h3, ⟨i0, h4, h5⟩, h6⟩ := h1 c hn
        by_cases hlt : js[k].r < c
        · refine ⟨fun b hb => ?_, fun hb => by simp [upO, hlt] at hb⟩
          simp [upO, hlt] at hb
          subst hb
          refine ⟨hgt, ⟨k, by omega, hk2⟩, fun i hi hti => ?_⟩
          rcases Nat.lt_or_ge i k with h | h
          · have := h6 i h hti; omega
          · obtain rfl : i = k := by omega
            omega
        · refine ⟨fun b hb => ?_, fun hb => by simp [upO, hlt] at hb⟩
          simp [upO, hlt] at hb
          subst hb
          refine ⟨h3, ⟨i0, by omega, h5⟩, fun i hi hti => ?_⟩
          rcases Nat.lt_or_ge i k with h | h
          · exact h6 i h hti
          · obtain rfl : i = k := by omega
            omega
    · rw [if_neg hgt]
      refine ⟨fun b hb => ?_, fun hb i hi => ?_⟩
      · obtain ⟨h3, ⟨i0, h4, h5⟩, h6⟩ := h1 b hb
        refine ⟨h3, ⟨i0, by omega, h5⟩, fun i hi hti => ?_⟩
        rcases Nat.lt_or_ge i k with h | h
        · exact h6 i h hti
        · obtain rfl : i = k := by omega
          omega
      · rcases Nat.lt_or_ge i k with h | h
        · exact h2 hb i h
        · obtain rfl : i = k := by omega
          omega
def tL (pre : List (Int × List Nat)) : Int := (pre.getLast?.map (·.1)).getD (-1)
theorem tL_snoc (pre : List (Int × List Nat)) (x : Int × List Nat) : tL (pre ++ [x]) = x.1 := by simp [tL]
theorem tL_max {pre : List (Int × List Nat)} (h : pre.Pairwise (fun x y => x.1 < y.1)) : ∀ x ∈ pre, x.1 ≤ tL pre := by
  intro x hx
  rcases List.eq_nil_or_concat pre with rfl | ⟨q, y, rfl⟩
  · simp at hx
  · rw [List.concat_eq_append] at h hx ⊢
    rw [tL_snoc]
    rcases List.mem_append.1 hx with hx | hx
    · have := (List.pairwise_append.1 h).2.2 x hx y (by simp)
      omega
    · simp at hx; subst hx; exact Int.le_refl _
theorem nx_step {js : List Fv} {o : List Nat} {L pre r : List (Int × List Nat)} {x : Int × List Nat} (h : GrpOk (rls js) o L) (ho : IsOrd (rls js) o) (hL : L = pre ++ x :: r) (h0 : ∀ i, i < js.length → 0 ≤ kO (rls js) i) : nx js (tL pre) js.length = some x.1 := by
  obtain ⟨h1, h2⟩ := nx_spec js (tL pre) js.length (Nat.le_refl _)
  have hx : x ∈ L := by rw [hL]; simp
  obtain ⟨hne, hk⟩ := h.each x hx
  obtain ⟨a, ha⟩ : ∃ a, a ∈ x.2 := by
    cases hx2 : x.2 with
    | nil => exact absurd hx2 hne
    | cons a _ => exact ⟨a, by simp⟩
  have hao : a < js.length := by
    have : a ∈ o := by rw [← h.flat]; exact List.mem_flatten.2 ⟨x.2, List.mem_map.2 ⟨x, hx, rfl⟩, ha⟩
    have := ho.mem.1 this
    simpa using this
  have hinc := h.inc
  rw [hL] at hinc
  have hkx := hk a ha
  have htx : tL pre < x.1 := by
    rcases List.eq_nil_or_concat pre with rfl | ⟨q, y, rfl⟩
    · have := h0 a hao
      show (-1 : Int) < x.1
      omega
    · rw [List.concat_eq_append] at hinc ⊢
      rw [tL_snoc]
      exact (List.pairwise_append.1 hinc).2.2 y (by simp) x (by simp)
  cases hn : nx js (tL pre) js.length with
  | none => have := h2 hn a hao; omega
  | some b =>
    obtain ⟨h3, ⟨i0, h4, h5⟩, h6⟩ := h1 b hn
    have h7 := h6 a hao (by omega)
    obtain ⟨y, hy, hiy, e⟩ := h.find ho (i := i0) (by simpa using h4)
    have hpre : pre.Pairwise (fun x y => x.1 < y.1) := (List.pairwise_append.1 hinc).1
    rw [hL] at hy
    rcases List.mem_append.1 hy with hy | hy
    · have := tL_max hpre y hy
      omega
    · rcases List.mem_cons.1 hy with rfl | hy
      · congr 1; omega
      · have := (List.pairwise_cons.1 (List.pairwise_append.1 hinc).2.1).1 y hy
        omega
theorem nx_end {js : List Fv} {o : List Nat} {L : List (Int × List Nat)} (h : GrpOk (rls js) o L) (ho : IsOrd (rls js) o) : nx js (tL L) js.length = none := by
  obtain ⟨h1, h2⟩ := nx_spec js (tL L) js.length (Nat.le_refl _)
  cases hn : nx js (tL L) js.length with
  | none => rfl
  | some b =>
    obtain ⟨h3, ⟨i0, h4, h5⟩, h6⟩ := h1 b hn
    obtain ⟨y, hy, hiy, e⟩ := h.find ho (i := i0) (by simpa using h4)
    have := tL_max h.inc y hy
    omega
end Go.Proofs.Ytnplbmbbocffbaa
/- StreamSteps: the walk. -/
namespace Go.Proofs.Ytnplbmbbocffbaa
open Go.RowKit Go.Shelf
set_option linter.unusedVariables false
set_option linter.unusedSimpArgs false
attribute [local go_sem] Oper.semAt_some
theorem wp_norm {P : Program} {c : Code} {Q : Exit → Act → World → Prop} {a : Act} {w : World} (h : c.wp P (fun e a' w' => match e with | .normal => Q .normal a' w' | _ => False) a w) : c.wp P Q a w :=
  wp_mono h (fun e a' w' h => by cases e <;> first | exact h | exact h.elim)
theorem i64_and_pow (n : Int) (m : Nat) (c : Int) (hc : (BitVec.ofInt 64 c).toNat = 2 ^ m - 1) (hm : m < 63) : bits .and .i64 n c = n % (2 ^ m : Nat) := by
  have key : (BitVec.ofInt 64 n &&& BitVec.ofInt 64 c).toNat = (n % ((2 ^ 64 : Nat) : Int)).toNat % 2 ^ m := by
    rw [BitVec.toNat_and, BitVec.toNat_ofInt, hc, Nat.and_two_pow_sub_one_eq_mod]
  show IntKind.i64.wrap ((BitVec.ofInt 64 n &&& BitVec.ofInt 64 c).toNat : Nat) = _
  rw [key, IntKind.wrap_i64]
  have hp : 2 ^ m < 2 ^ 63 := Nat.pow_lt_pow_right (by omega) hm
  have h0 : 0 < 2 ^ m := Nat.two_pow_pos m
  have hl : (n % ((2 ^ 64 : Nat) : Int)).toNat % 2 ^ m < 2 ^ m := Nat.mod_lt _ h0
  have hd : ((2 ^ m : Nat) : Int) ∣ ((2 ^ 64 : Nat) : Int) := Int.natCast_dvd_natCast.2 (Nat.pow_dvd_pow 2 (by omega))
  have e : ((((n % ((2 ^ 64 : Nat) : Int)).toNat % 2 ^ m : Nat) : Int)) = n % (2 ^ m : Nat) := by
    rw [Int.natCast_emod, Int.toNat_of_nonneg (Int.emod_nonneg _ (by omega)), Int.emod_emod_of_dvd _ hd]
  omega
theorem and_62 (r : Int) : bits .and .i64 r 4611686018427387903 = r % 4611686018427387904 := i64_and_pow r 62 _ (by decide) (by decide)
theorem run_eql_nilE (fn : Fn) (a b : Array Value) (w : World) : (binOp .eql 40 (.func fn a b) .nilFunc).run Try.prog w = .ok (.bool false) w := by
  have h : ∀ d, (Op.equalIn (d + 1) 40 (.func fn a b) .nilFunc).run Try.prog w = .ok false w := fun d => by simp [Op.equalIn, run_underlying Try.underlying40]
  simp only [binOp]
  simp [Op.equal, Op.maxDepth, h 9999]
theorem step_append_job {ops : Array Oper} {o : Oper} {a : Act} {w : World} {K : Act → World → Prop} {Q : Exit → Act → World → Prop} {E : Prop}
    (hg : o.guard = none) (s x : Operand) (hop : o.op = Op.call { callee := Callee.builtin Builtin.append, args := #[s, x], argTypes := #[29, 29] })
    (base : Nat) (v : Value) (n : Nat) (xs : List Value) (hs : a.eval s = v) (hown : w.ownsRow base 37 5 v n xs)
    (ad : Addr) (m c : Nat) (news : List Value) (hx : a.eval x = .slice (some ad) m c) (hn : news.length = m * 5) (hc : ∀ j u, news[j]? = some u → w.cell? (ad.add j) = some u) (h1c : ∀ u ∈ news, u.oneCell' = true)
    (b1 : n + m ≤ 3000000000) (hbase : base ≤ w.heap.size)
    (hK : ∀ v' w', w'.ownsRow base 37 5 v' (n + m) (xs ++ news) → w.grownBy w' v.ownBlock → K (a.put o.dst v') w') :
    if Region.wanted o (yielded ops a.tmps) = true then Oper.wp Try.prog o a w K Q else E := by
  have hw : Region.wanted o (yielded ops a.tmps) = true := by simp [Region.wanted, hg]
  obtain ⟨i0, hi, hz0, hz1, hz2⟩ := info_parts infoJs
  rw [if_pos hw]
  obtain ⟨v', w', hrun, r1, r2, _⟩ := run_append_own (P := Try.prog) w base 29 o.type 37 i0 _ 5 56 Try.underlying29 hi hz0 hz1 hz2 rfl (by omega) v n xs hown ad m c news (by omega) hc h1c (by unfold maxLen; omega) (by omega) hbase
  unfold Oper.wp
  simp [execOp, hop, resolve, invoke, builtin, hs, hx, hrun, Result.andThen]
  exact hK v' w' r1 r2
def gS (r : Int) : Gv := ⟨⟨0, 0, r % 4611686018427387904, 0, []⟩, none, 0⟩
def gsS (l : List Int) : List Gv := (l.take 16).map gS
theorem gsS_len (l : List Int) : (gsS l).length = min 16 l.length := by simp [gsS]
theorem gsS_get (l : List Int) (k : Nat) (r : Int) (h : l[k]? = some r) (hk : k < 16) : (gsS l)[k]? = some (gS r) := by
  simp [gsS, h, hk, List.getElem?_take]
theorem gS_ok (r : Int) (B : Nat) (w : World) : GOk 37 B w (gS r) := ⟨⟨in0, in0, (show in64 (r % 4611686018427387904) from ⟨by omega, by omega⟩), in0⟩, CRow.nil _ _ (show (0 : Nat) ≤ 9223372036854775807 by omega), fun hne => absurd rfl hne⟩
theorem gsS_ok (l : List Int) (B : Nat) (w : World) : ∀ g ∈ gsS l, GOk 37 B w g := fun g hg => by
  obtain ⟨r, _, rfl⟩ := List.mem_map.1 hg
  exact gS_ok r B w
theorem gsS_nn (l : List Int) : ∀ i, i < ((gsS l).map (·.x)).length → 0 ≤ kO (rls ((gsS l).map (·.x))) i := fun i hi => by
  have h := List.getElem?_eq_getElem hi
  rw [kO_rls h]
  have hm := List.getElem_mem hi
  obtain ⟨g, hg, e⟩ := List.mem_map.1 hm
  obtain ⟨r, _, rfl⟩ := List.mem_map.1 hg
  rw [← e]
  show 0 ≤ r % 4611686018427387904
  omega
/-- Jobs being gathered in a box. -/
structure StI (w wr : World) (c2 c4 : Nat) (v : Value) (gs : List Gv) : Prop where
  b2 : Boxed wr c2 4 (.bool false)
  b4 : Boxed wr c4 29 v
  row : wr.ownsRow w.heap.size 37 5 v gs.length (gvC gs)
  bel : Below w.heap.size w wr
def jobC (m : Int) : Obj := .cells #[.int .i64 0, .int .i64 0, .int .i64 m, .int .i64 0, .slice none 0 0] 37
theorem job_new_drew (W : World) (m : Int) : ∀ j u, (fvL ⟨0, 0, m, 0, []⟩ none 0)[j]? = some u → (W.alloc (jobC m)).drew.cell? ((⟨W.heap.size, 0, none⟩ : Addr).add j) = some u := job_new W ⟨0, 0, m, 0, []⟩ rfl
theorem jobC_bel (W : World) (m : Int) : Below W.heap.size W (W.alloc (jobC m)).drew := ((Below.refl _ _).alloc (Nat.le_refl _) (jobC m)).trans ((below_drew (W.alloc (jobC m))).mono (by simp))
theorem StI.row2 {w wr : World} {c2 c4 : Nat} {v : Value} {gs : List Gv} (h : StI w wr c2 c4 v gs) (m : Int) : (wr.alloc (jobC m)).drew.ownsRow w.heap.size 37 5 v gs.length (gvC gs) := (Kept.of [] (jobC_bel wr m)).row h.row (by simp)
structure StG (w w8 : World) (c2 c4 : Nat) (v v' : Value) (n : Nat) (xs : List Value) : Prop where
  b2 : Boxed w8 c2 4 (.bool false)
  b4 : Boxed w8 c4 29 v
  row : w8.ownsRow w.heap.size 37 5 v' n xs
  bel : Below w.heap.size w w8
theorem StI.grow {w wr w8 : World} {c2 c4 : Nat} {v v' : Value} {gs : List Gv} {m : Int} {n : Nat} {xs : List Value} (h : StI w wr c2 c4 v gs) (ho : w8.ownsRow w.heap.size 37 5 v' n xs) (hg : (wr.alloc (jobC m)).drew.grownBy w8 v.ownBlock) : StG w w8 c2 c4 v v' n xs := by
  have ba := jobC_bel wr m
  have h2 : Boxed (wr.alloc (jobC m)).drew c2 4 (.bool false) := (ba.block _ h.b2.lt).trans h.b2
  have h4 : Boxed (wr.alloc (jobC m)).drew c4 29 v := (ba.block _ h.b4.lt).trans h.b4
  have hr := h.row2 m
  refine ⟨h2.kept hg (h2.not_row (by decide) hr), h4.kept hg (h4.not_row (by decide) hr), ho, ?_⟩
  have hb := h.bel.trans (ba.mono h.bel.size)
  exact hb.grown hg hb.size (fun q hq => (hr.lt q hq).1)
theorem StG.put {w w8 : World} {c2 c4 : Nat} {v v' : Value} {gs : List Gv} (h : StG w w8 c2 c4 v v' gs.length (gvC gs)) (h24 : c2 ≠ c4) (hc : w.heap.size ≤ c4) : StI w (w8.setCell ⟨c4, 0, none⟩ v') c2 c4 v' gs :=
  ⟨h.b2.other h24 _, Boxed.set _ h.b4, ((Kept.refl [c4] w8).set c4 0 _ (by simp)).row h.row (fun g hg hm => by
    simp only [List.mem_singleton] at hm
    subst hm
    exact own_ne h.row h.b4 (by decide) hg), h.bel.setCell (p := ⟨c4, 0, none⟩) hc _⟩
/-- While the releases are told. -/
structure SsI (w2 : World) (c7 c8 : Nat) (t : Int) (V : World) : Prop where
  b7 : Boxed V c7 2 (.int .i64 t)
  b8 : Boxed V c8 4 (.bool true)
  bel : Below w2.heap.size w2 V
theorem SsI.own {w : World} {c7 c8 : Nat} {t : Int} {W W' : World} {row : Option Nat} {B : Nat} (h : SsI w c7 c8 t W) (hB : w.heap.size ≤ B) (hg : W.grownBy W' row) (hr : ∀ r, row = some r → B ≤ r ∧ ∃ o : Obj, W.heap[r]? = some o ∧ o.isCells = false) : SsI w c7 c8 t W' :=
  ⟨boxed_kept h.b7 hg (fun r e => (hr r e).2), boxed_kept h.b8 hg (fun r e => (hr r e).2), h.bel.grown hg h.bel.size (fun q e => by have := (hr q e).1; omega)⟩
theorem SsI.keptT {w : World} {c7 c8 : Nat} {t : Int} {W W' : World} {B : Nat} (h : SsI w c7 c8 t W) (hk : KeptT 56 B W W') (hB : w.heap.size ≤ B) : SsI w c7 c8 t W' :=
  ⟨hk.box h.b7 (by decide), hk.box h.b8 (by decide), h.bel.trans ((hk.mono hB).bel h.bel.size)⟩
theorem SsI.later {w : World} {c7 c8 : Nat} {t : Int} {W W' : World} (h : SsI w c7 c8 t W) (hb : Below W.heap.size W W') : SsI w c7 c8 t W' :=
  ⟨(hb.block _ h.b7.lt).trans h.b7, (hb.block _ h.b8.lt).trans h.b8, h.bel.trans (hb.mono h.bel.size)⟩
theorem SsI.put {w : World} {c7 c8 : Nat} {t : Int} {W : World} (h : SsI w c7 c8 t W) (hne : c7 ≠ c8) (h7 : w.heap.size ≤ c7) (h8 : w.heap.size ≤ c8) (r : Int) : SsI w c7 c8 r ((W.setCell ⟨c7, 0, none⟩ (.int .i64 r)).setCell ⟨c8, 0, none⟩ (.bool true)) :=
  ⟨(Boxed.set _ h.b7).other hne _, Boxed.set _ (h.b8.other (Ne.symm hne) _), (h.bel.setCell (p := ⟨c7, 0, none⟩) h7 _).setCell (p := ⟨c8, 0, none⟩) h8 _⟩
def NxT (a : Option Int) (w : World) (e : Ending) (w' : World) : Prop := match a with
  | some r => e = .returned (.tuple #[.int .i64 r, .bool true]) ∧ Below w.heap.size w w'
  | none => e = .returned (.tuple #[.int .i64 0, .bool false]) ∧ Below w.heap.size w w'
theorem next_t {A : Option Addr} {cap : Nat} {js : List Fv} {t : Int} {w : World} {a : Option Int} (hR : FRow w A cap js) (hlen : js.length ≤ 1000) (ha : nx js t js.length = a) : Calls Try.prog 17 #[.slice A js.length cap, .int .i64 t] w (NxT a w) :=
  (next_any A cap js t w hR hlen).mono fun e w' h => by
    rw [ha] at h
    obtain ⟨rfl, hB⟩ := h
    cases a with
    | none => exact ⟨rfl, hB⟩
    | some r => exact ⟨rfl, hB⟩
set_option maxRecDepth 100000 in
set_option maxHeartbeats 8000000 in
theorem ss_walk (A0 : Option Addr) (cap0 : Nat) (l0 : List Int) (w : World) (h : CRow w A0 cap0 l0) : Calls Try.prog 5 #[.slice A0 l0.length cap0] w (OkB w) := by
  have hfn := run_eql_nilE
  have HA := Lib.hid awake_any
  have hb0 : Below w.heap.size w (w.alloc (.cells #[.bool false] 4)) := (Below.refl _ _).alloc (Nat.le_refl _) _
  have HX0 := Lib.hid (Boxed.new w 4 (.bool false))
  have hle := h.le
  have hmx := h.mx
  have HR := Lib.hid h
  obtain ⟨n, hn0⟩ : ∃ n, l0.length = n := ⟨_, rfl⟩
  have HN := Lib.hid hn0
  rw [hn0] at hle ⊢
  clear h hn0
  generalize hW0 : w.alloc (.cells #[.bool false] 4) = W0 at *
  have HB0 := Lib.hid hb0
  clear hb0
  refine (callsIn_wide (n := 9)).1 ?_
  refine callsIn_of_wp_marks Try.func5 rfl trivial ?_ rfl
  simp only [Try.ntmps5, List.size_toArray, List.length_cons, List.length_nil, Nat.reduceAdd, Nat.reduceSub, Array.replicate_succ, Array.replicate_zero, List.push_toArray, List.append_toArray, List.nil_append, List.cons_append]
  gi_upto_region 3 with (refine ⟨trivial, ?_⟩; gi_at_call 9; go_loud (refine (callsIn_wide.2 (HA.out _)).mono ?_; rintro e w1 ⟨rfl, hB1⟩; have HB1 := Lib.hid hB1; clear hB1))
  clear HA
  obtain ⟨W1, hW1, b4, hb1⟩ : ∃ W1, w1.alloc (.cells #[.slice none 0 0] 29) = W1 ∧ Boxed W1 w1.heap.size 29 (.slice none 0 0) ∧ Below w1.heap.size w1 W1 := ⟨_, rfl, Boxed.new _ _ _, (Below.refl _ _).alloc (Nat.le_refl _) _⟩
  rw [hW1]
  have HB10 := Lib.hid (HB1.out.trans (hb1.mono HB1.out.size))
  have h24 : w.heap.size < w1.heap.size := Nat.lt_of_lt_of_le HX0.out.lt HB1.out.size
  have I0 : StI w W1 w.heap.size w1.heap.size (.slice none 0 0) ((gsS l0).take 0) := ⟨(HB10.out.block _ HX0.out.lt).trans HX0.out, b4, World.ownsRow_nil _ _ _ _, HB0.out.trans (HB10.out.mono HB0.out.size)⟩
  have HI0 := Lib.hid I0
  clear hW1 b4 hb1 HB10 HB1 I0 HX0 HB0 hW0
  generalize w1.heap.size = c4 at *
  gi_wp2
  refine (wpIn_wide (n := 9)).2 ?_
  go_loopw [5] (fun i wr => ∃ (k : Nat) (v : Value), k ≤ n ∧ k ≤ 16 ∧ i = .int .i64 (k : Int) ∧ Hid (StI w wr w.heap.size c4 v ((gsS l0).take k))) (fun i _ => 16 - (intOf i).toNat)
  case atStart => exact ⟨0, _, Nat.zero_le _, by omega, rfl, HI0⟩
  case round =>
    obtain ⟨k, v, hk, hk16, rfl, hI⟩ := hrel
    clear HI0
    have HGL : Hid (((gsS l0).take k).length = k) := Lib.hid (by rw [List.length_take, gsS_len, HN.out]; omega)
    obtain ⟨Av, cv, rfl, hcv, hcx⟩ := own_len hI.out.row
    rw [HGL.out] at hI
    have c4c := hI.out.b4.cell
    have c4f := hI.out.b4.frozen
    have c4l := hI.out.b4.lt
    by_cases hlt : k < n ∧ k < 16
    · obtain ⟨hl1, hl2⟩ := hlt
      obtain ⟨b, o, r, rfl, hx, hwx, hbl, hc0⟩ := HR.out.get (k := k) (by rw [HN.out]; exact hl1)
      have e1 := (hI.out.bel.cell (p := ⟨b, o + k, none⟩) hbl).trans hc0
      have g1 : decide ((k : Int) < (n : Int)) = true := decide_eq_true (by omega)
      have g2 : decide ((k : Int) < 16) = true := decide_eq_true (by omega)
      have hi0 : (0 : Int) ≤ (k : Int) := by omega
      have hi1 : (k : Int) < (n : Int) := by omega
      have HTK := Lib.hid (take_one (gsS_get l0 k r hx hl2))
      have hand := and_62 r
      obtain ⟨m, hm⟩ : ∃ m, r % 4611686018427387904 = m := ⟨_, rfl⟩
      have HM := Lib.hid hm
      rw [hm] at hand
      have HRW : Hid ((wr.alloc (jobC m)).drew.ownsRow w.heap.size 37 5 (.slice Av k cv) k (gvC ((gsS l0).take k))) := Lib.hid (by have := hI.out.row2 m; rwa [HGL.out] at this)
      have HSZ := Lib.hid (Nat.le_trans hI.out.bel.size (jobC_bel wr m).size)
      have HI := hI
      clear hx hc0 hm hI
      go_upto_region 6 with (fail)
      refine wp_norm ?_
      go_region_law (first
        | (refine step_append_job rfl (.tmp 23) (.tmp 30) rfl w.heap.size _ k (gvC ((gsS l0).take k)) rfl HRW.out _ 1 1 (fvL ⟨0, 0, m, 0, []⟩ none 0) rfl rfl (job_new_drew _ _) (fvL_one _ _ _) (by omega) HSZ.out ?_
           intro v' w8 o1 g8
           obtain ⟨A', cap', hv', -, -⟩ := own_len o1
           subst hv'
           have HG8 := Lib.hid (StI.grow (m := m) HI.out o1 g8)
           have c8c := HG8.out.b4.cell
           have c8f := HG8.out.b4.frozen
           clear o1 g8))
      all_goals
        dsimp only
        go_wp2
        refine ⟨⟨k + 1, .slice A' (k + 1) cap', by omega, by omega, by go_num, ?_⟩, by first | (simp [intOf]; done) | (simp [intOf]; omega)⟩
        have h9 := HG8.out
        rw [HTK.out]
        exact Lib.hid (StG.put (gs := (gsS l0).take k ++ [gS r]) (by
          rw [List.length_append, HGL.out, gvC_snoc, gS, HM.out]
          exact h9) (by omega) (by omega))
    · have hfull : (gsS l0).take k = gsS l0 := List.take_of_length_le (by rw [gsS_len, HN.out]; omega)
      rw [hfull] at hI HGL
      obtain ⟨js, hjs⟩ : ∃ js, (gsS l0).map (·.x) = js := ⟨_, rfl⟩
      have HJL : Hid (js.length = k) := Lib.hid (by rw [← hjs, List.length_map, HGL.out])
      have HFR : Hid (FRow wr Av cv js) := Lib.hid (by
        obtain ⟨A', c', e, hF⟩ := FOwn.frow ⟨hI.out.row, gsS_ok l0 _ _⟩
        simp only [Value.slice.injEq] at e
        obtain ⟨rfl, _, rfl⟩ := e
        rwa [hjs] at hF)
      have HNN : Hid (∀ i, i < js.length → 0 ≤ kO (rls js) i) := Lib.hid (by rw [← hjs]; exact gsS_nn l0)
      have HLR : Hid ((rls js).length ≤ 1000) := Lib.hid (by have := HJL.out; simp only [rls, List.length_map]; omega)
      have HEA : Hid (Calls Try.prog 16 #[.slice Av k cv] wr (EcPost (rls js) wr)) := Lib.hid (by
        have := each_any Av cv js wr HFR.out (by rw [HJL.out]; omega)
        rwa [HJL.out] at this)
      have HI := hI
      clear hI hjs hfull HGL
      by_cases hin2 : k < n
      · have g1 : decide ((k : Int) < (n : Int)) = true := decide_eq_true (by omega)
        have g2 : decide ((k : Int) < 16) = false := decide_eq_false (by omega)
        have g2' : decide (k < 16) = false := decide_eq_false (by omega)
        go_wp2
        gi_upto_region 8 with (refine ⟨trivial, ?_⟩; gi_at_call 16; go_loud ((with_reducible refine (callsIn_wide.2 HEA.out).mono ?_); rintro e w2 ⟨b1, b2, o, rfl, hE, hB2⟩; have HE := Lib.hid hE; have HB2 := Lib.hid hB2; clear hE hB2))
        gi_wp2
        clear hfn c4c c4f
        obtain ⟨W3, hW3, b7, b8, hb3⟩ : ∃ W3, (w2.alloc (.cells #[.int .i64 (-1)] 2)).alloc (.cells #[.bool true] 4) = W3 ∧ Boxed W3 w2.heap.size 2 (.int .i64 (-1)) ∧ Boxed W3 (w2.heap.size + 1) 4 (.bool true) ∧ Below w2.heap.size w2 W3 := by
          have n1 := Boxed.new (w2.alloc (.cells #[.int .i64 (-1)] 2)) 4 (.bool true)
          simp only [World.size_alloc] at n1
          exact ⟨_, rfl, Boxed.alloc (Boxed.new _ _ _) _, n1, ((Below.refl _ _).alloc (Nat.le_refl _) _).alloc (by simp) _⟩
        rw [hW3]
        have SQ := eachseq (T := 56) (9 - 1) (by omega) (HE.out.later hb3) HLR.out
        have HGO := Lib.hid HE.out.ord.grp
        have HFR2 := Lib.hid (HFR.out.later HB2.out)
        have HST : Hid (∀ pre x r, grp (rls js) o = pre ++ x :: r → ∀ W, Below w2.heap.size w2 W → Calls Try.prog 17 #[.slice Av k cv, .int .i64 (tL pre)] W (NxT (some x.1) W)) := Lib.hid (fun pre x r hL W hW => by
          have h9 := next_t (t := tL pre) (HFR2.out.later hW) (by rw [HJL.out]; omega) (nx_step HGO.out HE.out.ord hL HNN.out)
          rwa [HJL.out] at h9)
        have HEN : Hid (∀ W, Below w2.heap.size w2 W → Calls Try.prog 17 #[.slice Av k cv, .int .i64 (tL (grp (rls js) o))] W (NxT none W)) := Lib.hid (fun W hW => by
          have h9 := next_t (t := tL (grp (rls js) o)) (HFR2.out.later hW) (by rw [HJL.out]; omega) (nx_end HGO.out HE.out.ord)
          rwa [HJL.out] at h9)
        have I3 : SsI w2 w2.heap.size (w2.heap.size + 1) (tL []) W3 := ⟨b7, b8, hb3⟩
        have HC2 : Hid (Boxed w2 w.heap.size 4 (.bool false)) := Lib.hid ((HB2.out.block _ HI.out.b2.lt).trans HI.out.b2)
        have HC4 : Hid (Boxed w2 c4 29 (.slice Av k cv)) := Lib.hid ((HB2.out.block _ HI.out.b4.lt).trans HI.out.b4)
        have HBW := Lib.hid (HI.out.bel.trans (HB2.out.mono HI.out.bel.size))
        have h23 := hb3.size
        have hs8 := b8.lt
        have hww := HBW.out.size
        generalize grp (rls js) o = L at *
        clear hW3 b7 b8 hb3 HE HGO HFR HFR2 HJL HNN HEA HLR HB2 HI
        refine wpIn_named fun frm hfr => ?_
        refine rangeW (Vals := ValsE) (gf := 38) (lb := #[.pointer (some ⟨b1, 0, none⟩), .pointer (some ⟨b2, 0, none⟩)]) (by rw [hfr]; rfl) (enters_of Try.func38 (by kernel_rfl) rfl) SQ (Below.refl _ _) (fun x args W h => by obtain ⟨v, rfl, _⟩ := h; rfl)
          (fun pre V => SsI w2 w2.heap.size (w2.heap.size + 1) (tL pre) V) (fun _ _ _ => False)
          (fun pre X Y row h hg hr => SsI.own h h23 hg hr) (fun _ _ _ _ _ h _ _ => h) (fun pre W4 W5 h hk => SsI.keptT h hk h23) I3
          (fun x a' V => ∃ v, a' = { tmps := (((frm.tmps.setIfInBounds 37 (.int .i64 x.1)).setIfInBounds 38 v).setIfInBounds 9 (.int .i64 x.1)), defers := [] })
          (fun p X Y row h hg hr => h)
          ?assign ?body ?done ?stop
        case assign =>
          rintro l2 pre x args V K hI ⟨v, rfl, _⟩ hK
          subst hfr
          gi_wp2
          exact hK _ _ (KeepsFrom.refl _ _) (KeepN.refl _ _ _ _) hI ⟨v, rfl⟩
        case body =>
          rintro l2 pre ⟨r, pl⟩ rr a' V hI ⟨v, rfl⟩ hL
          subst hfr
          have HNX := Lib.hid (HST.out pre (r, pl) rr hL V hI.bel)
          have HTL : Hid (tL (pre ++ [(r, pl)]) = r) := Lib.hid (tL_snoc pre (r, pl))
          have HI := Lib.hid hI
          have c7c := hI.b7.cell
          have c8c := hI.b8.cell
          have c4c := (show Boxed V c4 29 (.slice Av k cv) from (hI.bel.block _ HC4.out.lt).trans HC4.out).cell
          clear hI hL
          obtain ⟨t, ht⟩ : ∃ t, tL pre = t := ⟨_, rfl⟩
          rw [ht] at HNX c7c
          gi_wp2_with (refine ⟨trivial, ?_⟩; gi_at_call 17; go_loud ((with_reducible refine (CallsIn.inRound _ (callsIn_wide.2 HNX.out)).mono ?_); rintro e w4 ⟨rfl, hB4⟩; have HI4 := Lib.hid (HI.out.later hB4); have HB4 := Lib.hid hB4; have c7c := HI4.out.b7.cell; have c7f := HI4.out.b7.frozen; have c8c := HI4.out.b8.cell; have c8f := HI4.out.b8.frozen; clear hB4))
          have hkk : Kept [w2.heap.size, w2.heap.size + 1] V ((w4.setCell ⟨w2.heap.size, 0, none⟩ (.int .i64 r)).setCell ⟨w2.heap.size + 1, 0, none⟩ (.bool true)) := ((Kept.of _ HB4.out).set _ 0 _ (by simp)).set _ 0 _ (by simp)
          refine ⟨keepsFrom_kept _ hkk (fun j hj => ?_), KeepN.kept hkk (fun j hj => ?_), ?_⟩
          · simp only [List.mem_cons, List.not_mem_nil, or_false] at hj
            rcases hj with rfl | rfl
            · exact ⟨_, _, _, HI.out.b7⟩
            · exact ⟨_, _, _, HI.out.b8⟩
          · simp only [List.mem_cons, List.not_mem_nil, or_false] at hj
            exact ⟨fun h => by rcases hj with rfl | rfl <;> omega, fun cs fr hc => by rcases hj with rfl | rfl <;> omega⟩
          · show SsI w2 w2.heap.size (w2.heap.size + 1) (tL (pre ++ [(r, pl)])) _
            rw [HTL.out]
            exact HI4.out.put (by omega) (Nat.le_refl _) (by omega) r
        case done =>
          rintro D V hD hI hK
          subst hfr
          have HNX := Lib.hid (HEN.out V hI.bel)
          have HI := Lib.hid hI
          have c7c := hI.b7.cell
          have c4c := (show Boxed V c4 29 (.slice Av k cv) from (hI.bel.block _ HC4.out.lt).trans HC4.out).cell
          have HC2V : Hid (Boxed V w.heap.size 4 (.bool false)) := Lib.hid ((hI.bel.block _ HC2.out.lt).trans HC2.out)
          have HK := Lib.hid hK
          clear hI hK
          obtain ⟨t, ht⟩ : ∃ t, tL L = t := ⟨_, rfl⟩
          rw [ht] at HNX c7c
          gi_wp2_with (refine ⟨trivial, ?_⟩; gi_at_call 17; go_loud ((with_reducible refine (callsIn_wide.2 HNX.out).mono ?_); rintro e w4 ⟨rfl, hB4⟩; have HB4 := Lib.hid hB4; have HC24 : Hid (Boxed w4 w.heap.size 4 (.bool false)) := Lib.hid ((hB4.block _ HC2V.out.lt).trans HC2V.out); have c2c := HC24.out.cell; have c2f := HC24.out.frozen; clear hB4))
          have hb9 := Boxed.set (.bool true) HC24.out
          have hDV := (Array.getElem?_eq_some_iff.1 HK.out).1
          have hB9 : Below w.heap.size w (w4.setCell ⟨w.heap.size, 0, none⟩ (.bool true)) := ((HBW.out.trans (HI.out.bel.mono hww)).trans (HB4.out.mono (Nat.le_trans hww HI.out.bel.size))).setCell (p := ⟨w.heap.size, 0, none⟩) (Nat.le_refl _) (.bool true)
          have hwD : w.heap.size < D := by have := HC2.out.lt; omega
          have hK9 : (w4.setCell ⟨w.heap.size, 0, none⟩ (.bool true)).heap[D]? = some (.deferred (some [])) := by
            rw [Below.heap_setCell _ _ _ _ (by simp; omega)]
            exact (HB4.out.block D hDV).trans HK.out
          generalize w4.setCell ⟨w.heap.size, 0, none⟩ (.bool true) = V9 at *
          refine ⟨by simp, .inl ⟨_, _, rfl, run_takeDeferred hK9, ?_⟩⟩
          have hc2 : (V9.putObj D (.deferred none)).cell? ⟨w.heap.size, 0, none⟩ = some (.bool true) := by
            rw [← hb9.cell]; simp [World.cell?, World.putObj_heap_other (show w.heap.size ≠ D by omega)]
          refine ⟨.bool true, by simp [results, Try.f5, go_sem, hc2], rfl, hB9.trans (belowK_b (w := w) (Nat.le_refl _) V9 D _ _ (by omega) hK9 rfl rfl)⟩
        case stop =>
          rintro D c pre x r V hD hL h hK
          exact h.elim
      · have g1 : decide ((k : Int) < (n : Int)) = false := decide_eq_false (by omega)
        have g1' : decide (k < n) = false := decide_eq_false hin2
        go_wp2
        gi_upto_region 8 with (refine ⟨trivial, ?_⟩; gi_at_call 16; go_loud ((with_reducible refine (callsIn_wide.2 HEA.out).mono ?_); rintro e w2 ⟨b1, b2, o, rfl, hE, hB2⟩; have HE := Lib.hid hE; have HB2 := Lib.hid hB2; clear hE hB2))
        gi_wp2
        clear hfn c4c c4f
        obtain ⟨W3, hW3, b7, b8, hb3⟩ : ∃ W3, (w2.alloc (.cells #[.int .i64 (-1)] 2)).alloc (.cells #[.bool true] 4) = W3 ∧ Boxed W3 w2.heap.size 2 (.int .i64 (-1)) ∧ Boxed W3 (w2.heap.size + 1) 4 (.bool true) ∧ Below w2.heap.size w2 W3 := by
          have n1 := Boxed.new (w2.alloc (.cells #[.int .i64 (-1)] 2)) 4 (.bool true)
          simp only [World.size_alloc] at n1
          exact ⟨_, rfl, Boxed.alloc (Boxed.new _ _ _) _, n1, ((Below.refl _ _).alloc (Nat.le_refl _) _).alloc (by simp) _⟩
        rw [hW3]
        have SQ := eachseq (T := 56) (9 - 1) (by omega) (HE.out.later hb3) HLR.out
        have HGO := Lib.hid HE.out.ord.grp
        have HFR2 := Lib.hid (HFR.out.later HB2.out)
        have HST : Hid (∀ pre x r, grp (rls js) o = pre ++ x :: r → ∀ W, Below w2.heap.size w2 W → Calls Try.prog 17 #[.slice Av k cv, .int .i64 (tL pre)] W (NxT (some x.1) W)) := Lib.hid (fun pre x r hL W hW => by
          have h9 := next_t (t := tL pre) (HFR2.out.later hW) (by rw [HJL.out]; omega) (nx_step HGO.out HE.out.ord hL HNN.out)
          rwa [HJL.out] at h9)
        have HEN : Hid (∀ W, Below w2.heap.size w2 W → Calls Try.prog 17 #[.slice Av k cv, .int .i64 (tL (grp (rls js) o))] W (NxT none W)) := Lib.hid (fun W hW => by
          have h9 := next_t (t := tL (grp (rls js) o)) (HFR2.out.later hW) (by rw [HJL.out]; omega) (nx_end HGO.out HE.out.ord)
          rwa [HJL.out] at h9)
        have I3 : SsI w2 w2.heap.size (w2.heap.size + 1) (tL []) W3 := ⟨b7, b8, hb3⟩
        have HC2 : Hid (Boxed w2 w.heap.size 4 (.bool false)) := Lib.hid ((HB2.out.block _ HI.out.b2.lt).trans HI.out.b2)
        have HC4 : Hid (Boxed w2 c4 29 (.slice Av k cv)) := Lib.hid ((HB2.out.block _ HI.out.b4.lt).trans HI.out.b4)
        have HBW := Lib.hid (HI.out.bel.trans (HB2.out.mono HI.out.bel.size))
        have h23 := hb3.size
        have hs8 := b8.lt
        have hww := HBW.out.size
        generalize grp (rls js) o = L at *
        clear hW3 b7 b8 hb3 HE HGO HFR HFR2 HJL HNN HEA HLR HB2 HI
        refine wpIn_named fun frm hfr => ?_
        refine rangeW (Vals := ValsE) (gf := 38) (lb := #[.pointer (some ⟨b1, 0, none⟩), .pointer (some ⟨b2, 0, none⟩)]) (by rw [hfr]; rfl) (enters_of Try.func38 (by kernel_rfl) rfl) SQ (Below.refl _ _) (fun x args W h => by obtain ⟨v, rfl, _⟩ := h; rfl)
          (fun pre V => SsI w2 w2.heap.size (w2.heap.size + 1) (tL pre) V) (fun _ _ _ => False)
          (fun pre X Y row h hg hr => SsI.own h h23 hg hr) (fun _ _ _ _ _ h _ _ => h) (fun pre W4 W5 h hk => SsI.keptT h hk h23) I3
          (fun x a' V => ∃ v, a' = { tmps := (((frm.tmps.setIfInBounds 37 (.int .i64 x.1)).setIfInBounds 38 v).setIfInBounds 9 (.int .i64 x.1)), defers := [] })
          (fun p X Y row h hg hr => h)
          ?assign ?body ?done ?stop
        case assign =>
          rintro l2 pre x args V K hI ⟨v, rfl, _⟩ hK
          subst hfr
          gi_wp2
          exact hK _ _ (KeepsFrom.refl _ _) (KeepN.refl _ _ _ _) hI ⟨v, rfl⟩
        case body =>
          rintro l2 pre ⟨r, pl⟩ rr a' V hI ⟨v, rfl⟩ hL
          subst hfr
          have HNX := Lib.hid (HST.out pre (r, pl) rr hL V hI.bel)
          have HTL : Hid (tL (pre ++ [(r, pl)]) = r) := Lib.hid (tL_snoc pre (r, pl))
          have HI := Lib.hid hI
          have c7c := hI.b7.cell
          have c8c := hI.b8.cell
          have c4c := (show Boxed V c4 29 (.slice Av k cv) from (hI.bel.block _ HC4.out.lt).trans HC4.out).cell
          clear hI hL
          obtain ⟨t, ht⟩ : ∃ t, tL pre = t := ⟨_, rfl⟩
          rw [ht] at HNX c7c
          gi_wp2_with (refine ⟨trivial, ?_⟩; gi_at_call 17; go_loud ((with_reducible refine (CallsIn.inRound _ (callsIn_wide.2 HNX.out)).mono ?_); rintro e w4 ⟨rfl, hB4⟩; have HI4 := Lib.hid (HI.out.later hB4); have HB4 := Lib.hid hB4; have c7c := HI4.out.b7.cell; have c7f := HI4.out.b7.frozen; have c8c := HI4.out.b8.cell; have c8f := HI4.out.b8.frozen; clear hB4))
          have hkk : Kept [w2.heap.size, w2.heap.size + 1] V ((w4.setCell ⟨w2.heap.size, 0, none⟩ (.int .i64 r)).setCell ⟨w2.heap.size + 1, 0, none⟩ (.bool true)) := ((Kept.of _ HB4.out).set _ 0 _ (by simp)).set _ 0 _ (by simp)
          refine ⟨keepsFrom_kept _ hkk (fun j hj => ?_), KeepN.kept hkk (fun j hj => ?_), ?_⟩
          · simp only [List.mem_cons, List.not_mem_nil, or_false] at hj
            rcases hj with rfl | rfl
            · exact ⟨_, _, _, HI.out.b7⟩
            · exact ⟨_, _, _, HI.out.b8⟩
          · simp only [List.mem_cons, List.not_mem_nil, or_false] at hj
            exact ⟨fun h => by rcases hj with rfl | rfl <;> omega, fun cs fr hc => by rcases hj with rfl | rfl <;> omega⟩
          · show SsI w2 w2.heap.size (w2.heap.size + 1) (tL (pre ++ [(r, pl)])) _
            rw [HTL.out]
            exact HI4.out.put (by omega) (Nat.le_refl _) (by omega) r
        case done =>
          rintro D V hD hI hK
          subst hfr
          have HNX := Lib.hid (HEN.out V hI.bel)
          have HI := Lib.hid hI
          have c7c := hI.b7.cell
          have c4c := (show Boxed V c4 29 (.slice Av k cv) from (hI.bel.block _ HC4.out.lt).trans HC4.out).cell
          have HC2V : Hid (Boxed V w.heap.size 4 (.bool false)) := Lib.hid ((hI.bel.block _ HC2.out.lt).trans HC2.out)
          have HK := Lib.hid hK
          clear hI hK
          obtain ⟨t, ht⟩ : ∃ t, tL L = t := ⟨_, rfl⟩
          rw [ht] at HNX c7c
          gi_wp2_with (refine ⟨trivial, ?_⟩; gi_at_call 17; go_loud ((with_reducible refine (callsIn_wide.2 HNX.out).mono ?_); rintro e w4 ⟨rfl, hB4⟩; have HB4 := Lib.hid hB4; have HC24 : Hid (Boxed w4 w.heap.size 4 (.bool false)) := Lib.hid ((hB4.block _ HC2V.out.lt).trans HC2V.out); have c2c := HC24.out.cell; have c2f := HC24.out.frozen; clear hB4))
          have hb9 := Boxed.set (.bool true) HC24.out
          have hDV := (Array.getElem?_eq_some_iff.1 HK.out).1
          have hB9 : Below w.heap.size w (w4.setCell ⟨w.heap.size, 0, none⟩ (.bool true)) := ((HBW.out.trans (HI.out.bel.mono hww)).trans (HB4.out.mono (Nat.le_trans hww HI.out.bel.size))).setCell (p := ⟨w.heap.size, 0, none⟩) (Nat.le_refl _) (.bool true)
          have hwD : w.heap.size < D := by have := HC2.out.lt; omega
          have hK9 : (w4.setCell ⟨w.heap.size, 0, none⟩ (.bool true)).heap[D]? = some (.deferred (some [])) := by
            rw [Below.heap_setCell _ _ _ _ (by simp; omega)]
            exact (HB4.out.block D hDV).trans HK.out
          generalize w4.setCell ⟨w.heap.size, 0, none⟩ (.bool true) = V9 at *
          refine ⟨by simp, .inl ⟨_, _, rfl, run_takeDeferred hK9, ?_⟩⟩
          have hc2 : (V9.putObj D (.deferred none)).cell? ⟨w.heap.size, 0, none⟩ = some (.bool true) := by
            rw [← hb9.cell]; simp [World.cell?, World.putObj_heap_other (show w.heap.size ≠ D by omega)]
          refine ⟨.bool true, by simp [results, Try.f5, go_sem, hc2], rfl, hB9.trans (belowK_b (w := w) (Nat.le_refl _) V9 D _ _ (by omega) hK9 rfl rfl)⟩
        case stop =>
          rintro D c pre x r V hD hL h hK
          exact h.elim
end Go.Proofs.Ytnplbmbbocffbaa
