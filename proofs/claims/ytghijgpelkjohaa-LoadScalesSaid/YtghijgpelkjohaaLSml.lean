/- Small sets: sums that are told, periods, and sets so many times as great: plain words. -/
import Derived.Test.YtghijgpelkjohaaLMath
namespace Go.Proofs.Ytghijgpelkjohaa
set_option linter.unusedVariables false
set_option linter.unusedSimpArgs false
/-- Small tasks, that work, and need no more than all. -/
def Sml (l : List Ts) : Prop := ∀ x ∈ l, 1 ≤ x.c ∧ x.c ≤ x.t ∧ x.t ≤ 20
theorem sml_of {ts : List Ts} (h : SFs ts) : Sml ts := fun x hx => by
  obtain ⟨i, hi, rfl⟩ := List.getElem_of_mem hx
  have s := h i _ (List.getElem?_eq_getElem hi)
  have := s.c0; have := s.d0; have := s.j0; have := s.t0; have := s.t1
  omega
theorem t_dvd_nat : ∀ t : Nat, t ≤ 20 → 0 < t → t ∣ 232792560 := by decide
theorem t_dvd {t : Int} (h : 1 ≤ t) (h2 : t ≤ 20) : t ∣ 232792560 := by
  obtain ⟨n, rfl⟩ := Int.eq_ofNat_of_zero_le (show 0 ≤ t by omega)
  exact Int.natCast_dvd_natCast.2 (t_dvd_nat n (by omega) (by omega))
theorem le_of_dvd_big {d : Int} (h : d ∣ 232792560) : d ≤ 232792560 := Int.le_of_dvd (by decide) h
theorem form_d_dvd (a b : Int) (ha : 0 ≤ a) (hb : 0 ≤ b) : (formF a b).d ∣ b := Int.ediv_dvd_of_dvd (gcdI_dvd a b ha hb).2
theorem form_n_le {a b K : Int} (ha : 0 ≤ a) (hb : 0 < b) (h : a ≤ K * b) (hd : 0 ≤ (formF a b).d) : (formF a b).n ≤ K * (formF a b).d := by
  have h1 := (form_cross a b ha hb).1
  have h2 := Int.mul_le_mul_of_nonneg_left h hd
  generalize formF a b = f at *
  have h3 : f.n * b ≤ K * f.d * b := by
    rw [h1, show K * f.d * b = f.d * (K * b) by grind]
    exact h2
  exact Int.le_of_mul_le_mul_right h3 hb
theorem of_small {x : Ts} (h : 1 ≤ x.c ∧ x.c ≤ x.t ∧ x.t ≤ 20) : (ofF x.c x.t).d ∣ x.t ∧ 0 < (ofF x.c x.t).d ∧ 1 ≤ (ofF x.c x.t).n ∧ (ofF x.c x.t).n ≤ (ofF x.c x.t).d := by
  have e : ofF x.c x.t = formF x.c x.t := by unfold ofF; rw [if_neg (by omega)]
  rw [e]
  have hw := formF_w (a := x.c) (b := x.t) ⟨by omega, by omega⟩ (by omega) (by omega)
  have hc := (form_cross x.c x.t (by omega) (by omega)).1
  refine ⟨form_d_dvd _ _ (by omega) (by omega), hw.2, ?_, ?_⟩
  · rcases Int.lt_or_le 0 (formF x.c x.t).n with h1 | h1
    · omega
    · have h2 := hw.1.n.1
      have h3 : (formF x.c x.t).n = 0 := by omega
      rw [h3, Int.zero_mul] at hc
      have := Int.mul_pos hw.2 (show 0 < x.c by omega)
      omega
  · have := form_n_le (K := 1) (a := x.c) (b := x.t) (by omega) (by omega) (by omega) (by omega)
    omega
/-- What is known of a sum on the way. -/
structure Way (K : Int) (s : Fr) : Prop where
  w : FrW s
  p : 0 < s.d
  d : s.d ∣ 232792560
  n : s.n ≤ K * s.d
theorem way_step {K : Int} {s y : Fr} (h : Way K s) (hK : 0 ≤ K) (hK7 : K ≤ 7) (hy : FrW y) (hyp : 0 < y.d) (hyd : y.d ∣ 232792560) (hyn : y.n ≤ y.d) : okF s y = true ∧ Way (K + 1) (plusF s y) := by
  obtain ⟨hs, hp, hd, hn⟩ := h
  have hLd := lcmZ_least (show 0 ≤ s.d by omega) (show 0 ≤ y.d by omega) hd hyd
  have hLp := lcmZ_pos hp hyp
  have hLb := le_of_dvd_big hLd
  have hB : lcmB s.d y.d = true := by rw [lcmB_is hp hyp]; exact decide_eq_true (by omega)
  have hL := lcmN_is hp hyp hB
  obtain ⟨⟨p, hp1⟩, ⟨q, hq1⟩⟩ := lcmZ_dvd s.d y.d (by omega) (by omega)
  have ep : lcmN s.d y.d / s.d = p := by rw [hL, hp1, Int.mul_ediv_cancel_left _ (by omega)]
  have eq : lcmN s.d y.d / y.d = q := by rw [hL, hq1, Int.mul_ediv_cancel_left _ (by omega)]
  have hp0 : 0 ≤ p := by rw [← ep, hL]; exact Int.ediv_nonneg (by omega) (by omega)
  have hq0 : 0 ≤ q := by rw [← eq, hL]; exact Int.ediv_nonneg (by omega) (by omega)
  have b1 : s.n * p ≤ K * lcmZ s.d y.d := by
    rw [hp1, show K * (s.d * p) = K * s.d * p by grind]
    exact Int.mul_le_mul_of_nonneg_right hn hp0
  have b2 : y.n * q ≤ lcmZ s.d y.d := by
    rw [hq1]
    exact Int.mul_le_mul_of_nonneg_right hyn hq0
  have c1 : 0 ≤ s.n * p := Int.mul_nonneg hs.n.1 hp0
  have c2 : 0 ≤ y.n * q := Int.mul_nonneg hy.n.1 hq0
  have b3 : K * lcmZ s.d y.d ≤ 7 * 232792560 := by
    have h1 := Int.mul_le_mul_of_nonneg_right hK7 (show 0 ≤ lcmZ s.d y.d by omega)
    omega
  have m2 : mulN s.n (lcmN s.d y.d / s.d) = s.n * p := by rw [ep, mulN, if_pos (by omega)]
  have m3 : mulN y.n (lcmN s.d y.d / y.d) = y.n * q := by rw [eq, mulN, if_pos (by omega)]
  have ok : okF s y = true := by
    unfold okF
    rw [hB, m2, m3, ep, eq]
    simp only [mulB, addB, Bool.true_and, Bool.and_eq_true, decide_eq_true_eq]
    exact ⟨by omega, by omega, by omega⟩
  refine ⟨ok, ?_⟩
  have m4 : numF s y = s.n * p + y.n * q := by
    unfold numF
    rw [m2, m3, addN, if_pos (by omega)]
  have hw := plusF_w hs hy hp hyp ok
  refine ⟨hw.1, hw.2, ?_, ?_⟩
  · show (formF (numF s y) (lcmN s.d y.d)).d ∣ 232792560
    rw [hL]
    exact Int.dvd_trans (form_d_dvd _ _ (by rw [m4]; omega) (by omega)) hLd
  · have hpd : 0 ≤ (formF (numF s y) (lcmN s.d y.d)).d := Int.le_of_lt hw.2
    show (formF (numF s y) (lcmN s.d y.d)).n ≤ (K + 1) * (formF (numF s y) (lcmN s.d y.d)).d
    refine form_n_le (by rw [m4]; omega) (by rw [hL]; omega) ?_ hpd
    rw [m4, hL, Int.add_mul, Int.one_mul]
    omega
theorem sumO_small : ∀ (l : List Ts) (s : Fr) (K : Int), Way K s → 0 ≤ K → K + l.length ≤ 8 → Sml l → (∀ x ∈ l, TsW x) → ∃ f, sumO s l = some f ∧ Way (K + l.length) f
  | [], s, K, h, _, _, _, _ => ⟨s, rfl, by simpa using h⟩
  | x :: l, s, K, h, hK, h8, hl, hw => by
    simp only [List.length_cons] at h8 ⊢
    have hx := hl x (by simp)
    have hxw := hw x (by simp)
    have ho := of_small hx
    have hs := way_step h hK (by omega) (ofF_w hxw.c hxw.t) ho.2.1 (Int.dvd_trans ho.1 (t_dvd (by omega) hx.2.2)) ho.2.2.2
    obtain ⟨f, hf, hW⟩ := sumO_small l (plusF s (ofF x.c x.t)) (K + 1) hs.2 (by omega) (by omega) (fun y hy => hl y (by simp [hy])) (fun y hy => hw y (by simp [hy]))
    refine ⟨f, ?_, ?_⟩
    · rw [sumO, if_pos hs.1]; exact hf
    · have e : K + 1 + (l.length : Int) = K + ((l.length + 1 : Nat) : Int) := by omega
      rwa [← e]
theorem anyNo_small {l : List Ts} (h : Sml l) : anyNo l = false := by
  unfold anyNo
  rw [List.any_eq_false]
  intro x hx
  have := h x hx
  simp [noF]
  omega
/-- The sum of a small set is told. -/
theorem sum_small {l : List Ts} (h : Sml l) (h8 : l.length ≤ 8) (hw : ∀ x ∈ l, TsW x) : sumE l = 0 ∧ Way l.length (sumF l) := by
  have w0 : Way 0 ⟨0, 1⟩ := ⟨one_w, by decide, ⟨232792560, by decide⟩, by decide⟩
  obtain ⟨f, hf, hW⟩ := sumO_small l ⟨0, 1⟩ 0 w0 (by decide) (by omega) h hw
  have he := sumE_some (anyNo_small h) hf
  rw [he.1]
  exact ⟨he.2, by simpa using hW⟩
/-! ### A task more -/
theorem adds_cross {fn fd gn gd on od P N c t : Int} (h1 : fn * (P * t) = fd * (N * t + P * c)) (h2 : gn * P = gd * N) (h3 : on * t = od * c) (hP : P ≠ 0) (ht : t ≠ 0) :
    fn * (gd * od) = (gn * od + on * gd) * fd := by
  have : (P * t) * (fn * (gd * od)) = (P * t) * ((gn * od + on * gd) * fd) := by grind
  exact Int.eq_of_mul_eq_mul_left (Int.mul_ne_zero hP ht) this
theorem adds_pure {l : List Ts} {x : Ts} (hs : Sml (l ++ [x])) (h6 : (l ++ [x]).length ≤ 6) (hw : ∀ y ∈ l ++ [x], TsW y) :
    sumE (l ++ [x]) = 0 ∧ sumE l = 0 ∧ Way 6 (sumF (l ++ [x])) ∧ Way 6 (sumF l) ∧
    (sumF (l ++ [x])).n * ((sumF l).d * (ofF x.c x.t).d) = ((sumF l).n * (ofF x.c x.t).d + (ofF x.c x.t).n * (sumF l).d) * (sumF (l ++ [x])).d := by
  have hl : Sml l := fun y hy => hs y (by simp [hy])
  have hwl : ∀ y ∈ l, TsW y := fun y hy => hw y (by simp [hy])
  have hx := hs x (by simp)
  have h5 : l.length + 1 ≤ 6 := by simpa using h6
  obtain ⟨e1, w1⟩ := sum_small hs (by omega) hw
  obtain ⟨e2, w2⟩ := sum_small hl (by omega) hwl
  have v1 := sum_val hw e1
  have v2 := sum_val hwl e2
  rw [prodT_app, numT_app] at v1
  simp only [prodT, numT, Int.mul_one, Int.mul_zero, Int.add_zero] at v1
  have wm : ∀ {K : Int} {s : Fr}, Way K s → K ≤ 6 → Way 6 s := fun h hK => ⟨h.w, h.p, h.d, by have h1 := h.n; have h2 := Int.mul_le_mul_of_nonneg_right hK (show 0 ≤ _ from Int.le_of_lt h.p); omega⟩
  refine ⟨e1, e2, wm w1 (by omega), wm w2 (by omega), ?_⟩
  exact adds_cross v1.2.2.2.1 v2.2.2.2.1 (of_cross (by omega) (by omega)) (by have := v2.2.2.2.2; omega) (by omega)
theorem adds_lt {fn fd gn gd on od : Int} (h : fn * (gd * od) = (gn * od + on * gd) * fd) (ho : 0 < on) (hd : 0 < od) (hg : 0 < gd) (hf : 0 < fd) : gn * fd < fn * gd := by
  have h1 : 0 < on * gd * fd := Int.mul_pos (Int.mul_pos ho hg) hf
  have h2 : od * (gn * fd) < od * (fn * gd) := by
    have e1 : od * (fn * gd) = fn * (gd * od) := by grind
    have e2 : (gn * od + on * gd) * fd = od * (gn * fd) + on * gd * fd := by grind
    omega
  exact Int.lt_of_mul_lt_mul_left h2 (by omega)
/-! ### Periods -/
theorem lcmL_dvd : ∀ (l : List Ts) (m : Int), (∀ x ∈ l, 1 ≤ x.t) → (lcmL l ∣ m ↔ ∀ x ∈ l, x.t ∣ m)
  | [], m, _ => by simp [lcmL]
  | x :: l, m, h => by
    have hx := h x (by simp)
    have hl : ∀ y ∈ l, 1 ≤ y.t := fun y hy => h y (by simp [hy])
    have hp := lcmL_pos l hl
    have ih := lcmL_dvd l m hl
    constructor
    · intro hd y hy
      have d := lcmZ_dvd x.t (lcmL l) (by omega) (by omega)
      rcases List.mem_cons.1 hy with rfl | hy
      · exact Int.dvd_trans d.1 hd
      · exact ih.1 (Int.dvd_trans d.2 hd) y hy
    · intro ha
      exact lcmZ_least (by omega) (by omega) (ha x (by simp)) (ih.2 fun y hy => ha y (by simp [hy]))
theorem period_small {l : List Ts} (h : Sml l) : pdB 1 l = true ∧ pdN 1 l = lcmL l ∧ 0 < lcmL l ∧ lcmL l ≤ 232792560 ∧ ∀ m, lcmL l ∣ m ↔ ∀ x ∈ l, x.t ∣ m := by
  have h1 : ∀ x ∈ l, 1 ≤ x.t := fun x hx => by have := h x hx; omega
  have hp := lcmL_pos l h1
  have hd : lcmL l ∣ 232792560 := (lcmL_dvd l _ h1).2 fun x hx => t_dvd (h1 x hx) (h x hx).2.2
  have hb := le_of_dvd_big hd
  have hv := pd_one l h1
  exact ⟨by rw [hv.1]; exact decide_eq_true (by omega), by rw [hv.2, if_pos (by omega)], hp, hb, fun m => lcmL_dvd l m h1⟩
/-! ### So many times as great -/
def sclT (k : Int) (x : Ts) : Ts := ⟨{ data := #[] }, x.c * k, x.t * k, 0, 0, 0, 0⟩
theorem gcd_scale {a b k : Int} (ha : 0 ≤ a) (hb : 0 ≤ b) (hk : 0 ≤ k) : gcdI (a * k) (b * k) = gcdI a b * k := by
  obtain ⟨x, rfl⟩ := Int.eq_ofNat_of_zero_le ha
  obtain ⟨y, rfl⟩ := Int.eq_ofNat_of_zero_le hb
  obtain ⟨z, rfl⟩ := Int.eq_ofNat_of_zero_le hk
  unfold gcdI
  rw [← Int.natCast_mul, ← Int.natCast_mul]
  simp only [Int.toNat_natCast]
  rw [Nat.gcd_mul_right, Int.natCast_mul]
theorem of_scale {c t k : Int} (hc : 0 ≤ c) (ht : 1 ≤ t) (hk : 0 < k) : ofF (c * k) (t * k) = ofF c t := by
  have h1 : 0 ≤ c * k := Int.mul_nonneg hc (by omega)
  have h2 : 0 < t * k := Int.mul_pos (by omega) hk
  unfold ofF formF
  rw [if_neg (by omega), if_neg (by omega), gcd_scale hc (by omega) (by omega), Int.mul_ediv_mul_of_pos_left _ _ hk, Int.mul_ediv_mul_of_pos_left _ _ hk]
theorem no_scale {c t k : Int} (hc : 0 ≤ c) (ht : 1 ≤ t) (hk : 0 < k) : noF (c * k) (t * k) = noF c t := by
  have h1 : 0 ≤ c * k := Int.mul_nonneg hc (by omega)
  have h2 : 0 < t * k := Int.mul_pos (by omega) hk
  unfold noF
  rw [decide_eq_false (by omega), decide_eq_false (by omega)]
theorem sumO_scale (k : Int) (hk : 0 < k) : ∀ (l : List Ts) (s : Fr), Sml l → sumO s (l.map (sclT k)) = sumO s l
  | [], s, _ => rfl
  | x :: l, s, h => by
    have hx := h x (by simp)
    have e : ofF (sclT k x).c (sclT k x).t = ofF x.c x.t := of_scale (by omega) (by omega) hk
    rw [List.map_cons, sumO, sumO, e]
    split
    · exact sumO_scale k hk l _ fun y hy => h y (by simp [hy])
    · rfl
theorem any_scale (k : Int) (hk : 0 < k) {l : List Ts} (h : Sml l) : anyNo (l.map (sclT k)) = false := by
  unfold anyNo
  rw [List.any_eq_false]
  intro y hy
  obtain ⟨x, hx, rfl⟩ := List.mem_map.1 hy
  have := h x hx
  rw [show noF (sclT k x).c (sclT k x).t = noF x.c x.t from no_scale (by omega) (by omega) hk]
  simp [noF]
  omega
theorem sum_scale (k : Int) (hk : 0 < k) {l : List Ts} (h : Sml l) : sumF (l.map (sclT k)) = sumF l ∧ sumE (l.map (sclT k)) = sumE l := by
  have a1 := any_scale k hk h
  have a2 := anyNo_small h
  have e := sumO_scale k hk l ⟨0, 1⟩ h
  cases ho : sumO ⟨0, 1⟩ l with
  | none =>
    have h1 := sumE_none a1 (e.trans ho)
    have h2 := sumE_none a2 ho
    exact ⟨h1.1.trans h2.1.symm, h1.2.trans h2.2.symm⟩
  | some f =>
    have h1 := sumE_some a1 (e.trans ho)
    have h2 := sumE_some a2 ho
    exact ⟨h1.1.trans h2.1.symm, h1.2.trans h2.2.symm⟩
theorem lcmZ_scale {a b k : Int} (ha : 0 ≤ a) (hb : 0 ≤ b) (hk : 0 ≤ k) : lcmZ (a * k) (b * k) = lcmZ a b * k := by
  obtain ⟨x, rfl⟩ := Int.eq_ofNat_of_zero_le ha
  obtain ⟨y, rfl⟩ := Int.eq_ofNat_of_zero_le hb
  obtain ⟨z, rfl⟩ := Int.eq_ofNat_of_zero_le hk
  unfold lcmZ
  rw [← Int.natCast_mul, ← Int.natCast_mul]
  simp only [Int.toNat_natCast]
  rw [Nat.lcm_mul_right, Int.natCast_mul]
theorem lcmL_scale (k : Int) (hk : 0 < k) : ∀ (l : List Ts), l ≠ [] → (∀ x ∈ l, 1 ≤ x.t) → lcmL (l.map (sclT k)) = lcmL l * k
  | [], h, _ => absurd rfl h
  | [x], _, h => by
    have hx := h x (by simp)
    have hk2 : 0 < x.t * k := Int.mul_pos (by omega) hk
    show lcmZ (x.t * k) 1 = lcmZ x.t 1 * k
    rw [lcmZ_comm, lcmZ_one (by omega), lcmZ_comm, lcmZ_one (by omega)]
  | x :: y :: l, _, h => by
    have hx := h x (by simp)
    have hl : ∀ z ∈ y :: l, 1 ≤ z.t := fun z hz => h z (List.mem_cons_of_mem _ hz)
    have hp := lcmL_pos (y :: l) hl
    rw [List.map_cons, lcmL, lcmL_scale k hk (y :: l) (by simp) hl]
    show lcmZ (x.t * k) (lcmL (y :: l) * k) = lcmZ x.t (lcmL (y :: l)) * k
    exact lcmZ_scale (by omega) (by omega) (by omega)
theorem period_scale (k : Int) (hk : 0 < k) (hk2 : k ≤ 1048576) {l : List Ts} (h : Sml l) (hne : l ≠ []) : pdB 1 (l.map (sclT k)) = true ∧ pdN 1 (l.map (sclT k)) = lcmL l * k ∧ lcmL l * k ≤ 18446744073709551615 ∧ 0 ≤ lcmL l * k := by
  have h1 : ∀ x ∈ l, 1 ≤ x.t := fun x hx => by have := h x hx; omega
  have hg : ∀ x ∈ l.map (sclT k), 1 ≤ x.t := fun y hy => by
    obtain ⟨x, hx, rfl⟩ := List.mem_map.1 hy
    have := Int.mul_pos (show 0 < x.t by have := h1 x hx; omega) hk
    show 1 ≤ x.t * k
    omega
  obtain ⟨_, _, hp, hb, _⟩ := period_small h
  have hv := pd_one _ hg
  rw [lcmL_scale k hk l hne h1] at hv
  have hm : lcmL l * k ≤ 232792560 * 1048576 := Int.mul_le_mul hb hk2 (by omega) (by omega)
  have h0 : 0 ≤ lcmL l * k := Int.mul_nonneg (by omega) (by omega)
  exact ⟨by rw [hv.1]; exact decide_eq_true (by omega), by rw [hv.2, if_pos (by omega)], by omega, h0⟩
end Go.Proofs.Ytghijgpelkjohaa
