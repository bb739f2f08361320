/- Sums as exact fractions: plain words. -/
import Derived.Test.YtghijgpelkjohaaLOvr
import Derived.Test.YtghijgpelkjohaaLPer
namespace Go.Proofs.Ytghijgpelkjohaa
set_option linter.unusedVariables false
set_option linter.unusedSimpArgs false
/-! ### Least common multiples -/
def lcmZ (a b : Int) : Int := (Nat.lcm a.toNat b.toNat : Nat)
theorem lcm_quo (a b : Int) (ha : 0 ≤ a) (hb : 0 ≤ b) : a / gcdI a b * b = lcmZ a b := by
  obtain ⟨x, rfl⟩ := Int.eq_ofNat_of_zero_le ha
  obtain ⟨y, rfl⟩ := Int.eq_ofNat_of_zero_le hb
  unfold gcdI lcmZ
  simp only [Int.toNat_natCast]
  have h : x / Nat.gcd x y * y = Nat.lcm x y := by
    rw [Nat.div_mul_right_comm (Nat.gcd_dvd_left x y) y]; rfl
  rw [← h]
  simp
theorem lcmB_is {a b : Int} (ha : 0 < a) (hb : 0 < b) : lcmB a b = decide (lcmZ a b ≤ 18446744073709551615) := by
  unfold lcmB
  rw [if_neg (by omega), mulB, lcm_quo a b (by omega) (by omega)]
theorem lcmN_is {a b : Int} (ha : 0 < a) (hb : 0 < b) (h : lcmB a b = true) : lcmN a b = lcmZ a b := by
  rw [lcmB_is ha hb] at h
  have h' : lcmZ a b ≤ 18446744073709551615 := by simpa using h
  unfold lcmN
  rw [if_neg (by omega), mulN, lcm_quo a b (by omega) (by omega), if_pos h']
theorem lcmZ_dvd (a b : Int) (ha : 0 ≤ a) (hb : 0 ≤ b) : a ∣ lcmZ a b ∧ b ∣ lcmZ a b := by
  obtain ⟨x, rfl⟩ := Int.eq_ofNat_of_zero_le ha
  obtain ⟨y, rfl⟩ := Int.eq_ofNat_of_zero_le hb
  unfold lcmZ
  simp only [Int.toNat_natCast]
  exact ⟨Int.natCast_dvd_natCast.2 (Nat.dvd_lcm_left _ _), Int.natCast_dvd_natCast.2 (Nat.dvd_lcm_right _ _)⟩
theorem lcmZ_pos {a b : Int} (ha : 0 < a) (hb : 0 < b) : 0 < lcmZ a b := by
  unfold lcmZ
  have := Nat.lcm_pos (m := a.toNat) (n := b.toNat) (by omega) (by omega)
  omega
theorem lcmZ_least {a b m : Int} (ha : 0 ≤ a) (hb : 0 ≤ b) (h1 : a ∣ m) (h2 : b ∣ m) : lcmZ a b ∣ m := by
  obtain ⟨x, rfl⟩ := Int.eq_ofNat_of_zero_le ha
  obtain ⟨y, rfl⟩ := Int.eq_ofNat_of_zero_le hb
  unfold lcmZ
  simp only [Int.toNat_natCast]
  have e1 : x ∣ m.natAbs := by simpa using Int.natAbs_dvd_natAbs.2 h1
  have e2 : y ∣ m.natAbs := by simpa using Int.natAbs_dvd_natAbs.2 h2
  exact Int.natAbs_dvd_natAbs.1 (by simpa using Nat.lcm_dvd e1 e2)
theorem lcmZ_comm (a b : Int) : lcmZ a b = lcmZ b a := by unfold lcmZ; rw [Nat.lcm_comm]
theorem lcmZ_assoc (a b c : Int) : lcmZ (lcmZ a b) c = lcmZ a (lcmZ b c) := by
  unfold lcmZ
  simp only [Int.toNat_natCast]
  rw [Nat.lcm_assoc]
/-! ### Forms -/
def Red (x : Fr) : Prop := Nat.gcd x.n.toNat x.d.toNat = 1
theorem form_cross (a b : Int) (ha : 0 ≤ a) (hb : 0 < b) : (formF a b).n * b = (formF a b).d * a ∧ Red (formF a b) := by
  obtain ⟨x, rfl⟩ := Int.eq_ofNat_of_zero_le ha
  obtain ⟨y, rfl⟩ := Int.eq_ofNat_of_zero_le (show 0 ≤ b by omega)
  have hy : 0 < y := by omega
  have hg : 0 < Nat.gcd x y := Nat.gcd_pos_of_pos_right x hy
  have e1 := Nat.div_mul_cancel (Nat.gcd_dvd_left x y)
  have e2 := Nat.div_mul_cancel (Nat.gcd_dvd_right x y)
  constructor
  · show ((x : Int) / gcdI x y) * y = ((y : Int) / gcdI x y) * x
    unfold gcdI
    simp only [Int.toNat_natCast]
    rw [← Int.natCast_ediv, ← Int.natCast_ediv, ← Int.natCast_mul, ← Int.natCast_mul]
    congr 1
    generalize x / Nat.gcd x y = p at *
    generalize y / Nat.gcd x y = q at *
    generalize Nat.gcd x y = g at *
    subst e1 e2
    rw [Nat.mul_comm q g, Nat.mul_comm p g, ← Nat.mul_assoc, ← Nat.mul_assoc, Nat.mul_comm p g, Nat.mul_comm q g, Nat.mul_assoc, Nat.mul_assoc, Nat.mul_comm p q]
  · show Nat.gcd ((x : Int) / gcdI x y).toNat ((y : Int) / gcdI x y).toNat = 1
    unfold gcdI
    simp only [Int.toNat_natCast]
    rw [← Int.natCast_ediv, ← Int.natCast_ediv, Int.toNat_natCast, Int.toNat_natCast]
    exact Nat.coprime_div_gcd_div_gcd hg
theorem red_eq {x y : Fr} (hx : Red x) (hy : Red y) (hn : 0 ≤ x.n) (hm : 0 ≤ y.n) (hd : 0 < x.d) (he : 0 < y.d) (h : x.n * y.d = y.n * x.d) : x = y := by
  obtain ⟨a, b⟩ := x
  obtain ⟨c, d⟩ := y
  simp only at *
  obtain ⟨a, rfl⟩ := Int.eq_ofNat_of_zero_le hn
  obtain ⟨c, rfl⟩ := Int.eq_ofNat_of_zero_le hm
  obtain ⟨b, rfl⟩ := Int.eq_ofNat_of_zero_le (show 0 ≤ b by omega)
  obtain ⟨d, rfl⟩ := Int.eq_ofNat_of_zero_le (show 0 ≤ d by omega)
  have hN : a * d = c * b := by
    have : ((a * d : Nat) : Int) = ((c * b : Nat) : Int) := by rw [Int.natCast_mul, Int.natCast_mul]; exact h
    omega
  have c1 : Nat.Coprime a b := by simpa [Red] using hx
  have c2 : Nat.Coprime c d := by simpa [Red] using hy
  have d1 : b ∣ d := by
    have : b ∣ a * d := ⟨c, by rw [hN, Nat.mul_comm]⟩
    exact (Nat.Coprime.dvd_of_dvd_mul_left c1.symm this)
  have d2 : d ∣ b := by
    have : d ∣ c * b := ⟨a, by rw [← hN, Nat.mul_comm]⟩
    exact (Nat.Coprime.dvd_of_dvd_mul_left c2.symm this)
  have e1 : b = d := Nat.dvd_antisymm d1 d2
  subst e1
  have e2 : a = c := Nat.eq_of_mul_eq_mul_right (show 0 < b by omega) hN
  rw [e2]
/-! ### Sums -/
theorem cross_add {n d a x y p q m sn yn : Int} (h : n * m = d * (sn * p + yn * q)) (h1 : m = x * p) (h2 : m = y * q) (hm : m ≠ 0) : n * (x * y) = d * (sn * y + yn * x) := by
  have : m * (n * (x * y)) = m * (d * (sn * y + yn * x)) := by grind
  exact Int.eq_of_mul_eq_mul_left hm this
theorem plus_cross {x y : Fr} (hx : FrW x) (hy : FrW y) (hxd : 0 < x.d) (hyd : 0 < y.d) (h : okF x y = true) :
    (plusF x y).n * (x.d * y.d) = (plusF x y).d * (x.n * y.d + y.n * x.d) ∧ Red (plusF x y) := by
  unfold okF at h
  simp only [Bool.and_eq_true] at h
  obtain ⟨h1, h2, h3, h4⟩ := h
  have hL := lcmN_is hxd hyd h1
  have hp := lcmZ_pos hxd hyd
  obtain ⟨⟨p, hp1⟩, ⟨q, hq1⟩⟩ := lcmZ_dvd x.d y.d (by omega) (by omega)
  have ep : lcmN x.d y.d / x.d = p := by rw [hL, hp1, Int.mul_ediv_cancel_left _ (by omega)]
  have eq : lcmN x.d y.d / y.d = q := by rw [hL, hq1, Int.mul_ediv_cancel_left _ (by omega)]
  have m2 : mulN x.n (lcmN x.d y.d / x.d) = x.n * p := by
    rw [ep] at h2 ⊢
    have : x.n * p ≤ 18446744073709551615 := by simpa [mulB] using h2
    rw [mulN, if_pos this]
  have m3 : mulN y.n (lcmN x.d y.d / y.d) = y.n * q := by
    rw [eq] at h3 ⊢
    have : y.n * q ≤ 18446744073709551615 := by simpa [mulB] using h3
    rw [mulN, if_pos this]
  have m4 : numF x y = x.n * p + y.n * q := by
    unfold numF
    rw [m2, m3] at h4 ⊢
    have : x.n * p + y.n * q ≤ 18446744073709551615 := by simpa [addB] using h4
    rw [addN, if_pos this]
  have hp0 : 0 < p := by
    rcases Int.lt_or_le 0 p with h | h
    · exact h
    · have := Int.mul_nonpos_of_nonneg_of_nonpos (show 0 ≤ x.d by omega) h
      omega
  have hq0 : 0 < q := by
    rcases Int.lt_or_le 0 q with h | h
    · exact h
    · have := Int.mul_nonpos_of_nonneg_of_nonpos (show 0 ≤ y.d by omega) h
      omega
  have hn : 0 ≤ numF x y := by
    rw [m4]
    have := Int.mul_nonneg hx.n.1 (show 0 ≤ p by omega)
    have := Int.mul_nonneg hy.n.1 (show 0 ≤ q by omega)
    omega
  have hf := form_cross (numF x y) (lcmN x.d y.d) hn (by rw [hL]; exact hp)
  refine ⟨?_, hf.2⟩
  have h5 := hf.1
  show (formF (numF x y) (lcmN x.d y.d)).n * (x.d * y.d) = (formF (numF x y) (lcmN x.d y.d)).d * (x.n * y.d + y.n * x.d)
  generalize formF (numF x y) (lcmN x.d y.d) = f at *
  rw [m4, hL] at h5
  exact cross_add (a := 0) h5 hp1 hq1 (by omega)
def prodT : List Ts → Int
  | [] => 1
  | x :: l => x.t * prodT l
def numT : List Ts → Int
  | [] => 0
  | x :: l => x.c * prodT l + x.t * numT l
theorem prodT_app : ∀ l m : List Ts, prodT (l ++ m) = prodT l * prodT m
  | [], m => by simp [prodT]
  | x :: l, m => by rw [List.cons_append, prodT, prodT_app l m, prodT, Int.mul_assoc]
theorem numT_app : ∀ l m : List Ts, numT (l ++ m) = numT l * prodT m + prodT l * numT m
  | [], m => by simp [numT, prodT]
  | x :: l, m => by
    rw [List.cons_append, numT, numT_app l m, numT, prodT, prodT_app]
    grind
theorem prodT_rev : ∀ l : List Ts, prodT l.reverse = prodT l
  | [] => rfl
  | x :: l => by rw [List.reverse_cons, prodT_app, prodT_rev l]; simp only [prodT]; grind
theorem numT_rev : ∀ l : List Ts, numT l.reverse = numT l
  | [] => rfl
  | x :: l => by rw [List.reverse_cons, numT_app, numT_rev l, prodT_rev l]; simp only [prodT, numT]; grind
theorem of_cross {c t : Int} (hc : 0 ≤ c) (ht : 1 ≤ t) : (ofF c t).n * t = (ofF c t).d * c := by
  unfold ofF
  rw [if_neg (by omega)]
  exact (form_cross c t hc (by omega)).1
theorem cross_step {tn td sn sd yn yd c t : Int} (h1 : tn * (sd * yd) = td * (sn * yd + yn * sd)) (h2 : yn * t = yd * c) (hy : yd ≠ 0) : tn * (sd * t) = td * (sn * t + c * sd) := by
  have : yd * (tn * (sd * t)) = yd * (td * (sn * t + c * sd)) := by grind
  exact Int.eq_of_mul_eq_mul_left hy this
theorem cross_more {fn fd sd sn td tn P N c t : Int} (h1 : tn * (sd * t) = td * (sn * t + c * sd)) (h2 : fn * (td * P) = fd * (tn * P + td * N)) (ht : td ≠ 0) :
    fn * (sd * (t * P)) = fd * (sn * (t * P) + sd * (c * P + t * N)) := by
  have : td * (fn * (sd * (t * P))) = td * (fd * (sn * (t * P) + sd * (c * P + t * N))) := by grind
  exact Int.eq_of_mul_eq_mul_left ht this
theorem noF_is {c t : Int} (h : noF c t = false) : 0 ≤ c ∧ 1 ≤ t := by
  have : ¬ (c < 0 ∨ t < 1) := by simpa [noF] using h
  omega
theorem sumO_val : ∀ (l : List Ts) (s f : Fr), FrW s → 0 < s.d → Red s → (∀ x ∈ l, TsW x) → anyNo l = false → sumO s l = some f →
    f.n * (s.d * prodT l) = f.d * (s.n * prodT l + s.d * numT l) ∧ Red f
  | [], s, f, hs, hd, hr, _, _, h => by
    rw [sumO] at h
    cases h
    simp only [prodT, numT]
    exact ⟨by grind, hr⟩
  | x :: l, s, f, hs, hd, hr, hw, hn, h => by
    have hx := hw x (by simp)
    have hno : noF x.c x.t = false := no_at (l := x :: l) (k := 0) hn rfl
    have hnl : anyNo l = false := by
      unfold anyNo at hn ⊢
      rw [List.any_cons, hno, Bool.false_or] at hn
      exact hn
    rw [sumO] at h
    by_cases ho : okF s (ofF x.c x.t) = true
    · rw [if_pos ho] at h
      have hyd := ofF_d hx.c hx.t hno
      have hp := plusF_w hs (ofF_w hx.c hx.t) hd hyd ho
      have hc := plus_cross hs (ofF_w hx.c hx.t) hd hyd ho
      have ih := sumO_val l _ f hp.1 hp.2 hc.2 (fun y hy => hw y (by simp [hy])) hnl h
      have hb := noF_is hno
      have h1 := cross_step hc.1 (of_cross hb.1 hb.2) (by omega)
      exact ⟨by simp only [prodT, numT]; exact cross_more h1 ih.1 (by omega), ih.2⟩
    · rw [if_neg ho] at h; cases h
theorem prodT_pos : ∀ l : List Ts, anyNo l = false → 0 < prodT l
  | [], _ => by decide
  | x :: l, hn => by
    have hno : noF x.c x.t = false := no_at (l := x :: l) (k := 0) hn rfl
    have hnl : anyNo l = false := by
      unfold anyNo at hn ⊢
      rw [List.any_cons, hno, Bool.false_or] at hn
      exact hn
    have := prodT_pos l hnl
    rw [prodT]
    exact Int.mul_pos (by have := noF_is hno; omega) this
theorem one_red : Red ⟨0, 1⟩ := by unfold Red; decide
/-- What a sum that is told is. -/
theorem sum_val {l : List Ts} (hw : ∀ x ∈ l, TsW x) (h : sumE l = 0) : FrW (sumF l) ∧ 0 < (sumF l).d ∧ Red (sumF l) ∧ (sumF l).n * prodT l = (sumF l).d * numT l ∧ 0 < prodT l := by
  rcases sum_cases l hw with h1 | h1 | h1
  · obtain ⟨_, a, b, c, d⟩ := h1
    have hv := sumO_val l _ _ one_w (by decide) one_red hw c d
    simp only [Int.one_mul, Int.zero_mul, Int.zero_add] at hv
    exact ⟨a, b, hv.2, hv.1, prodT_pos l c⟩
  · rw [h1.1] at h; omega
  · rw [h1.1] at h; omega
theorem sum_same {l m : List Ts} (hw : ∀ x ∈ l, TsW x) (hv : ∀ x ∈ m, TsW x) (h : sumE l = 0) (k : sumE m = 0) (hp : prodT l = prodT m) (hn : numT l = numT m) : sumF l = sumF m := by
  obtain ⟨a, b, c, d, e⟩ := sum_val hw h
  obtain ⟨a', b', c', d', e'⟩ := sum_val hv k
  refine red_eq c c' a.n.1 a'.n.1 b b' ?_
  rw [← hp, ← hn] at d'
  have : prodT l * ((sumF l).n * (sumF m).d) = prodT l * ((sumF m).n * (sumF l).d) := by grind
  exact Int.eq_of_mul_eq_mul_left (by omega) this
theorem anyNo_rev (l : List Ts) : anyNo l.reverse = anyNo l := by
  unfold anyNo
  rw [List.any_reverse]
/-- Forwards, and backwards. -/
theorem order_pure (l : List Ts) (hw : ∀ x ∈ l, TsW x) : (sumE l = 0 → sumE l.reverse = 0 → sumF l = sumF l.reverse) ∧ (sumE l = 1 ↔ sumE l.reverse = 1) := by
  have hv : ∀ x ∈ l.reverse, TsW x := fun x hx => hw x (List.mem_reverse.1 hx)
  refine ⟨fun h k => sum_same hw hv h k (prodT_rev l).symm (numT_rev l).symm, ?_⟩
  have hr := anyNo_rev l
  rcases sum_cases l hw with a | a | a <;> rcases sum_cases l.reverse hv with b | b | b
  · simp [a.1, b.1]
  · rw [b.2.2, a.2.2.2.1] at hr; cases hr
  · simp [a.1, b.1]
  · rw [a.2.2, b.2.2.2.1] at hr; cases hr
  · rw [a.1, b.1]
  · rw [a.2.2, b.2.2.1] at hr; cases hr
  · simp [a.1, b.1]
  · rw [b.2.2, a.2.2.1] at hr; cases hr
  · rw [a.1, b.1]
/-! ### Periods -/
def lcmL : List Ts → Int
  | [] => 1
  | x :: l => lcmZ x.t (lcmL l)
theorem lcmL_pos : ∀ l : List Ts, (∀ x ∈ l, 1 ≤ x.t) → 0 < lcmL l
  | [], _ => by decide
  | x :: l, h => lcmZ_pos (by have := h x (by simp); omega) (lcmL_pos l fun y hy => h y (by simp [hy]))
theorem lcmZ_le_right {a b : Int} (ha : 0 < a) (hb : 0 < b) : b ≤ lcmZ a b := Int.le_of_dvd (lcmZ_pos ha hb) (lcmZ_dvd a b (by omega) (by omega)).2
theorem lcmZ_le_left {a b : Int} (ha : 0 < a) (hb : 0 < b) : a ≤ lcmZ a b := Int.le_of_dvd (lcmZ_pos ha hb) (lcmZ_dvd a b (by omega) (by omega)).1
theorem pd_val : ∀ (l : List Ts) (q : Int), 0 < q → q ≤ 18446744073709551615 → (∀ x ∈ l, 1 ≤ x.t) →
    pdB q l = decide (lcmZ q (lcmL l) ≤ 18446744073709551615) ∧ pdN q l = (if lcmZ q (lcmL l) ≤ 18446744073709551615 then lcmZ q (lcmL l) else 0)
  | [], q, h, hq, _ => by
    have e : lcmZ q (lcmL []) = q := by
      show lcmZ q 1 = q
      unfold lcmZ
      simp
      omega
    rw [e]
    exact ⟨by rw [pdB, decide_eq_true hq], by rw [pdN, if_pos hq]⟩
  | x :: l, q, h, hq, hl => by
    have hx := hl x (by simp)
    have hl' : ∀ y ∈ l, 1 ≤ y.t := fun y hy => hl y (by simp [hy])
    have hp := lcmL_pos l hl'
    have e : lcmZ q (lcmL (x :: l)) = lcmZ (lcmZ q x.t) (lcmL l) := by rw [lcmL, lcmZ_assoc]
    have hq2 := lcmZ_pos h (show 0 < x.t by omega)
    rw [e]
    cases hb : lcmB q x.t
    · have ho := pd_over (l := l) (show ¬ x.t < 1 by omega) hb
      rw [ho.1, ho.2]
      rw [lcmB_is h (by omega)] at hb
      have hb' : ¬ lcmZ q x.t ≤ 18446744073709551615 := by simpa using hb
      have := lcmZ_le_left hq2 hp
      have hn : ¬ lcmZ (lcmZ q x.t) (lcmL l) ≤ 18446744073709551615 := by omega
      exact ⟨by rw [decide_eq_false hn], by rw [if_neg hn]⟩
    · have ho := pd_next (l := l) (show ¬ x.t < 1 by omega) hb
      rw [ho.1, ho.2, lcmN_is h (by omega) hb]
      rw [lcmB_is h (by omega)] at hb
      have hb' : lcmZ q x.t ≤ 18446744073709551615 := by simpa using hb
      exact pd_val l _ hq2 hb' hl'
theorem lcmZ_one {a : Int} (h : 0 ≤ a) : lcmZ 1 a = a := by
  unfold lcmZ
  simp
  omega
/-- What a period is. -/
theorem pd_one (l : List Ts) (h : ∀ x ∈ l, 1 ≤ x.t) : pdB 1 l = decide (lcmL l ≤ 18446744073709551615) ∧ pdN 1 l = (if lcmL l ≤ 18446744073709551615 then lcmL l else 0) := by
  have := pd_val l 1 (by decide) (by decide) h
  rwa [lcmZ_one (by have := lcmL_pos l h; omega)] at this
theorem lcmL_app : ∀ l m : List Ts, (∀ x ∈ m, 1 ≤ x.t) → lcmL (l ++ m) = lcmZ (lcmL l) (lcmL m)
  | [], m, h => by rw [List.nil_append]; exact (lcmZ_one (by have := lcmL_pos m h; omega)).symm
  | x :: l, m, h => by rw [List.cons_append, lcmL, lcmL_app l m h, lcmL, lcmZ_assoc]
theorem lcmL_rev : ∀ l : List Ts, (∀ x ∈ l, 1 ≤ x.t) → lcmL l.reverse = lcmL l
  | [], _ => rfl
  | x :: l, h => by
    have hx := h x (by simp)
    rw [List.reverse_cons, lcmL_app _ _ (fun y hy => by obtain rfl := List.mem_singleton.1 hy; exact hx), lcmL_rev l (fun y hy => h y (by simp [hy])), lcmL, lcmZ_comm]
    congr 1
    show lcmZ x.t 1 = x.t
    rw [lcmZ_comm, lcmZ_one (by omega)]
theorem pd_rev (l : List Ts) : pdB 1 l = pdB 1 l.reverse ∧ pdN 1 l = pdN 1 l.reverse := by
  by_cases h : ∀ x ∈ l, 1 ≤ x.t
  · have h1 := pd_one l h
    have h2 := pd_one l.reverse (fun x hx => h x (List.mem_reverse.1 hx))
    rw [lcmL_rev l h] at h2
    exact ⟨h1.1.trans h2.1.symm, h1.2.trans h2.2.symm⟩
  · have hx : ∃ x ∈ l, x.t < 1 := Classical.byContradiction fun hc => h fun x hx => Classical.byContradiction fun hlt => hc ⟨x, hx, by omega⟩
    obtain ⟨x, hx1, hx2⟩ := hx
    have h1 := pd_low l 1 ⟨x, hx1, hx2⟩
    have h2 := pd_low l.reverse 1 ⟨x, List.mem_reverse.2 hx1, hx2⟩
    exact ⟨h1.1.trans h2.1.symm, h1.2.trans h2.2.symm⟩
end Go.Proofs.Ytghijgpelkjohaa
