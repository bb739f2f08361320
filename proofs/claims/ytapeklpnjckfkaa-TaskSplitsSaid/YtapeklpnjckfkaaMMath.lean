/- Plain numbers: bits of words, and sets of small numbers as words. -/
namespace Go.Proofs.Ytapeklpnjckfkaa
set_option linter.unusedVariables false
set_option linter.unusedSimpArgs false
/-- As many of the lowest k bits as are set. -/
def pc (x : Nat) : Nat → Nat
  | 0 => 0
  | k + 1 => pc x k + (x.testBit k).toNat

theorem pc_le (x k : Nat) : pc x k ≤ k := by
  induction k with
  | zero => simp [pc]
  | succ k ih => simp only [pc]; have : (x.testBit k).toNat ≤ 1 := by cases x.testBit k <;> simp
                 omega

theorem pc_add (x a b : Nat) : pc x (a + b) = pc x a + pc (x / 2 ^ a) b := by
  induction b with
  | zero => simp [pc]
  | succ b ih =>
    rw [← Nat.add_assoc]
    simp only [pc, ih, Nat.testBit_div_two_pow, Nat.add_assoc]
    rw [Nat.add_comm b a]

theorem pc_congr {x y k : Nat} (h : ∀ j, j < k → x.testBit j = y.testBit j) : pc x k = pc y k := by
  induction k with
  | zero => rfl
  | succ k ih => simp only [pc]; rw [ih (fun j hj => h j (by omega)), h k (by omega)]

theorem pc_mod (x k : Nat) : pc (x % 2 ^ k) k = pc x k :=
  pc_congr fun j hj => by simp [Nat.testBit_mod_two_pow, hj]

/-! ### A byte at a time -/
theorem and_byte (h b m c : Nat) (hb : b < 256) (hc : c < 256) : (256 * h + b) &&& (256 * m + c) = 256 * (h &&& m) + (b &&& c) := by
  have e : ∀ x y : Nat, y < 256 → 256 * x + y = x <<< 8 ||| y := fun x y hy => by
    rw [← Nat.shiftLeft_add_eq_or_of_lt (i := 8) (by omega), Nat.shiftLeft_eq]; omega
  have hbc : b &&& c < 256 := Nat.lt_of_le_of_lt Nat.and_le_left hb
  rw [e h b hb, e m c hc, e (h &&& m) (b &&& c) hbc]
  apply Nat.eq_of_testBit_eq
  intro i
  simp only [Nat.testBit_and, Nat.testBit_or, Nat.testBit_shiftLeft]
  by_cases hi : 8 ≤ i
  · have h1 : b.testBit i = false := Nat.testBit_lt_two_pow (Nat.lt_of_lt_of_le hb (by have := Nat.pow_le_pow_right (n := 2) (by omega) hi; omega))
    have h2 : c.testBit i = false := Nat.testBit_lt_two_pow (Nat.lt_of_lt_of_le hc (by have := Nat.pow_le_pow_right (n := 2) (by omega) hi; omega))
    simp [hi, h1, h2]
  · simp [hi]

def s1 (b : Nat) : Nat := (b / 2 &&& 85) + (b &&& 85)
def s2 (b : Nat) : Nat := (b / 4 &&& 51) + (b &&& 51)
def s3 (b : Nat) : Nat := (b / 16 + b) &&& 15

set_option maxRecDepth 100000 in
theorem byte1 : ∀ b, b < 256 → ∀ t, t < 2 → (128 * t + b / 2) &&& 85 = b / 2 &&& 85 := by decide +kernel
set_option maxRecDepth 100000 in
theorem byte2 : ∀ b, b < 256 → ∀ t, t < 4 → (64 * t + b / 4) &&& 51 = b / 4 &&& 51 := by decide +kernel
set_option maxRecDepth 100000 in
theorem byte3 : ∀ b, b < 69 → ∀ t, t < 5 → (16 * t + (b / 16 + b)) &&& 15 = (b / 16 + b) &&& 15 := by decide +kernel
set_option maxRecDepth 100000 in
theorem byte_pc : ∀ b, b < 256 → s1 b < 256 ∧ s2 (s1 b) < 69 ∧ s2 (s1 b) % 16 < 5 ∧ s3 (s2 (s1 b)) = pc b 8 := by decide +kernel

def B : List Nat → Nat
  | [] => 0
  | b :: l => 256 * B l + b

theorem B_add (f g : Nat → Nat) (l : List Nat) : B (l.map f) + B (l.map g) = B (l.map fun b => f b + g b) := by
  induction l with
  | nil => rfl
  | cons b l ih => simp only [List.map_cons, B]; omega

theorem B_and (c : Nat) (hc : c < 256) (l : List Nat) (h : ∀ b ∈ l, b < 256) : B l &&& B (List.replicate l.length c) = B (l.map (· &&& c)) := by
  induction l with
  | nil => simp [B]
  | cons b l ih =>
    simp only [List.length_cons, List.replicate_succ, List.map_cons, B]
    rw [and_byte _ _ _ _ (h b (by simp)) hc, ih (fun x hx => h x (by simp [hx]))]

theorem B_1 (l : List Nat) (h : ∀ b ∈ l, b < 256) : (B l / 2) &&& B (List.replicate l.length 85) = B (l.map fun b => b / 2 &&& 85) := by
  induction l with
  | nil => rfl
  | cons b l ih =>
    have hb := h b (by simp)
    simp only [List.length_cons, List.replicate_succ, List.map_cons, B]
    rw [show (256 * B l + b) / 2 = 256 * (B l / 2) + (128 * (B l % 2) + b / 2) by omega, and_byte _ _ _ _ (by omega) (by omega), ih (fun x hx => h x (by simp [hx])), byte1 b hb _ (by omega)]

theorem B_2 (l : List Nat) (h : ∀ b ∈ l, b < 256) : (B l / 4) &&& B (List.replicate l.length 51) = B (l.map fun b => b / 4 &&& 51) := by
  induction l with
  | nil => rfl
  | cons b l ih =>
    have hb := h b (by simp)
    simp only [List.length_cons, List.replicate_succ, List.map_cons, B]
    rw [show (256 * B l + b) / 4 = 256 * (B l / 4) + (64 * (B l % 4) + b / 4) by omega, and_byte _ _ _ _ (by omega) (by omega), ih (fun x hx => h x (by simp [hx])), byte2 b hb _ (by omega)]

theorem B_mod (l : List Nat) (h : ∀ b ∈ l, b < 69 ∧ b % 16 < 5) : B l % 16 < 5 := by
  cases l with
  | nil => simp [B]
  | cons b l => have := h b (by simp); simp only [B]; omega

theorem B_3 (l : List Nat) (h : ∀ b ∈ l, b < 69 ∧ b % 16 < 5) : (B l / 16 + B l) &&& B (List.replicate l.length 15) = B (l.map s3) := by
  induction l with
  | nil => rfl
  | cons b l ih =>
    have hb := h b (by simp)
    have hm := B_mod l (fun x hx => h x (by simp [hx]))
    simp only [List.length_cons, List.replicate_succ, List.map_cons, B]
    rw [show (256 * B l + b) / 16 + (256 * B l + b) = 256 * (B l / 16 + B l) + (16 * (B l % 16) + (b / 16 + b)) by omega, and_byte _ _ _ _ (by omega) (by omega), ih (fun x hx => h x (by simp [hx])), byte3 b hb.1 _ hm]
    rfl

theorem B_pc (l : List Nat) (h : ∀ b ∈ l, b < 256) : pc (B l) (8 * l.length) = (l.map (pc · 8)).sum := by
  induction l with
  | nil => rfl
  | cons b l ih =>
    have hb := h b (by simp)
    rw [show 8 * (b :: l).length = 8 + 8 * l.length by simp; omega, pc_add]
    simp only [B, List.map_cons, List.sum_cons]
    rw [show (256 * B l + b) / 2 ^ 8 = B l by omega, ih (fun x hx => h x (by simp [hx])), ← pc_mod (256 * B l + b), show (256 * B l + b) % 2 ^ 8 = b by omega]

theorem bytes (n : Nat) : ∀ x, x < 256 ^ n → ∃ l : List Nat, l.length = n ∧ (∀ b ∈ l, b < 256) ∧ B l = x := by
  induction n with
  | zero => intro x h; exact ⟨[], rfl, by simp, by simp at h; simp [B, h]⟩
  | succ n ih =>
    intro x h
    obtain ⟨l, h1, h2, h3⟩ := ih (x / 256) (by rw [Nat.pow_succ] at h; omega)
    exact ⟨x % 256 :: l, by simp [h1], by simp; exact ⟨by omega, h2⟩, by simp only [B, h3]; omega⟩

theorem fold8 (p0 p1 p2 p3 p4 p5 p6 p7 x3 x4 x5 x6 : Nat) (hle : p0 ≤ 8 ∧ p1 ≤ 8 ∧ p2 ≤ 8 ∧ p3 ≤ 8 ∧ p4 ≤ 8 ∧ p5 ≤ 8 ∧ p6 ≤ 8 ∧ p7 ≤ 8)
    (h3 : x3 = 256 * (256 * (256 * (256 * (256 * (256 * (256 * p7 + p6) + p5) + p4) + p3) + p2) + p1) + p0)
    (h4 : x4 = x3 + x3 / 256) (h5 : x5 = x4 + x4 / 65536) (h6 : x6 = x5 + x5 / 4294967296) :
    x6 < 9223372036854775808 ∧ x6 % 128 = p0 + (p1 + (p2 + (p3 + (p4 + (p5 + (p6 + p7)))))) := by
  have q4 : x3 / 256 = 256 * (256 * (256 * (256 * (256 * (256 * p7 + p6) + p5) + p4) + p3) + p2) + p1 := by omega
  rw [q4] at h4
  clear q4
  subst h3
  have q5 : x4 / 65536 = 256 * (256 * (256 * (256 * (256 * p7 + (p6 + p7)) + (p5 + p6)) + (p4 + p5)) + (p3 + p4)) + (p2 + p3) := by omega
  rw [q5] at h5
  clear q5
  subst h4
  have q6 : x5 / 4294967296 = 256 * (256 * (256 * p7 + (p6 + p7)) + (p5 + p6 + p7)) + (p4 + p5 + p6 + p7) := by omega
  rw [q6] at h6
  clear q6
  subst h5
  omega

/-- **math/bits.OnesCount64's own reckoning, on plain numbers.** -/
theorem ones (x : Nat) (hx : x < 18446744073709551616) : ∃ x1 x2 x3 : Nat, x1 = (x / 2 &&& 6148914691236517205) + (x &&& 6148914691236517205) ∧ x1 < 18446744073709551616 ∧
    x2 = (x1 / 4 &&& 3689348814741910323) + (x1 &&& 3689348814741910323) ∧ x2 < 18446744073709551616 ∧ x2 / 16 + x2 < 18446744073709551616 ∧
    x3 = (x2 / 16 + x2) &&& 1085102592571150095 ∧ x3 ≤ 578721382704613384 ∧
    (∀ x4 x5 x6 : Nat, x4 = x3 + x3 / 256 → x5 = x4 + x4 / 65536 → x6 = x5 + x5 / 4294967296 → x6 < 9223372036854775808 ∧ x6 % 128 = pc x 64) := by
  obtain ⟨l, hl, hb, rfl⟩ := bytes 8 x (by simpa using hx)
  have m85 : 6148914691236517205 = B (List.replicate l.length 85) := by rw [hl]; rfl
  have m51 : 3689348814741910323 = B (List.replicate l.length 51) := by rw [hl]; rfl
  have m15 : 1085102592571150095 = B (List.replicate l.length 15) := by rw [hl]; rfl
  have e1 : (B l / 2 &&& 6148914691236517205) + (B l &&& 6148914691236517205) = B (l.map s1) := by rw [m85, B_1 l hb, B_and 85 (by omega) l hb, B_add]; rfl
  have h1 : ∀ b ∈ l.map s1, b < 256 := by simp; exact fun b h => (byte_pc b (hb b h)).1
  have e2 : (B (l.map s1) / 4 &&& 3689348814741910323) + (B (l.map s1) &&& 3689348814741910323) = B ((l.map s1).map s2) := by
    rw [m51, show l.length = (l.map s1).length by simp, B_2 _ h1, B_and 51 (by omega) _ h1, B_add]; rfl
  have h2 : ∀ b ∈ (l.map s1).map s2, b < 69 ∧ b % 16 < 5 := by simp; exact fun b h => ⟨(byte_pc b (hb b h)).2.1, (byte_pc b (hb b h)).2.2.1⟩
  have e3 : (B ((l.map s1).map s2) / 16 + B ((l.map s1).map s2)) &&& 1085102592571150095 = B (l.map (pc · 8)) := by
    rw [m15, show l.length = ((l.map s1).map s2).length by simp, B_3 _ h2]
    congr 1
    simp only [List.map_map]
    exact List.map_congr_left fun b h => (byte_pc b (hb b h)).2.2.2
  have hp := B_pc l hb
  rw [hl] at hp
  have hle : ∀ b ∈ l, pc b 8 ≤ 8 := fun b _ => pc_le b 8
  refine ⟨_, _, _, rfl, ?_, rfl, ?_, ?_, rfl, ?_, ?_⟩
  all_goals simp only [e1, e2, e3]
  all_goals clear e1 e2 e3 m85 m51 m15
  all_goals rw [show 8 * 8 = 64 from rfl] at hp
  all_goals
    match l, hl with
    | [b0, b1, b2, b3, b4, b5, b6, b7], _ => ?_
  all_goals simp only [List.map_cons, List.map_nil, B, List.sum_cons, List.sum_nil, List.forall_mem_cons] at *
  all_goals generalize B [b0, b1, b2, b3, b4, b5, b6, b7] = x at *
  · omega
  · omega
  · omega
  · omega
  · intro x4 x5 x6 h4 h5 h6
    generalize pc b0 8 = p0 at *
    generalize pc b1 8 = p1 at *
    generalize pc b2 8 = p2 at *
    generalize pc b3 8 = p3 at *
    generalize pc b4 8 = p4 at *
    generalize pc b5 8 = p5 at *
    generalize pc b6 8 = p6 at *
    generalize pc b7 8 = p7 at *
    clear h1 h2 hb
    rw [hp]
    refine fold8 p0 p1 p2 p3 p4 p5 p6 p7 _ x4 x5 x6 ⟨hle.1, hle.2.1, hle.2.2.1, hle.2.2.2.1, hle.2.2.2.2.1, hle.2.2.2.2.2.1, hle.2.2.2.2.2.2.1, hle.2.2.2.2.2.2.2.1⟩ (by omega) h4 h5 h6

/-! ### The lowest one -/
theorem odd_form : ∀ (n x : Nat), x ≠ 0 → x < 2 ^ n → ∃ t m, t < n ∧ x = 2 ^ t * (2 * m + 1) := by
  intro n
  induction n with
  | zero => intro x h0 h; simp at h; omega
  | succ n ih =>
    intro x h0 h
    by_cases he : x % 2 = 0
    · obtain ⟨t, m, ht, hx⟩ := ih (x / 2) (by omega) (by rw [Nat.pow_succ] at h; omega)
      refine ⟨t + 1, m, by omega, ?_⟩
      rw [Nat.pow_succ, Nat.mul_comm (2 ^ t) 2, Nat.mul_assoc, ← hx]
      omega
    · exact ⟨0, x / 2, by omega, by simp; omega⟩

theorem testBit_form (t m j : Nat) : (2 ^ t * (2 * m + 1)).testBit j = (decide (t ≤ j) && (2 * m + 1).testBit (j - t)) := by
  rw [Nat.testBit_two_pow_mul]

theorem low_bit (t m : Nat) : (2 ^ t * (2 * m + 1)).testBit t = true := by
  rw [testBit_form]; simp [Nat.testBit_zero]
theorem low_below (t m j : Nat) (h : j < t) : (2 ^ t * (2 * m + 1)).testBit j = false := by
  rw [testBit_form]; simp; omega

theorem low_and (t m : Nat) (ht : t < 64) (hx : 2 ^ t * (2 * m + 1) < 2 ^ 64) : 2 ^ t * (2 * m + 1) &&& (2 ^ 64 - 2 ^ t * (2 * m + 1)) = 2 ^ t := by
  apply Nat.eq_of_testBit_eq
  intro j
  have hpos : 0 < 2 ^ t * (2 * m + 1) := Nat.mul_pos (Nat.two_pow_pos t) (by omega)
  obtain ⟨y, hy⟩ : ∃ y, 2 ^ t * (2 * m + 1) = y + 1 := ⟨2 ^ t * (2 * m + 1) - 1, by omega⟩
  rw [hy, Nat.testBit_and, Nat.testBit_two_pow_sub_succ (by omega), Nat.testBit_two_pow]
  -- y = 2 ^ t * (2 * m) + (2 ^ t - 1)
  have hy2 : y = 2 ^ t * (2 * m) + (2 ^ t - 1) := by
    have := Nat.two_pow_pos t
    rw [Nat.mul_add, Nat.mul_one] at hy
    omega
  have hyb : y.testBit j = if j < t then true else (2 * m).testBit (j - t) := by
    have hlt : 2 ^ t - 1 < 2 ^ t := by have := Nat.two_pow_pos t; omega
    rw [hy2, Nat.testBit_two_pow_mul_add _ hlt]
    by_cases hj : j < t
    · simp [hj]
    · simp [hj]
  rw [← hy, testBit_form, hyb]
  by_cases hj : j < t
  · simp [hj]; omega
  · by_cases hj2 : j = t
    · subst hj2; simp [Nat.testBit_zero, ht]
    · have : (2 * m).testBit (j - t) = (2 * m + 1).testBit (j - t) := by
        obtain ⟨k, hk⟩ : ∃ k, j - t = k + 1 := ⟨j - t - 1, by omega⟩
        rw [hk, Nat.testBit_succ, Nat.testBit_succ]
        congr 1; omega
      rw [this]
      have hne : ¬ t = j := by omega
      simp only [hj, if_false, hne, decide_false]
      cases (2 * m + 1).testBit (j - t) <;> simp

theorem low_and_lit (t m x : Nat) (ht : t < 64) (hx : x < 18446744073709551616) (hxe : x = 2 ^ t * (2 * m + 1)) : x &&& (18446744073709551616 - x) = 2 ^ t := by
  have e : (18446744073709551616 : Nat) = 2 ^ 64 := by decide
  rw [e] at hx ⊢
  subst hxe
  exact low_and t m ht hx

theorem pred_and (t m : Nat) : 2 ^ t * (2 * m + 1) &&& (2 ^ t * (2 * m + 1) - 1) = 2 ^ t * (2 * m) := by
  apply Nat.eq_of_testBit_eq
  intro j
  have hlt : 2 ^ t - 1 < 2 ^ t := by have := Nat.two_pow_pos t; omega
  have hy2 : 2 ^ t * (2 * m + 1) - 1 = 2 ^ t * (2 * m) + (2 ^ t - 1) := by
    have := Nat.two_pow_pos t
    rw [Nat.mul_add, Nat.mul_one]
    omega
  rw [hy2, Nat.testBit_and, testBit_form, Nat.testBit_two_pow_mul_add _ hlt, Nat.testBit_two_pow_mul]
  by_cases hj : j < t
  · simp [hj, show ¬ t ≤ j by omega]
  · by_cases hj2 : j = t
    · subst hj2; simp [Nat.testBit_zero]
    · have : (2 * m).testBit (j - t) = (2 * m + 1).testBit (j - t) := by
        obtain ⟨k, hk⟩ : ∃ k, j - t = k + 1 := ⟨j - t - 1, by omega⟩
        rw [hk, Nat.testBit_succ, Nat.testBit_succ]
        congr 1; omega
      simp only [hj, if_false, this]
      cases (2 * m + 1).testBit (j - t) <;> simp

def deB : List Nat := [0, 1, 56, 2, 57, 49, 28, 3, 61, 58, 42, 50, 38, 29, 17, 4, 62, 47, 59, 36, 45, 43, 51, 22, 53, 39, 33, 30, 24, 18, 12, 5, 63, 55, 48, 27, 60, 41, 37, 16, 46, 35, 44, 21, 52, 32, 23, 11, 54, 26, 40, 15, 34, 20, 31, 10, 25, 14, 19, 9, 13, 8, 7, 6]
theorem deB_tz : ∀ t, t < 64 → 2 ^ t * 285870213051353865 % 18446744073709551616 / 288230376151711744 < 64 ∧ deB[2 ^ t * 285870213051353865 % 18446744073709551616 / 288230376151711744]? = some t := by decide +kernel

/-! ### Sets -/
/-- The word of those that f holds of, of the numbers from 64 * i on. -/
def wordTo (f : Nat → Bool) (i : Nat) : Nat → Nat
  | 0 => 0
  | k + 1 => wordTo f i k + if f (64 * i + k) then 2 ^ k else 0
def word (f : Nat → Bool) (i : Nat) : Nat := wordTo f i 64

theorem wordTo_lt (f : Nat → Bool) (i k : Nat) : wordTo f i k < 2 ^ k := by
  induction k with
  | zero => simp [wordTo]
  | succ k ih => simp only [wordTo, Nat.pow_succ]; split <;> omega

theorem testBit_wordTo (f : Nat → Bool) (i : Nat) : ∀ k j, (wordTo f i k).testBit j = (decide (j < k) && f (64 * i + j)) := by
  intro k
  induction k with
  | zero => simp [wordTo]
  | succ k ih =>
    intro j
    have hlt := wordTo_lt f i k
    simp only [wordTo]
    have e : (wordTo f i k + if f (64 * i + k) then 2 ^ k else 0) = 2 ^ k * (f (64 * i + k)).toNat + wordTo f i k := by
      cases f (64 * i + k) <;> simp [Nat.add_comm]
    rw [e, Nat.testBit_two_pow_mul_add _ hlt, ih]
    by_cases hj : j < k
    · simp [hj]; omega
    · by_cases hj2 : j = k
      · subst hj2; cases f (64 * i + j) <;> simp
      · have h1 : ¬ j < k + 1 := by omega
        simp only [hj, if_false, h1, decide_false, Bool.false_and]
        obtain ⟨d, hd⟩ : ∃ d, j - k = d + 1 := ⟨j - k - 1, by omega⟩
        rw [hd, Nat.testBit_succ]
        cases f (64 * i + k) <;> simp

theorem word_lt (f : Nat → Bool) (i : Nat) : word f i < 2 ^ 64 := wordTo_lt f i 64
theorem word_le (f : Nat → Bool) (i : Nat) : word f i ≤ 18446744073709551615 := by have := word_lt f i; omega
theorem testBit_word (f : Nat → Bool) (i j : Nat) : (word f i).testBit j = (decide (j < 64) && f (64 * i + j)) := testBit_wordTo f i 64 j

theorem word_ext {f g : Nat → Bool} {i : Nat} (h : ∀ j, j < 64 → f (64 * i + j) = g (64 * i + j)) : word f i = word g i := by
  apply Nat.eq_of_testBit_eq
  intro j
  rw [testBit_word, testBit_word]
  by_cases hj : j < 64
  · simp [hj, h j hj]
  · simp [hj]
theorem eq_word {x : Nat} {f : Nat → Bool} {i : Nat} (hx : x < 2 ^ 64) (h : ∀ j, j < 64 → x.testBit j = f (64 * i + j)) : x = word f i := by
  apply Nat.eq_of_testBit_eq
  intro j
  rw [testBit_word]
  by_cases hj : j < 64
  · simp [hj, h j hj]
  · rw [Nat.testBit_lt_two_pow (Nat.lt_of_lt_of_le hx (Nat.pow_le_pow_right (by omega) (by omega)))]; simp [hj]

def ins (f : Nat → Bool) (n : Int) : Nat → Bool := fun k => f k || decide ((k : Int) = n)
def del (f : Nat → Bool) (n : Int) : Nat → Bool := fun k => f k && !decide ((k : Int) = n)
def orF (f g : Nat → Bool) : Nat → Bool := fun k => f k || g k
def minusF (f g : Nat → Bool) : Nat → Bool := fun k => f k && !g k
def belowF (n : Int) : Nat → Bool := fun k => decide ((k : Int) < n)
def noneF : Nat → Bool := fun _ => false

theorem word_or (f g : Nat → Bool) (i : Nat) : word f i ||| word g i = word (orF f g) i :=
  eq_word (Nat.or_lt_two_pow (word_lt f i) (word_lt g i)) fun j hj => by simp [testBit_word, hj, orF]
theorem word_ins (f : Nat → Bool) (k : Nat) : word f (k / 64) ||| 2 ^ (k % 64) = word (ins f k) (k / 64) :=
  eq_word (Nat.or_lt_two_pow (word_lt f _) (Nat.pow_lt_pow_right (by omega) (Nat.mod_lt _ (by omega)))) fun j hj => by
    have : (64 * (k / 64) + j = k) ↔ k % 64 = j := by omega
    simp only [Nat.testBit_or, testBit_word, hj, decide_true, Bool.true_and, ins, Nat.testBit_two_pow, Int.natCast_inj, this]
theorem word_ins_other (f : Nat → Bool) (k i : Nat) (h : i ≠ k / 64) : word (ins f k) i = word f i :=
  word_ext fun j hj => by
    have : ¬ 64 * i + j = k := by omega
    simp only [ins, Int.natCast_inj, this, decide_false, Bool.or_false]
theorem word_ins_far (f : Nat → Bool) (n : Int) (i : Nat) (hi : i < 16) (h : n < 0 ∨ 1024 ≤ n) : word (ins f n) i = word f i :=
  word_ext fun j hj => by
    have : ¬ ((64 * i + j : Nat) : Int) = n := by omega
    simp only [ins, this, decide_false, Bool.or_false]
theorem word_del_other (f : Nat → Bool) (k i : Nat) (h : i ≠ k / 64) : word (del f k) i = word f i :=
  word_ext fun j hj => by
    have : ¬ 64 * i + j = k := by omega
    simp only [del, Int.natCast_inj, this, decide_false, Bool.not_false, Bool.and_true]
theorem word_del_far (f : Nat → Bool) (n : Int) (i : Nat) (hi : i < 16) (h : n < 0 ∨ 1024 ≤ n) : word (del f n) i = word f i :=
  word_ext fun j hj => by
    have : ¬ ((64 * i + j : Nat) : Int) = n := by omega
    simp only [del, this, decide_false, Bool.not_false, Bool.and_true]
/-- and-not, on 64 bits. -/
theorem andNot_word (f : Nat → Bool) (x i : Nat) (hx : x < 2 ^ 64) : word f i &&& (2 ^ 64 - 1 - x) = word (fun k => f k && !(x.testBit (k - 64 * i))) i :=
  eq_word (Nat.lt_of_le_of_lt Nat.and_le_left (word_lt f i)) fun j hj => by
    rw [Nat.testBit_and, testBit_word, show 2 ^ 64 - 1 - x = 2 ^ 64 - (x + 1) by omega, Nat.testBit_two_pow_sub_succ hx]
    simp [hj, Nat.add_sub_cancel_left]
theorem word_minus (f g : Nat → Bool) (i : Nat) : word f i &&& (2 ^ 64 - 1 - word g i) = word (minusF f g) i := by
  rw [andNot_word f _ i (word_lt g i)]
  exact word_ext fun j hj => by simp [testBit_word, hj, minusF, Nat.add_sub_cancel_left]
theorem word_del (f : Nat → Bool) (k : Nat) : word f (k / 64) &&& (2 ^ 64 - 1 - 2 ^ (k % 64)) = word (del f k) (k / 64) := by
  rw [andNot_word f _ _ (Nat.pow_lt_pow_right (by omega) (Nat.mod_lt _ (by omega)))]
  refine word_ext fun j hj => ?_
  have : (64 * (k / 64) + j = k) ↔ k % 64 = j := by omega
  simp only [Nat.add_sub_cancel_left, Nat.testBit_two_pow, del, Int.natCast_inj, this]
theorem word_has (f : Nat → Bool) (k : Nat) : (word f (k / 64) &&& 2 ^ (k % 64)) = if f k then 2 ^ (k % 64) else 0 := by
  apply Nat.eq_of_testBit_eq
  intro j
  rw [Nat.testBit_and, testBit_word, Nat.testBit_two_pow]
  by_cases h : k % 64 = j
  · subst h
    have e : 64 * (k / 64) + k % 64 = k := by omega
    rw [e]
    have : k % 64 < 64 := by omega
    cases f k <;> simp [this]
  · have h2 : (if f k then 2 ^ (k % 64) else 0).testBit j = false := by
      cases f k <;> simp [h]
    rw [h2]; simp [h]
theorem word_below (n : Nat) (i : Nat) : word (belowF n) i = if 64 * i + 64 ≤ n then 2 ^ 64 - 1 else if n ≤ 64 * i then 0 else 2 ^ (n - 64 * i) - 1 := by
  symm
  refine eq_word ?_ fun j hj => ?_
  · split
    · omega
    · split
      · omega
      · have := Nat.pow_lt_pow_right (a := 2) (by omega) (show n - 64 * i < 64 by omega); omega
  · simp only [belowF]
    split
    · rw [show (2 : Nat) ^ 64 - 1 = 2 ^ 64 - (0 + 1) from rfl, Nat.testBit_two_pow_sub_succ (by omega)]
      simp [hj]; omega
    · split
      · simp; omega
      · rw [Nat.testBit_two_pow_sub_one]
        simp only [decide_eq_decide]; omega
end Go.Proofs.Ytapeklpnjckfkaa
