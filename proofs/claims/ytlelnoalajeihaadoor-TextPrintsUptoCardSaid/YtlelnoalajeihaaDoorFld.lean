/- Fields as they are written, read back: plain facts. -/
import Derived.Test.YtlelnoalajeihaaDoorCut
import Derived.Test.YtlelnoalajeihaaDoorDig
namespace Go.Proofs.YtlelnoalajeihaaDoor
open Go.RowKit
set_option linter.unusedVariables false

theorem dig_is : ∀ d, d < 10 → dgt (UInt8.ofNat (48 + d)) = true ∧ (UInt8.ofNat (48 + d)).toNat - 48 = d := by decide +kernel
theorem val_snoc (l : List UInt8) (c : UInt8) : valOf (l ++ [c]) = valOf l * 10 + (c.toNat - 48) := by simp [valOf]
theorem dec_digits : ∀ (n N : Nat), N ≤ n → (∀ c ∈ Lib.decDigits N, dgt c = true) ∧ valOf (Lib.decDigits N) = N ∧ Lib.decDigits N ≠ [] := by
  intro n
  induction n with
  | zero =>
    intro N h
    obtain rfl : N = 0 := by omega
    obtain ⟨d1, d2⟩ := dig_is 0 (by omega)
    rw [dec_step]
    have e : dg0 (0 / 10) = [] := rfl
    rw [e, List.nil_append]
    refine ⟨?_, ?_, by simp⟩
    · intro c hc
      obtain rfl := List.mem_singleton.1 hc
      exact d1
    · show valOf ([] ++ [UInt8.ofNat (48 + 0 % 10)]) = 0
      rw [val_snoc]
      simp [valOf]
  | succ n ih =>
    intro N h
    obtain ⟨d1, d2⟩ := dig_is (N % 10) (by omega)
    rw [dec_step]
    have key : (∀ c ∈ dg0 (N / 10), dgt c = true) ∧ valOf (dg0 (N / 10)) = N / 10 := by
      unfold dg0
      by_cases h0 : N / 10 = 0
      · rw [if_pos h0, h0]; exact ⟨by simp, rfl⟩
      · rw [if_neg h0]
        have := ih (N / 10) (by omega)
        exact ⟨this.1, this.2.1⟩
    refine ⟨?_, ?_, by simp⟩
    · intro c hc
      rcases List.mem_append.1 hc with hc | hc
      · exact key.1 c hc
      · obtain rfl := List.mem_singleton.1 hc
        exact d1
    · rw [val_snoc, key.2, d2]; omega
/-- No digit comes next. -/
def Stop (rest : List UInt8) : Prop := ∀ c r, rest = c :: r → dgt c = false
theorem Stop.nil : Stop [] := fun c r h => by cases h
theorem Stop.cons {c : UInt8} (r : List UInt8) (h : dgt c = false) : Stop (c :: r) := fun c' r' e => by cases e; exact h
theorem run_digits : ∀ (l : List UInt8), (∀ c ∈ l, dgt c = true) → ∀ rest, Stop rest → runLen 2 (l ++ rest) = l.length
  | [], _, rest, hs => by
    cases rest with
    | nil => rfl
    | cons c r => rw [List.nil_append, runLen, goes_2, if_neg (by rw [hs c r rfl]; simp)]; rfl
  | c :: l, h, rest, hs => by
    rw [List.cons_append, runLen, goes_2, if_pos (h c (by simp)), run_digits l (fun d hd => h d (by simp [hd])) rest hs]
    rfl
theorem run_3 (l : List UInt8) : runLen 3 l = 0 := by
  cases l with
  | nil => rfl
  | cons c r => rw [runLen, if_neg (by rw [goes_3]; simp)]
theorem run_1eq (l : List UInt8) : runLen 1 (61 :: l) = 0 := by
  rw [runLen, if_neg (by decide)]
theorem word_one : ∀ k, k < 6 → ∃ c, wordAt k = [c] ∧ kind c = 1 := by
  intro k hk
  rcases (by omega : k = 0 ∨ k = 1 ∨ k = 2 ∨ k = 3 ∨ k = 4 ∨ k = 5) with rfl | rfl | rfl | rfl | rfl | rfl <;> exact ⟨_, rfl, by decide +kernel⟩
/-- A field, with what may stand behind it. -/
def seg (k N : Nat) (g : List UInt8) : List UInt8 := 32 :: (wordAt k ++ 61 :: (Lib.decDigits N ++ g))
/-- Blanks behind a field. -/
def Gap (g : List UInt8) : Prop := (∀ c ∈ g, blank c = true) ∧ ∀ rest, Stop rest → Stop (g ++ rest)
theorem gap_nil : Gap [] := ⟨by simp, fun _ h => h⟩
theorem gap_two : Gap [9, 32] := ⟨by decide, fun _ _ => Stop.cons _ (by decide)⟩
theorem seg_pcs {k N : Nat} {g : List UInt8} (hk : k < 6) (hN : N ≤ 1099511627776) (hg : Gap g) (a : Nat) (rest : List UInt8) (hs : Stop rest) :
    ∃ x y z b, pcs a (seg k N g ++ rest) = x :: y :: z :: pcs b rest ∧ x.k = 1 ∧ x.t = wordAt k ∧ y.k = 3 ∧ z.k = 2 ∧ z.n = N := by
  obtain ⟨c, hw, hc⟩ := word_one k hk
  obtain ⟨g1, g2, g3⟩ := dec_digits N N (Nat.le_refl _)
  obtain ⟨d, r, hd⟩ : ∃ d r, Lib.decDigits N = d :: r := by
    cases h : Lib.decDigits N with
    | nil => exact absurd h g3
    | cons d r => exact ⟨d, r, rfl⟩
  rw [hd] at g1 g2
  have hkd := kind_of_dgt (g1 d (by simp))
  have hr := run_digits r (fun x hx => g1 x (by simp [hx])) (g ++ rest) (hg.2 rest hs)
  have e : seg k N g ++ rest = 32 :: c :: 61 :: d :: (r ++ (g ++ rest)) := by
    rw [seg, hw, hd]; simp
  refine ⟨⟨1, a + 1, [c], 0⟩, ⟨3, a + 1 + 1, [61], 0⟩, ⟨2, a + 1 + 1 + 1, d :: r, N⟩, a + 1 + 1 + 1 + 1 + r.length + g.length, ?_, rfl, hw.symm, rfl, rfl, rfl⟩
  have h61 : kind 61 = 3 := by decide +kernel
  have t1 : tkOf (a + 1) c (61 :: d :: (r ++ (g ++ rest))) = ⟨1, a + 1, [c], 0⟩ := by
    rw [tkOf, hc, run_1eq]; rfl
  have t2 : tkOf (a + 1 + 1) 61 (d :: (r ++ (g ++ rest))) = ⟨3, a + 1 + 1, [61], 0⟩ := by
    rw [tkOf, h61, run_3]; rfl
  have t3 : tkOf (a + 1 + 1 + 1) d (r ++ (g ++ rest)) = ⟨2, a + 1 + 1 + 1, d :: r, N⟩ := by
    rw [tkOf, hkd, hr, List.take_left, if_pos rfl, num_val, g2, Nat.min_eq_left hN]
  rw [e, pcs_blank (by rfl), pcs_tok (by rw [hc]; decide), t1, hc, run_1eq, List.drop_zero, Nat.add_zero, pcs_tok (by rw [h61]; decide), t2, h61, run_3, List.drop_zero, Nat.add_zero, pcs_tok (by rw [hkd]; decide), t3, hkd, hr, List.drop_left, pcs_blanks g hg.1]
/-- Fields, one behind the other. -/
def body (num : Nat → Nat) (g : List UInt8) (K : List Nat) : List UInt8 := K.flatMap fun k => seg k (num k) g
theorem body_cons (num : Nat → Nat) (g : List UInt8) (k : Nat) (K : List Nat) : body num g (k :: K) = seg k (num k) g ++ body num g K := rfl
theorem body_stop (num : Nat → Nat) (g : List UInt8) (K : List Nat) {rest : List UInt8} (h : Stop rest) : Stop (body num g K ++ rest) := by
  cases K with
  | nil => exact h
  | cons k K => rw [body_cons]; exact Stop.cons _ (by decide)
theorem body_fields {num : Nat → Nat} {g : List UInt8} (hg : Gap g) : ∀ (K : List Nat) (F : Fl), K.Nodup → (∀ k ∈ K, k < 6 ∧ F k = none ∧ num k ≤ 1099511627776) → ∀ (a : Nat) (rest : List UInt8), Stop rest →
    ∃ T b, pcs a (body num g K ++ rest) = T ++ pcs b rest ∧ (∀ y ∈ T, y.k ≠ 0) ∧ ∀ Z, fieldsS (T ++ Z) F = fieldsS Z (fun i => if i ∈ K then some (num i) else F i)
  | [], F, _, _, a, rest, _ => ⟨[], a, rfl, by simp, fun Z => by simp⟩
  | k :: K, F, hn, hK, a, rest, hs => by
    obtain ⟨hk1, hk2, hk3⟩ := hK k (by simp)
    obtain ⟨hn1, hn2⟩ := List.nodup_cons.1 hn
    obtain ⟨x, y, z, b, h1, h2, h3, h4, h5, h6⟩ := seg_pcs hk1 hk3 hg a (body num g K ++ rest) (body_stop num g K hs)
    have hF : ∀ k' ∈ K, k' < 6 ∧ fset F k (num k) k' = none ∧ num k' ≤ 1099511627776 := fun k' hk' => by
      obtain ⟨j1, j2, j3⟩ := hK k' (by simp [hk'])
      exact ⟨j1, by rw [fset_other F (num k) (fun e => hn1 (by rw [← e]; exact hk'))]; exact j2, j3⟩
    obtain ⟨T, b', e1, e2, e3⟩ := body_fields hg K (fset F k (num k)) hn2 hF b rest hs
    refine ⟨x :: y :: z :: T, b', ?_, ?_, fun Z => ?_⟩
    · rw [body_cons, List.append_assoc, h1, e1]; rfl
    · intro w hw
      simp only [List.mem_cons] at hw
      rcases hw with rfl | rfl | rfl | hw
      · omega
      · omega
      · omega
      · exact e2 w hw
    · rw [List.cons_append, List.cons_append, List.cons_append, fieldsS_go (k := k) (by omega) (by rw [h3]; exact fieldIx_word k hk1) (by rw [hk2]; rfl) h4 h5, h6, e3]
      congr 1
      funext i
      by_cases hi : i ∈ K
      · simp [hi]
      · by_cases hik : i = k
        · subst hik; simp [hi, fset]
        · simp [hi, hik, fset]
/-- A word ahead of a blank. -/
theorem word_pcs {c : UInt8} {r : List UInt8} (hk : kind c = 1) (hr : runLen 1 r = r.length) (a : Nat) (rest : List UInt8) : pcs a ((c :: r) ++ 32 :: rest) = ⟨1, a, c :: r, 0⟩ :: pcs (a + 1 + r.length) (32 :: rest) := by
  have hr2 := runLen_stop hr rest
  rw [List.cons_append, pcs_tok (by rw [hk]; decide), hk, hr2, List.drop_left, tkOf, hk, hr2, List.take_left]
  rfl
/-- A task's line: all that its tokens are. -/
theorem line_pcs {c : UInt8} {r : List UInt8} (hk : kind c = 1) (hr : runLen 1 r = r.length) {num : Nat → Nat} {g : List UInt8} (hg : Gap g) {k : Nat} {K : List Nat} (hn : (k :: K).Nodup) (hK : ∀ i ∈ k :: K, i < 6 ∧ num i ≤ 1099511627776) (a : Nat) (rest : List UInt8) (hs : Stop rest) :
    ∃ x y T b, pcs a ([116, 97, 115, 107, 32] ++ ((c :: r) ++ (body num g (k :: K) ++ rest))) = x :: y :: (T ++ pcs b rest) ∧ x.k = 1 ∧ x.t = taskW ∧ y.k = 1 ∧ y.t = c :: r ∧ (∀ z ∈ T, z.k ≠ 0) ∧ ∀ Z, fieldsS (T ++ Z) fnone = fieldsS Z (fun i => if i ∈ k :: K then some (num i) else none) := by
  obtain ⟨T, b, e1, e2, e3⟩ := body_fields hg (k :: K) fnone hn (fun i hi => ⟨(hK i hi).1, rfl, (hK i hi).2⟩) (a + 1 + 3 + 1 + 1 + r.length) rest hs
  have h32 : ∃ B, body num g (k :: K) ++ rest = 32 :: B := ⟨_, by rw [body_cons, seg]; rfl⟩
  obtain ⟨B, hB⟩ := h32
  refine ⟨⟨1, a, taskW, 0⟩, ⟨1, a + 1 + 3 + 1, c :: r, 0⟩, T, b, ?_, rfl, rfl, rfl, rfl, e2, e3⟩
  rw [← e1, hB]
  have h1 := word_pcs (c := 116) (r := [97, 115, 107]) (by decide +kernel) (by decide +kernel) a ((c :: r) ++ 32 :: B)
  have h2 := word_pcs hk hr (a + 1 + 3 + 1) B
  rw [show [116, 97, 115, 107, 32] ++ ((c :: r) ++ 32 :: B) = ([116, 97, 115, 107] : List UInt8) ++ 32 :: ((c :: r) ++ 32 :: B) from rfl, h1, pcs_blank (by rfl)]
  exact congrArg (List.cons _) h2
end Go.Proofs.YtlelnoalajeihaaDoor
