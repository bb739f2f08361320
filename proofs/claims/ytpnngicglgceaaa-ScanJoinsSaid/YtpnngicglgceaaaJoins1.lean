/- Tokens joined again: plain facts. -/
import Derived.Test.YtpnngicglgceaaaNums
namespace Go.Proofs.Ytpnngicglgceaaa
open Go.RowKit
set_option linter.unusedVariables false

/-- A token as it stands by itself. -/
def Wd (x : Tk) : Prop := ∃ c r, x.t = c :: r ∧ kind c = x.k ∧ x.k ≠ 0 ∧ runLen x.k r = r.length ∧ x.n = if x.k = 2 then numOf x.t else 0
/-- A token without its place. -/
def un (x : Tk) : Tk := { x with at' := 0 }
theorem wd_tkOf {a : Nat} {c : UInt8} {r : List UInt8} (h : kind c ≠ 0) : Wd (tkOf a c r) :=
  ⟨c, r.take (runLen (kind c) r), rfl, rfl, h, runLen_take _ _, rfl⟩
theorem pcs_wd : ∀ (n a : Nat) (l : List UInt8), l.length ≤ n → ∀ y ∈ pcs a l, y.k ≠ 0 → Wd y ∧ y.t.length ≤ l.length := by
  intro n
  induction n with
  | zero => intro a l h y hy; have : l = [] := List.eq_nil_of_length_eq_zero (by omega); subst this; rw [pcs_nil] at hy; simp at hy
  | succ n ih =>
    intro a l h y hy hk0
    cases l with
    | nil => rw [pcs_nil] at hy; simp at hy
    | cons c r =>
      simp only [List.length_cons] at h ⊢
      have hr := runLen_le (kind c) r
      by_cases hb : blank c = true
      · rw [pcs_blank hb] at hy
        have := ih (a + 1) r (by omega) y hy hk0
        exact ⟨this.1, by omega⟩
      · by_cases h35 : c.toNat = 35
        · rw [pcs_hash h35] at hy
          have := ih (a + 1 + noteLen r) (r.drop (noteLen r)) (by simp; omega) y hy hk0
          simp at this
          exact ⟨this.1, by omega⟩
        · by_cases hk : kind c = 0
          · rw [pcs_none (by simpa using hb) h35 hk, List.mem_singleton] at hy
            subst hy
            exact absurd rfl hk0
          · rw [pcs_tok hk, List.mem_cons] at hy
            rcases hy with rfl | hy
            · exact ⟨wd_tkOf hk, by rw [tkOf_len]; omega⟩
            · have := ih (a + 1 + runLen (kind c) r) (r.drop (runLen (kind c) r)) (by simp; omega) y hy hk0
              simp at this
              exact ⟨this.1, by omega⟩
theorem tok_wd {s : ByteArray} {x : Tk} (h : x ∈ tokL s) : Wd x ∧ x.t.length ≤ s.size := by
  have hk : x.k ≠ 0 := by
    have := List.all_takeWhile (p := fun x : Tk => decide (x.k ≠ 0)) (l := pieceL s)
    rw [List.all_eq_true] at this
    simpa using this x h
  have := pcs_wd _ 0 s.data.toList (Nat.le_refl _) x ((toksOf_prefix _).sublist.subset h) hk
  rwa [← Lib.size_eq] at this
theorem toks_size (s : ByteArray) : (tokL s).length ≤ s.size := by
  have h1 := (toksOf_prefix (pieceL s)).length_le
  have h2 := pcs_length _ 0 s.data.toList (Nat.le_refl _)
  rw [← Lib.size_eq] at h2
  exact Nat.le_trans h1 h2

theorem goes_32 (k : Nat) : goes k 32 = false := by simp [goes, dgt, ltr]
theorem pcs_blanks : ∀ (g : List UInt8), (∀ c ∈ g, blank c = true) → ∀ a rest, pcs a (g ++ rest) = pcs (a + g.length) rest
  | [], _, a, rest => rfl
  | c :: g, h, a, rest => by
    rw [List.cons_append, pcs_blank (h c (by simp)), pcs_blanks g (fun d hd => h d (by simp [hd])), List.length_cons]
    congr 1
    omega
theorem runLen_stop {k : Nat} : ∀ {r : List UInt8}, runLen k r = r.length → ∀ rest, runLen k (r ++ 32 :: rest) = r.length
  | [], _, rest => by rw [List.nil_append, runLen, goes_32, if_neg (by simp)]; rfl
  | d :: r, h, rest => by
    unfold runLen at h
    by_cases hg : goes k d = true
    · rw [if_pos hg, List.length_cons] at h
      rw [List.cons_append, runLen, if_pos hg, runLen_stop (by omega) rest]; rfl
    · rw [if_neg hg, List.length_cons] at h; omega
theorem pcs_again {x : Tk} (h : Wd x) (a : Nat) (rest : List UInt8) : ∃ y b, pcs a (x.t ++ 32 :: rest) = y :: pcs b rest ∧ un y = un x ∧ y.k ≠ 0 := by
  obtain ⟨c, r, ht, hk, hk0, hr, hn⟩ := h
  have hr2 := runLen_stop hr rest
  refine ⟨tkOf a c (r ++ 32 :: rest), a + 1 + r.length + 1, ?_, ?_, by rw [show (tkOf a c (r ++ 32 :: rest)).k = kind c from rfl, hk]; exact hk0⟩
  · rw [ht, List.cons_append, pcs_tok (by rw [hk]; exact hk0), hk, hr2, List.drop_left, pcs_blank (by rfl)]
  · unfold un tkOf
    rw [hk, hr2, List.take_left, ← ht, ← hn]
def note : List UInt8 := [35, 32, 97, 32, 61, 32, 49, 32, 35, 44, 32]
theorem pcs_note {rest : List UInt8} (h : rest = [] ∨ rest.head? = some 10) (a : Nat) : pcs a (note ++ rest) = pcs (a + 11) rest := by
  have h0 : noteLen rest = 0 := by
    rcases h with rfl | h
    · rfl
    · cases rest with
      | nil => rfl
      | cons c r =>
        simp only [List.head?_cons, Option.some.injEq] at h
        subst h
        rfl
  have h1 : noteLen ([32, 97, 32, 61, 32, 49, 32, 35, 44, 32] ++ rest) = 10 := by
    simp [noteLen, h0]
  rw [show note ++ rest = 35 :: ([32, 97, 32, 61, 32, 49, 32, 35, 44, 32] ++ rest) from rfl, pcs_hash (by rfl), h1]
  rfl
/-- So far k tokens, and what else is left out. -/
def So (ts : List Tk) (k : Nat) (l : List UInt8) (nb : Bool) : Prop :=
  ∀ rest : List UInt8, (nb = true → rest = [] ∨ rest.head? = some 10) → ∃ ps a, pcs 0 (l ++ rest) = ps ++ pcs a rest ∧ ps.map un = (ts.take k).map un ∧ ∀ y ∈ ps, y.k ≠ 0
theorem So.start (ts : List Tk) : So ts 0 [] false := fun rest _ => ⟨[], 0, rfl, rfl, by simp⟩
theorem So.start9 (ts : List Tk) : So ts 0 [9] false := fun rest _ => ⟨[], 1, by rw [List.singleton_append, pcs_blank (by rfl)]; rfl, rfl, by simp⟩
theorem So.step {ts : List Tk} {k : Nat} {l : List UInt8} {nb : Bool} {x : Tk} (h : So ts k l nb) (hx : ts[k]? = some x) (hw : Wd x) (hn : nb = true → x.k = 4) (g : List UInt8) (hg : ∀ c ∈ g, blank c = true) :
    So ts (k + 1) (l ++ x.t ++ 32 :: g) false := by
  intro rest _
  obtain ⟨ps, a, h1, h2, h3⟩ := h (x.t ++ 32 :: (g ++ rest)) fun e => by
    obtain ⟨c, r, ht, hk, hk0, hr, hn'⟩ := hw
    have h4 := hn e
    have hc : c.toNat = 10 := by
      rw [h4] at hk
      unfold kind at hk
      split at hk
      · omega
      · split at hk
        · omega
        · split at hk
          · omega
          · split at hk
            · assumption
            · omega
    have hc' : c = 10 := UInt8.toNat_inj.1 hc
    exact .inr (by rw [ht, hc']; rfl)
  obtain ⟨y, b, e1, e2, e3⟩ := pcs_again hw a (g ++ rest)
  refine ⟨ps ++ [y], b + g.length, ?_, ?_, ?_⟩
  · rw [show l ++ x.t ++ 32 :: g ++ rest = l ++ (x.t ++ 32 :: (g ++ rest)) by simp, h1, e1, pcs_blanks g hg]; simp
  · rw [List.take_add_one, hx, List.map_append, h2]; simp [e2]
  · intro z hz
    rw [List.mem_append, List.mem_singleton] at hz
    rcases hz with hz | rfl
    · exact h3 z hz
    · exact e3
theorem So.note {ts : List Tk} {k : Nat} {l : List UInt8} (h : So ts k l false) : So ts k (l ++ note) true := by
  intro rest hr
  obtain ⟨ps, a, h1, h2, h3⟩ := h (Proofs.Ytpnngicglgceaaa.note ++ rest) (by simp)
  exact ⟨ps, a + 11, by rw [List.append_assoc, h1, pcs_note (hr rfl)], h2, h3⟩
theorem So.ends {ts : List Tk} {l : List UInt8} {nb : Bool} (h : So ts ts.length l nb) : (tokL (bs l)).map un = ts.map un := by
  obtain ⟨ps, a, h1, h2, h3⟩ := h [] fun _ => .inl rfl
  rw [List.append_nil, pcs_nil, List.append_nil] at h1
  rw [tokL, pieceL, bs_toList, h1, toksOf_all h3, h2, List.take_length]
theorem un_get {us ts : List Tk} (h : us.map un = ts.map un) {i : Nat} {x : Tk} (hx : ts[i]? = some x) : ∃ y, us[i]? = some y ∧ y.k = x.k ∧ y.t = x.t ∧ y.n = x.n := by
  have e : (us.map un)[i]? = some (un x) := by rw [h, List.getElem?_map, hx]; rfl
  rw [List.getElem?_map] at e
  cases hy : us[i]? with
  | none => rw [hy] at e; cases e
  | some y =>
    rw [hy] at e
    have e2 : un y = un x := by simpa using e
    unfold un at e2
    injection e2 with q1 q2 q3 q4
    exact ⟨y, rfl, q1, q3, q4⟩
end Go.Proofs.Ytpnngicglgceaaa
