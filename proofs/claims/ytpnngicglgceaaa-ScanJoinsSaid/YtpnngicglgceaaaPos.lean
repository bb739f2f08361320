/- Where each token stands: plain facts. -/
import Derived.Test.YtpnngicglgceaaaConv
namespace Go.Proofs.Ytpnngicglgceaaa
open Go.RowKit
set_option linter.unusedVariables false

/-- What has come up to a place. -/
structure Pos (s : ByteArray) (pre : List Tk) (a : Nat) : Prop where
  le : a ≤ s.size
  eq : pieceL s = pre ++ pcs a (s.data.toList.drop a)
  ok : ∀ y ∈ pre, y.k ≠ 0
theorem Pos.start (s : ByteArray) : Pos s [] 0 := ⟨Nat.zero_le _, by simp, by simp⟩
theorem Pos.toks {s : ByteArray} {pre : List Tk} {a : Nat} (h : Pos s pre a) : tokL s = pre ++ toksOf (pcs a (s.data.toList.drop a)) := by
  rw [tokL, h.eq]
  unfold toksOf
  rw [List.takeWhile_append_of_pos (fun y hy => by simpa using h.ok y hy)]
/-- What is known of a token at its place. -/
structure Fine (s : ByteArray) (a : Nat) (x : Tk) : Prop where
  sk : a + skip (s.data.toList.drop a) = x.at'
  ne : 1 ≤ x.t.length
  le : x.at' + x.t.length ≤ s.size
  tx : s.extract x.at' (x.at' + x.t.length) = bs x.t
  k1 : 1 ≤ x.k
  k4 : x.k ≤ 4
  n40 : x.n ≤ 1099511627776
  n0 : x.k ≠ 2 → x.n = 0
  wd : wordB (bs x.t) = decide (x.k = 1)
theorem runLen_take (k : Nat) : ∀ r : List UInt8, runLen k (r.take (runLen k r)) = (r.take (runLen k r)).length
  | [] => rfl
  | d :: r => by
    by_cases hg : goes k d = true
    · rw [show runLen k (d :: r) = runLen k r + 1 by rw [runLen, if_pos hg], List.take_succ_cons, runLen, if_pos hg, runLen_take k r]; rfl
    · rw [show runLen k (d :: r) = 0 by rw [runLen, if_neg hg]]; rfl
theorem tkOf_word {i : Nat} {c : UInt8} {r : List UInt8} (hk : kind c ≠ 0) : wordB (bs (tkOf i c r).t) = decide (kind c = 1) := by
  have hl : (bs (tkOf i c r).t).data.toList = c :: r.take (runLen (kind c) r) := by rw [bs_toList]; rfl
  rw [wordB_cons hl, oneT, if_neg hk]
  have hs : (bs (tkOf i c r).t).size = 1 + (r.take (runLen (kind c) r)).length := by rw [Lib.size_eq, hl, List.length_cons]; omega
  rw [tkOf_len, runLen_take, hs, decide_eq_true (p := 1 + (r.take (runLen (kind c) r)).length = 1 + (r.take (runLen (kind c) r)).length) rfl, Bool.and_true]
  rfl
theorem Pos.step {s : ByteArray} {pre : List Tk} {a : Nat} (h : Pos s pre a) (hlt : pre.length < (tokL s).length) :
    ∃ x, (tokL s)[pre.length]? = some x ∧ Fine s a x ∧ Pos s (pre ++ [x]) (x.at' + x.t.length) := by
  have ht := h.toks
  have hle := h.le
  have hs := skip_le (s.data.toList.drop a)
  rw [List.length_drop, ← Lib.size_eq] at hs
  have h0 := skip_skip (s.data.toList.drop a)
  have hp := pcs_skip (s.data.toList.drop a) a
  rw [List.drop_drop] at h0 hp
  obtain ⟨e, he⟩ : ∃ e, e = a + skip (s.data.toList.drop a) := ⟨_, rfl⟩
  rw [← he] at h0 hp
  have hes : e ≤ s.size := by omega
  by_cases hlt2 : e < s.size
  · obtain ⟨c, hc⟩ : ∃ c, s[e] = c := ⟨_, rfl⟩
    have hd := drop_get s e hlt2
    rw [hc] at hd
    rw [hd] at h0
    obtain ⟨hb, h35⟩ := skip_0 h0
    by_cases hk : kind c = 0
    · rw [hd, pcs_none (by simpa using hb) h35 hk] at hp
      rw [ht, hp] at hlt
      simp [toksOf] at hlt
    · rw [hd, pcs_tok hk, List.drop_drop] at hp
      have hl : (tkOf e c (s.data.toList.drop (e + 1))).t.length = 1 + runLen (kind c) (s.data.toList.drop (e + 1)) := tkOf_len ..
      have hr := runLen_le (kind c) (s.data.toList.drop (e + 1))
      rw [List.length_drop, ← Lib.size_eq] at hr
      have hkx : (tkOf e c (s.data.toList.drop (e + 1))).k = kind c := rfl
      have hax : (tkOf e c (s.data.toList.drop (e + 1))).at' = e := rfl
      have hx : tokL s = pre ++ tkOf e c (s.data.toList.drop (e + 1)) :: toksOf (pcs (e + 1 + runLen (kind c) (s.data.toList.drop (e + 1))) (s.data.toList.drop (e + 1 + runLen (kind c) (s.data.toList.drop (e + 1))))) := by
        rw [ht, hp, toksOf, List.takeWhile_cons_of_pos (by simp [tkOf, hk])]
        rfl
      refine ⟨tkOf e c (s.data.toList.drop (e + 1)), by rw [hx]; simp, ?_, ?_⟩
      · refine ⟨by rw [hax, he], by omega, by rw [hax]; omega, ?_, by rw [hkx]; omega, by rw [hkx]; exact kind_le c, ?_, ?_, by rw [hkx]; exact tkOf_word hk⟩
        · rw [hax, extract_tok s e _ hlt2 (by omega), hc, hl, show e + (1 + runLen (kind c) (s.data.toList.drop (e + 1))) - (e + 1) = runLen (kind c) (s.data.toList.drop (e + 1)) by omega]
          rfl
        · simp only [tkOf]
          split
          · exact numOf_le _
          · omega
        · intro h2
          rw [hkx] at h2
          simp only [tkOf]
          rw [if_neg h2]
      · refine ⟨by rw [hax]; omega, ?_, ?_⟩
        · rw [h.eq, hp, hax, hl, List.append_assoc, show e + (1 + runLen (kind c) (s.data.toList.drop (e + 1))) = e + 1 + runLen (kind c) (s.data.toList.drop (e + 1)) by omega]
          rfl
        · intro y hy
          rw [List.mem_append, List.mem_singleton] at hy
          rcases hy with hy | rfl
          · exact h.ok y hy
          · rw [hkx]; exact hk
  · rw [show s.data.toList.drop e = [] from List.drop_of_length_le (by rw [← Lib.size_eq]; omega), pcs_nil] at hp
    rw [ht, hp] at hlt
    simp [toksOf] at hlt
end Go.Proofs.Ytpnngicglgceaaa
