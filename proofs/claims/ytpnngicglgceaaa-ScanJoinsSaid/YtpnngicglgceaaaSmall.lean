/- Small contracts of the laws' own functions. -/
import Derived.Test.YtpnngicglgceaaaRefF
namespace Go.Proofs.Ytpnngicglgceaaa
open Go.RowKit
set_option linter.unusedVariables false

/-- A text of at most 100 bytes. -/
def shortS (s : ByteArray) : ByteArray := if 100 < s.size then s.extract 0 100 else s
theorem shortS_size (s : ByteArray) : (shortS s).size ≤ 100 := by
  unfold shortS
  split
  · simp; omega
  · omega
set_option maxHeartbeats 1000000 in
theorem short_any (s : ByteArray) (w : World) (hs : s.size ≤ maxLen) : Calls Try.prog 10 #[.string s] w fun e w' => e = .returned (.string (shortS s)) ∧ w = w' := by
  unfold maxLen at hs
  by_cases h : 100 < s.size
  · have e : shortS s = s.extract 0 100 := by rw [shortS, if_pos h]
    rw [e]
    go_enter Try.func10, Try.ntmps10
    go_wp2
    go_ret
    exact ⟨rfl, rfl⟩
  · have e : shortS s = s := by rw [shortS, if_neg h]
    rw [e]
    go_enter Try.func10, Try.ntmps10
    go_wp2
    go_ret
    exact ⟨rfl, rfl⟩

def restI (x n : Int) : Int := (wrap64 (x.tmod n + n)).tmod n
theorem restI_bd (x n : Int) (hn : 0 < n) (hn2 : n ≤ 100000) : 0 ≤ restI x n ∧ restI x n < n := by
  have ha : -n < x.tmod n ∧ x.tmod n < n := by
    rcases Int.le_total 0 x with h | h
    · rw [Int.tmod_eq_emod_of_nonneg h]
      have := Int.emod_nonneg x (show n ≠ 0 by omega)
      have := Int.emod_lt_of_pos x hn
      omega
    · obtain ⟨m, rfl⟩ : ∃ m, x = -m := ⟨-x, by omega⟩
      rw [Int.neg_tmod, Int.tmod_eq_emod_of_nonneg (by omega)]
      have := Int.emod_nonneg m (show n ≠ 0 by omega)
      have := Int.emod_lt_of_pos m hn
      omega
  unfold restI
  generalize x.tmod n = a at *
  rw [IntWalk.wrap64_in _ (by omega), Int.tmod_eq_emod_of_nonneg (by omega)]
  exact ⟨Int.emod_nonneg _ (by omega), Int.emod_lt_of_pos _ hn⟩
set_option maxHeartbeats 1000000 in
theorem rest_any (x n : Int) (w : World) (hx : -9223372036854775808 ≤ x ∧ x ≤ 9223372036854775807) (hn : 0 < n) (hn2 : n ≤ 100000) : Calls Try.prog 18 #[.int .i64 x, .int .i64 n] w fun e w' => e = .returned (.int .i64 (restI x n)) ∧ w = w' := by
  unfold restI
  go_enter Try.func18, Try.ntmps18
  go_wp2
  go_ret
  exact ⟨rfl, rfl⟩

/-- The cells of one token of a row, as the walk asks for them. -/
theorem at_mul {w : World} {g k : Nat} {x : Tk} (h : w.cell? ⟨g, 4 * k, none⟩ = some (.int .i64 (x.k : Int)) ∧ w.cell? ⟨g, 4 * k + 1, none⟩ = some (.int .i64 (x.at' : Int)) ∧ w.cell? ⟨g, 4 * k + 2, none⟩ = some (.string (bs x.t)) ∧ w.cell? ⟨g, 4 * k + 3, none⟩ = some (.int .i64 (x.n : Int))) :
    w.cell? ⟨g, k * 4, none⟩ = some (.int .i64 (x.k : Int)) ∧ w.cell? ⟨g, k * 4 + 1, none⟩ = some (.int .i64 (x.at' : Int)) ∧ w.cell? ⟨g, k * 4 + 2, none⟩ = some (.string (bs x.t)) ∧ w.cell? ⟨g, k * 4 + 3, none⟩ = some (.int .i64 (x.n : Int)) := by
  rwa [Nat.mul_comm 4 k] at h
theorem toks_nil {w : World} {v : Value} (h : Toks w v []) : ∃ A c, v = .slice A 0 c := by
  rcases h with ⟨rfl, _⟩ | ⟨g, cap, rfl, _⟩
  · exact ⟨_, _, rfl⟩
  · exact ⟨_, _, rfl⟩

set_option maxRecDepth 100000 in
set_option maxHeartbeats 2000000 in
theorem same_any (v1 v2 : Value) (ts : List Tk) (w : World) (h1 : Toks w v1 ts) (h2 : Toks w v2 ts) : Calls Try.prog 14 #[v1, v2] w fun e w' => e = .returned (.bool true) ∧ ∃ n, w' = w.drewN n := by
  by_cases h0 : ts = []
  · subst h0
    obtain ⟨A1, c1, rfl⟩ := toks_nil h1
    obtain ⟨A2, c2, rfl⟩ := toks_nil h2
    go_enter Try.func14, Try.ntmps14
    go_wp2
    go_rounds 1
    go_ret
    exact ⟨rfl, 0, rfl⟩
  · rcases h1 with ⟨_, h⟩ | ⟨g1, cap1, rfl, ha1, hb1, hc1, hd1⟩
    · exact absurd h h0
    rcases h2 with ⟨_, h⟩ | ⟨g2, cap2, rfl, ha2, hb2, hc2, hd2⟩
    · exact absurd h h0
    unfold maxLen at hb1 hb2
    have H1 := Lib.hid hd1
    have H2 := Lib.hid hd2
    clear hd1 hd2
    go_enter Try.func14, Try.ntmps14
    go_wp2
    go_loopw [5] (fun i wr => ∃ k n : Nat, k ≤ ts.length ∧ i = .int .i64 k ∧ wr = w.drewN n) (fun i _ => ts.length - (intOf i).toNat)
    case atStart => exact ⟨0, 0, Nat.zero_le _, rfl, rfl⟩
    case round =>
      obtain ⟨k, n, hk, rfl, rfl⟩ := hrel
      by_cases hlt : k < ts.length
      · obtain ⟨x, hx⟩ : ∃ x, ts[k]? = some x := ⟨ts[k], List.getElem?_eq_getElem hlt⟩
        obtain ⟨a0, a1, a2, a3⟩ := at_mul (H1.out k x hx)
        obtain ⟨b0, b1, b2, b3⟩ := at_mul (H2.out k x hx)
        have HX := Lib.hid hx
        clear hx
        have hi0 : (0 : Int) ≤ (k : Int) := by omega
        have hi1 : (k : Int) < (ts.length : Int) := by omega
        go_wp2
        go_quiet (fail)
        go_wp2
        exact ⟨⟨k + 1, n + nq, by omega, by go_num, rfl⟩, by simp [intOf]; omega⟩
      · obtain rfl : k = ts.length := by omega
        go_wp2
        go_ret
        exact ⟨rfl, n, rfl⟩

/-! ### The chapter's examples -/
def exA : ByteArray := { data := #[116, 61, 49, 48, 32, 35, 32, 120] }
def exB : ByteArray := { data := #[97, 44, 98] }
theorem exA_pcs : pieceL exA = [⟨1, 0, [116], 0⟩, ⟨3, 1, [61], 0⟩, ⟨2, 2, [49, 48], 10⟩] := by
  show pcs 0 [116, 61, 49, 48, 32, 35, 32, 120] = _
  refine (pcs_tok (by decide +kernel)).trans ?_
  show _ :: pcs 1 [61, 49, 48, 32, 35, 32, 120] = _
  rw [pcs_tok (by decide +kernel)]
  show _ :: _ :: pcs 2 [49, 48, 32, 35, 32, 120] = _
  rw [pcs_tok (by decide +kernel)]
  show _ :: _ :: _ :: pcs 4 [32, 35, 32, 120] = _
  rw [pcs_blank (by decide +kernel), pcs_hash (by decide +kernel)]
  show _ :: _ :: _ :: pcs 8 [] = _
  rw [pcs_nil]
  rfl
theorem exB_pcs : pieceL exB = [⟨1, 0, [97], 0⟩, ⟨0, 1, [], 0⟩] := by
  show pcs 0 [97, 44, 98] = _
  refine (pcs_tok (by decide +kernel)).trans ?_
  show _ :: pcs 1 [44, 98] = _
  rw [pcs_none (by decide +kernel) (by decide +kernel) (by decide +kernel)]
  rfl
theorem exA_bad : badP exA = none := by rw [badP, exA_pcs]; rfl
theorem exB_bad : badP exB = some ⟨0, 1, [], 0⟩ := by rw [badP, exB_pcs]; rfl

set_option maxRecDepth 100000 in
set_option maxHeartbeats 2000000 in
theorem awake_any (w : World) : Calls Try.prog 9 #[] w fun e w' => e = .returned (.bool true) ∧ Below w.heap.size w w' := by
  have la : ∀ w, Calls Try.prog 13 #[.string { data := #[116, 61, 49, 48, 32, 35, 32, 120] }] w fun e w' => ∃ v, e = .returned (.tuple #[v, .int .i64 8, .int .i64 0]) ∧ Toks w' v [⟨1, 0, [116], 0⟩, ⟨3, 1, [61], 0⟩, ⟨2, 2, [49, 48], 10⟩] ∧ Below w.heap.size w w' := fun w => by
    have := lex_any exA w (by decide)
    rw [endP, errP, lexT, exA_bad, exA_pcs] at this
    exact this
  have lb : ∀ w, Calls Try.prog 13 #[.string { data := #[97, 44, 98] }] w fun e w' => ∃ v, e = .returned (.tuple #[v, .int .i64 1, .int .i64 10]) ∧ Toks w' v [] ∧ Below w.heap.size w w' := fun w => by
    have := lex_any exB w (by decide)
    rw [endP, errP, lexT, exB_bad] at this
    exact this
  have LA := Lib.hid la
  have LB := Lib.hid lb
  clear la lb
  go_enter Try.func9, Try.ntmps9
  go_upto_region 2 with (go_at_call 13; (with_reducible refine (LA.out _).mono ?_); rintro e w1 ⟨v, rfl, hv, h1⟩)
  rcases hv with ⟨_, h⟩ | ⟨g, cap, rfl, ha, hb, hc, hd⟩
  · cases h
  obtain ⟨-, p1, -, p3⟩ := hd 2 _ rfl
  clear hd
  unfold maxLen at hb
  simp only [List.length_cons, List.length_nil, Nat.reduceAdd, Nat.reduceMul] at *
  go_upto_region 3 with (go_at_call 13; (with_reducible refine (LB.out _).mono ?_); rintro e w2 ⟨v2, rfl, -, h2⟩; have q1 := (h2.cell (p := ⟨g, 9, none⟩) hc).trans p1; have q3 := (h2.cell (p := ⟨g, 11, none⟩) hc).trans p3)
  go_wp2
  go_ret
  exact ⟨rfl, h1.trans (h2.mono h1.size)⟩
end Go.Proofs.Ytpnngicglgceaaa
