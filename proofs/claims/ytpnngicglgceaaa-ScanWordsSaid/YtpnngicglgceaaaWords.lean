/- ScanWords: the walk. -/
import Derived.Test.YtpnngicglgceaaaConv
import Derived.Deep.DeepCutAuto
namespace Go.Proofs.Ytpnngicglgceaaa
open Go.RowKit
set_option linter.unusedVariables false

set_option maxRecDepth 100000 in
set_option maxHeartbeats 4000000 in
theorem words_walk (s : ByteArray) (c : UInt8) (w : World) (hs : s.size ≤ maxLen) :
    Calls Try.prog 7 #[.string s, .int .u8 (c.toNat : Int)] w fun e w' => e = .returned (.bool true) ∧ Below w.heap.size w w' := by
  have S := Lib.hid (fun w => short_any s w hs)
  have h100 := shortS_size s
  generalize shortS s = t at *
  have hs5 : t.size ≤ 100000 := by omega
  have hc256 := c.toNat_lt
  have hcat : (t ++ bs [c]).data.toList = t.data.toList ++ [c] := by simp [bs]
  have hs6 : (t ++ bs [c]).size ≤ 100000 := by rw [Lib.size_eq, hcat, List.length_append, ← Lib.size_eq]; simp; omega
  have W0 := Lib.hid (fun w => word_any t w hs5)
  have W1 := Lib.hid (fun w => word_any (t ++ bs [c]) w hs6)
  have R1 := Lib.hid (fun w => rword_any (t ++ bs [c]) w hs6)
  have L0 := Lib.hid (fun w => lex_any t w hs5)
  have E1 := Lib.hid (fun w => each_any (t ++ bs [c]) w hs6)
  have hcv := fun W => conv_byte W c
  have hb1 : (bs [c]).size = 1 := rfl
  cases hw : wordB t
  · rw [hw] at W0
    have hwb : ∀ b : Bool, (b == b) = true := fun b => by cases b <;> rfl
    generalize wordB (t ++ bs [c]) = wb at *
    have hq := hwb wb
    clear hw hwb hcat
    go_enter Try.func7, Try.ntmps7
    go_upto_region 5 with (first
      | (go_at_call 9; refine (awake_any _).mono ?_; rintro e w1 ⟨rfl, h1⟩)
      | (go_at_call 10; (with_reducible refine (S.out _).mono ?_); rintro e w2 ⟨rfl, rfl⟩)
      | (go_at_call 15; (with_reducible refine (W0.out _).mono ?_); rintro e w3 ⟨rfl, h3⟩))
    have B3 : Below w.heap.size w w3 := (h1.trans ((Below.refl _ _).alloc h1.size _)).trans (h3.mono (by have := h1.size; simp; omega))
    clear h1 h3
    go_wp2_with (first
      | (go_at_call 15; (with_reducible refine (W1.out _).mono ?_); rintro e w4 ⟨rfl, h4⟩)
      | (go_at_call 16; (with_reducible refine (R1.out _).mono ?_); rintro e w5 ⟨rfl, h5⟩))
    go_ret
    exact ⟨rfl, (B3.trans (h4.mono B3.size)).trans (h5.mono (Nat.le_trans B3.size h4.size))⟩
  · obtain ⟨d, r, hl, hk, hr⟩ := word_is hw
    obtain ⟨hlt, her⟩ := word_pieces hl hk hr
    obtain ⟨hwt, rest, htk⟩ := word_more hl hk hr hcat
    rw [hw] at W0
    rw [hwt] at W1
    rw [hlt, her] at L0
    rw [htk] at E1
    have htx : bs t.data.toList = t := bs_of t
    have htx2 : bs (t ++ bs [c]).data.toList = t ++ bs [c] := bs_of _
    have HG := Lib.hid (goes_1 c)
    clear hlt her hwt htk hw R1 hl hk hr
    generalize goes 1 c = gb at *
    obtain ⟨n, hn⟩ : ∃ n, n = c.toNat := ⟨_, rfl⟩
    rw [← hn] at HG hc256 hcv
    go_enter Try.func7, Try.ntmps7
    rw [← hn]
    have HN := Lib.hid hn
    clear hn
    go_upto_region 6 with (first
      | (go_at_call 9; refine (awake_any _).mono ?_; rintro e w1 ⟨rfl, h1⟩)
      | (go_at_call 10; (with_reducible refine (S.out _).mono ?_); rintro e w2 ⟨rfl, rfl⟩)
      | (go_at_call 15; (with_reducible refine (W0.out _).mono ?_); rintro e w3 ⟨rfl, h3⟩))
    have B3 : Below w.heap.size w w3 := (h1.trans ((Below.refl _ _).alloc h1.size _)).trans (h3.mono (by have := h1.size; simp; omega))
    clear h1 h3 hcv
    go_cut [7] (fun s7 wx => s7 = .bool gb ∧ wx = w3)
    case first =>
      have hg := HG.out
      clear HG
      subst hg
      by_cases a1 : 97 ≤ n <;> by_cases a2 : n ≤ 122 <;> by_cases a3 : 65 ≤ n <;> by_cases a4 : n ≤ 90 <;> by_cases a5 : 48 ≤ n <;> by_cases a6 : n ≤ 57 <;> by_cases a7 : n = 95 <;> by_cases a8 : n = 46 <;> by_cases a9 : n = 45 <;> first
        | omega
        | (go_wp2; go_meet; exact ⟨by simp [*]; try omega, rfl⟩)
    case rest =>
      obtain ⟨rfl, rfl⟩ := hcut
      clear HG
      have hne : (t.toList == (t ++ bs [c]).toList) = false := by
        rw [Lib.toList_data, Lib.toList_data, hcat]
        simp
      clear hcat
      go_upto_region 9 with (first
        | (go_at_call 13; (with_reducible refine (L0.out _).mono ?_); rintro e w4 ⟨v, rfl, hv, h4⟩)
        | (go_at_call 12; (with_reducible refine (E1.out _).mono ?_); rintro e w5 ⟨vm, rfl, hm, h5⟩))
      have hv5 := hv.later h5
      have B5 := (B3.trans (h4.mono B3.size)).trans (h5.mono (Nat.le_trans B3.size h4.size))
      clear hv h4 h5 B3
      rcases hv5 with ⟨_, h⟩ | ⟨g, cap, rfl, ha, hb, hc', hd⟩
      · cases h
      rcases hm with ⟨_, h⟩ | ⟨g2, cap2, rfl, ha2, hb2, hc2, hd2⟩
      · cases h
      obtain ⟨-, -, p2, -⟩ := hd 0 _ rfl
      obtain ⟨-, -, q2, -⟩ := hd2 0 _ rfl
      clear hd hd2
      unfold maxLen at hb hb2
      simp only [List.length_cons, List.length_nil, Nat.reduceAdd, Nat.reduceMul, htx] at ha p2 q2 ha2
      cases gb
      · simp only [Bool.false_eq_true, if_false, htx] at q2
        go_wp2_with (go_at_call 15; (with_reducible refine (W1.out _).mono ?_); rintro e w6 ⟨rfl, h6⟩; have p2' := (h6.cell (p := ⟨g, 2, none⟩) hc').trans p2; have q2' := (h6.cell (p := ⟨g2, 2, none⟩) hc2).trans q2)
        go_ret
        exact ⟨rfl, B5.trans (h6.mono B5.size)⟩
      · simp only [if_true, htx2] at q2
        go_wp2_with (go_at_call 15; (with_reducible refine (W1.out _).mono ?_); rintro e w6 ⟨rfl, h6⟩; have p2' := (h6.cell (p := ⟨g, 2, none⟩) hc').trans p2; have q2' := (h6.cell (p := ⟨g2, 2, none⟩) hc2).trans q2)
        go_ret
        exact ⟨rfl, B5.trans (h6.mono B5.size)⟩
end Go.Proofs.Ytpnngicglgceaaa
