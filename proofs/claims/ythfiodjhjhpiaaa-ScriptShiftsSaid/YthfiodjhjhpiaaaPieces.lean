/- The pieces of a text, told one by one. -/
import Derived.Test.YthfiodjhjhpiaaaRange
namespace Go.Proofs.Ythfiodjhjhpiaaa
open Go.RowKit Go.Shelf
set_option linter.unusedVariables false
attribute [local go_sem] Oper.semAt_some

theorem pieces_any (s : ByteArray) (w : World) :
    Calls Try.prog 61 #[.string s] w fun e w' => e = .returned (.func (.func 62) #[] #[.pointer (some ⟨w.heap.size, 0, none⟩)]) ∧ w' = w.alloc (.cells #[.string s] 9) := by
  have hmf : ∀ (fn : Fn) (first cap : Array Value) (w : World), (Instr.makeFunc fn first cap).run Try.prog w = .ok (.func fn first cap) w := fun _ _ _ _ => rfl
  go_enter Try.func61, Try.ntmps61
  go_wp2
  go_ret
  exact ⟨rfl, rfl⟩
theorem each_seq_any (s : ByteArray) (w : World) :
    Calls Try.prog 59 #[.string s] w fun e w' => e = .returned (.func (.func 60) #[] #[.pointer (some ⟨w.heap.size, 0, none⟩)]) ∧ w' = w.alloc (.cells #[.string s] 9) := by
  have hmf : ∀ (fn : Fn) (first cap : Array Value) (w : World), (Instr.makeFunc fn first cap).run Try.prog w = .ok (.func fn first cap) w := fun _ _ _ _ => rfl
  go_enter Try.func59, Try.ntmps59
  go_wp2
  go_ret
  exact ⟨rfl, rfl⟩

/-- The pieces of a whole text. -/
abbrev pieceL (s : ByteArray) : List Tk := pcs 0 s.data.toList
theorem tkOf_len (i : Nat) (c : UInt8) (r : List UInt8) : (tkOf i c r).t.length = 1 + runLen (kind c) r := by
  have := runLen_le (kind c) r
  simp only [tkOf, List.length_cons, List.length_take]
  omega

set_option maxRecDepth 100000 in
set_option maxHeartbeats 4000000 in
theorem pieces1_in (l Bn : Nat) (s : ByteArray) (J Jx : List Tk → World → Prop) (n : Nat) (hn1 : 1 ≤ n) (hs : s.size ≤ 100000) (W : World) (B : Nat) (hO : OwnFrom W.heap.size J)
    (hY : ∀ pre (x : Tk) W, J pre W → pre.length < 100001 → YieldAt Fence.wide (n - 1) Try.prog l #[tkV x] W fun e W' =>
      (e = .returned (.bool true) ∧ J (pre ++ [x]) W' ∧ Kp pre x W W' ∧ KeepsFrom B W W') ∨ (e = .returned (.bool false) ∧ Jx (pre ++ [x]) W' ∧ KeepsFrom B W W'))
    (hB : Boxed W Bn 9 (.string s)) (hJ : J [] W) :
    CallsIn Fence.wide n Try.prog 62 #[.func (.yield l) #[] #[], .pointer (some ⟨Bn, 0, none⟩)] W fun e W' => (∃ v, e = .returned v) ∧
      ((∃ ys, ys = pieceL s ∧ J ys W') ∨ (∃ pre, pre <+: pieceL s ∧ Jx pre W')) := by
  refine callsIn_of_wp Try.func62 rfl trivial ?_ rfl
  simp only [Try.ntmps62, List.size_toArray, List.length_cons, List.length_nil, Nat.reduceAdd, Nat.reduceSub, Array.replicate_succ, Array.replicate_zero, List.push_toArray, List.append_toArray, List.nil_append, List.cons_append]
  refine wpIn_wide.2 (wp_scope_straight ((wpIn_wide (n := n)).1 ?_))
  gi_wp2
  refine wpIn_label ?_
  gi_wp2
  gi_loopw [3] (fun i wr => ∃ (k : Nat) (pre : List Tk), k ≤ s.size ∧ i = .int .i64 k ∧ Hid (pieceL s = pre ++ pcs k (s.data.toList.drop k)) ∧ Hid (∀ y ∈ pre, y.at' < k) ∧ J pre wr ∧ Boxed wr Bn 9 (.string s)) (fun i _ => s.size - (intOf i).toNat)
  case atStart => exact ⟨0, [], by omega, rfl, Lib.hid (by simp), Lib.hid (by simp), hJ, hB⟩
  case round =>
    obtain ⟨k, pre, hk, rfl, hx, hlt', hJ1, hB1⟩ := hrel
    clear hJ hB
    by_cases hlt : k < s.size
    · obtain ⟨c, hc⟩ : ∃ c, s[k] = c := ⟨_, rfl⟩
      have hd := drop_get s k hlt
      rw [hc] at hd
      have b1 := Boxed.cell hB1
      have hdk : decide ((k : Int) < (s.size : Int)) = true := decide_eq_true (by omega)
      have hc256 := c.toNat_lt
      by_cases hbl : blank c = true
      · have hq : Hid (pieceL s = pre ++ pcs (k + 1) (s.data.toList.drop (k + 1))) := by
          have := hx.out
          rw [hd, pcs_blank hbl] at this
          exact Lib.hid this
        have hp : Hid (∀ y ∈ pre, y.at' < k + 1) := Lib.hid fun y hy => by have := hlt'.out y hy; omega
        have h2 : c.toNat = 32 ∨ c.toNat = 9 := by simpa [blank] using hbl
        clear hx hlt' hd hbl
        by_cases h32 : c.toNat = 32
        · have t1 : ((c.toNat : Int) == 32) = true := by simp; omega
          gi_wp2
          go_roundw
          case rel => exact ⟨k + 1, pre, by omega, by go_num, hq, hp, hJ1, hB1⟩
          case measure => simp [intOf]; omega
        · have t1 : ((c.toNat : Int) == 32) = false := by simp; omega
          have t2 : ((c.toNat : Int) == 9) = true := by simp; omega
          gi_wp2
          go_roundw
          case rel => exact ⟨k + 1, pre, by omega, by go_num, hq, hp, hJ1, hB1⟩
          case measure => simp [intOf]; omega
      · have hnb : c.toNat ≠ 32 ∧ c.toNat ≠ 9 := by simpa [blank] using hbl
        have t1 : ((c.toNat : Int) == 32) = false := by simp; omega
        have t2 : ((c.toNat : Int) == 9) = false := by simp; omega
        by_cases h35 : c.toNat = 35
        · have hn : noteLen (s.data.toList.drop k) = noteLen (s.data.toList.drop (k + 1)) + 1 := by rw [hd, noteLen_not c _ (by omega)]
          have hnl := noteLen_le (s.data.toList.drop (k + 1))
          rw [List.length_drop, ← Lib.size_eq] at hnl
          have E := Lib.hid (fun w => lineEnd_any s k w hk hs)
          rw [hn] at E
          have hq : Hid (pieceL s = pre ++ pcs (k + (noteLen (s.data.toList.drop (k + 1)) + 1)) (s.data.toList.drop (k + (noteLen (s.data.toList.drop (k + 1)) + 1)))) := by
            have := hx.out
            rw [hd, pcs_hash h35, List.drop_drop] at this
            rw [show k + (noteLen (s.data.toList.drop (k + 1)) + 1) = k + 1 + noteLen (s.data.toList.drop (k + 1)) by omega]
            exact Lib.hid this
          have t3 : ((c.toNat : Int) == 35) = true := by simp; omega
          have hm : 1 ≤ noteLen (s.data.toList.drop (k + 1)) + 1 ∧ k + (noteLen (s.data.toList.drop (k + 1)) + 1) ≤ s.size := by omega
          clear hx hd hn hnl
          generalize noteLen (s.data.toList.drop (k + 1)) + 1 = m at *
          have hp : Hid (∀ y ∈ pre, y.at' < k + m) := Lib.hid fun y hy => by have := hlt'.out y hy; omega
          clear hlt'
          gi_wp2_with (refine ⟨trivial, ?_⟩; gi_at_call 63; refine (callsIn_wide.2 (E.out _)).mono ?_; rintro e w' ⟨rfl, rfl⟩)
          go_roundw
          case rel => exact ⟨k + m, pre, by omega, by go_num, hq, hp, hJ1, hB1⟩
          case measure => simp [intOf]; omega
        · have t3 : ((c.toNat : Int) == 35) = false := by simp; omega
          have Bg := Lib.hid (fun w => begun_any s k w hlt hs)
          have hplen : pre.length < 100001 := by
            have h1 : (pieceL s).length ≤ s.data.toList.length := pcs_length _ 0 s.data.toList (Nat.le_refl _)
            rw [hx.out, List.length_append, ← Lib.size_eq] at h1
            omega
          have hxk : (tkB k c (s.data.toList.drop (k + 1))).at' = k := by unfold tkB tkOf; split <;> rfl
          have hxn : tkB k c (s.data.toList.drop (k + 1)) ∉ pre := fun hm => by have := hlt'.out _ hm; omega
          rw [hc] at Bg
          by_cases hk0 : kind c = 0
          · have hq : Hid (pieceL s = pre ++ [tkB k c (s.data.toList.drop (k + 1))]) := by
              have := hx.out
              rw [hd, pcs_none (by simpa using hbl) h35 hk0] at this
              rw [tkB, if_pos hk0]
              exact Lib.hid this
            have hz : (tkB k c (s.data.toList.drop (k + 1))).k = 0 := by rw [tkB, if_pos hk0]
            generalize tkB k c (s.data.toList.drop (k + 1)) = x at *
            have hz' : ((x.k : Int) == 0) = true := by simp; omega
            clear hd hx hlt' hbl hz hk0 hxk
            gi_wp2_with (refine ⟨trivial, ?_⟩; gi_at_call 64; refine (callsIn_wide.2 (Bg.out _)).mono ?_; rintro e w' ⟨rfl, hb⟩; have hJ3 := own_later hO (own_later hO hJ1 hb) ((Below.refl _ _).alloc (Nat.le_refl _) (.cells (tkC x) 91)); obtain ⟨fn, tmps, assign, body, hy, hR⟩ := hY pre x _ hJ3 hplen; simp only [tkV, tkC] at hy)
            refine hR.mono ?_
            rintro e W3 (⟨rfl, hJ4, hk3, -⟩ | ⟨rfl, hJx3, -⟩)
            · have T3 := hk3.tok hxn (TB.new w' x)
              have c0 := T3.c0
              gi_wp2
              simp only [Exit.noGoto]
              go_end0
              exact ⟨⟨_, rfl⟩, .inl ⟨pre ++ [x], hq.out.symm, hJ4⟩⟩
            · gi_wp2
              simp only [Exit.noGoto]
              go_end0
              exact ⟨⟨_, rfl⟩, .inr ⟨pre ++ [x], ⟨[], by rw [hq.out, List.append_nil]⟩, hJx3⟩⟩
          · have hq : Hid (pieceL s = (pre ++ [tkB k c (s.data.toList.drop (k + 1))]) ++ pcs (k + (tkB k c (s.data.toList.drop (k + 1))).t.length) (s.data.toList.drop (k + (tkB k c (s.data.toList.drop (k + 1))).t.length))) := by
              have := hx.out
              rw [hd, pcs_tok hk0, List.drop_drop] at this
              rw [tkB, if_neg hk0, tkOf_len, List.append_assoc, show k + (1 + runLen (kind c) (s.data.toList.drop (k + 1))) = k + 1 + runLen (kind c) (s.data.toList.drop (k + 1)) by omega]
              exact Lib.hid this
            have hz : (tkB k c (s.data.toList.drop (k + 1))).k ≠ 0 := by rw [tkB, if_neg hk0]; exact hk0
            have hlen : 1 ≤ (tkB k c (s.data.toList.drop (k + 1))).t.length ∧ k + (tkB k c (s.data.toList.drop (k + 1))).t.length ≤ s.size := by
              have := runLen_le (kind c) (s.data.toList.drop (k + 1))
              rw [List.length_drop, ← Lib.size_eq] at this
              rw [tkB, if_neg hk0, tkOf_len]; omega
            have hp : Hid (∀ y ∈ pre ++ [tkB k c (s.data.toList.drop (k + 1))], y.at' < k + (tkB k c (s.data.toList.drop (k + 1))).t.length) := Lib.hid fun y hy => by
              rw [List.mem_append, List.mem_singleton] at hy
              rcases hy with hy | rfl
              · have := hlt'.out y hy; omega
              · omega
            generalize tkB k c (s.data.toList.drop (k + 1)) = x at *
            have hz' : ((x.k : Int) == 0) = false := by simp; omega
            have hbn := bs_size x.t
            clear hd hx hlt' hbl hz hk0 hxk
            gi_wp2_with (refine ⟨trivial, ?_⟩; gi_at_call 64; refine (callsIn_wide.2 (Bg.out _)).mono ?_; rintro e w' ⟨rfl, hb⟩; have hJ3 := own_later hO (own_later hO hJ1 hb) ((Below.refl _ _).alloc (Nat.le_refl _) (.cells (tkC x) 91)); have hB3 := Boxed.alloc ((hb.block Bn (Boxed.lt hB1)).trans hB1) (.cells (tkC x) 91); obtain ⟨fn, tmps, assign, body, hy, hR⟩ := hY pre x _ hJ3 hplen; simp only [tkV, tkC] at hy)
            refine hR.mono ?_
            rintro e W3 (⟨rfl, hJ4, hk3, -⟩ | ⟨rfl, hJx3, -⟩)
            · have T3 := hk3.tok hxn (TB.new w' x)
              have B4 := hk3.box hB3
              have c0 := T3.c0
              have c2 := T3.c2
              gi_wp2
              go_roundw
              case rel => exact ⟨k + x.t.length, pre ++ [x], hlen.2, by go_num, hq, hp, hJ4, B4⟩
              case measure => simp [intOf]; omega
            · gi_wp2
              simp only [Exit.noGoto]
              go_end0
              exact ⟨⟨_, rfl⟩, .inr ⟨pre ++ [x], ⟨_, hq.out.symm⟩, hJx3⟩⟩
    · have b1 := Boxed.cell hB1
      have hdk : decide ((k : Int) < (s.size : Int)) = false := decide_eq_false (by omega)
      gi_wp2
      simp only [Exit.noGoto]
      go_end0
      exact ⟨⟨_, rfl⟩, .inl ⟨pre, by have := hx.out; rw [List.drop_of_length_le (by rw [← Lib.size_eq]; omega), pcs_nil, List.append_nil] at this; exact this.symm, hJ1⟩⟩
/-- **pieces$1's word.** -/
theorem pieces1_seq (n : Nat) (hn1 : 1 ≤ n) (Bn : Nat) (s : ByteArray) (hs : s.size ≤ 100000) (w : World) (hB : Boxed w Bn 9 (.string s)) :
    SeqO n 62 #[.pointer (some ⟨Bn, 0, none⟩)] (fun xs => xs = pieceL s) (fun pre => pre <+: pieceL s) 100001 w :=
  fun l J Jx W hW hJ hJx hY hJ0 => pieces1_in l Bn s J Jx n hn1 hs W W.heap.size hJ hY ((hW.block Bn (Boxed.lt hB)).trans hB) hJ0
end Go.Proofs.Ythfiodjhjhpiaaa
