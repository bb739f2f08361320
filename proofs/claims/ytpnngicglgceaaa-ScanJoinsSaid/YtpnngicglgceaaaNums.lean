/- ScanNums: the walk. -/
import Derived.Test.YtpnngicglgceaaaDigs
import Derived.Test.YtpnngicglgceaaaPlaces
namespace Go.Proofs.Ytpnngicglgceaaa
open Go.RowKit Go.Shelf
set_option linter.unusedVariables false

def emptyV : Value → Nat
  | .string b => if b.size = 0 then 1 else 0
  | _ => 0

set_option maxRecDepth 100000 in
set_option maxHeartbeats 4000000 in
theorem nums_walk (n many : Int) (w : World) (hmany : -9223372036854775808 ≤ many ∧ many ≤ 9223372036854775807) :
    Calls Try.prog 6 #[.int .i64 n, .int .i64 many] w fun e w' => e = .returned (.bool true) ∧ Below w.heap.size w w' := by
  obtain ⟨m, hm, hband⟩ := low_bits n
  have R := Lib.hid (fun w => rest_any many 10 w hmany (by omega) (by omega))
  obtain ⟨hk0, hk1⟩ := restI_bd many 10 (by omega) (by omega)
  obtain ⟨k, hk⟩ := Int.eq_ofNat_of_zero_le hk0
  rw [hk] at R hk1
  clear hk hk0 hmany
  go_enter Try.func6, Try.ntmps6
  go_upto_region 4 with (first
    | (go_at_call 9; refine (awake_any _).mono ?_; rintro e w1 ⟨rfl, h1⟩))
  go_wp2
  clear hband
  go_loopw [7, 8] (fun s x wr => ∃ (l : List UInt8) (q : Nat), s = .string (bs l) ∧ x = .int .i64 q ∧ Hid (Dg m l q) ∧ Below w.heap.size w wr) (fun s x _ => (intOf x).toNat + emptyV s)
  case atStart => exact ⟨[], m, rfl, rfl, Lib.hid (Dg.start m), h1⟩
  case round =>
    clear h1
    obtain ⟨l, q, rfl, rfl, hD, hB⟩ := hrel
    by_cases hgo : 0 < q ∨ l = []
    · have HGO := Lib.hid hgo
      obtain ⟨c, hc⟩ : ∃ c : UInt8, c.toNat = 48 + q % 10 := ⟨UInt8.ofNat (48 + q % 10), by show (48 + q % 10) % 256 = _; omega⟩
      have hD2 := Lib.hid (hD.out.step hm hgo hc)
      have hq := hD.out.v
      have hn := hD.out.n
      have hcv := fun W => conv_byte W c
      obtain ⟨e, he⟩ : ∃ e, e = q % 10 := ⟨_, rfl⟩
      have he10 : e < 10 := by omega
      have ht : (q : Int).tmod 10 = (e : Int) := by rw [Int.tmod_eq_emod_of_nonneg (by omega)]; omega
      have hd : (q : Int).tdiv 10 = ((q / 10 : Nat) : Int) := by rw [Int.tdiv_eq_ediv_of_nonneg (by omega)]; omega
      rw [hc, ← he, show ((48 + e : Nat) : Int) = 48 + (e : Int) from rfl] at hcv
      have hqm : q ≤ m := by
        have : q * 1 ≤ q * 10 ^ l.length := Nat.mul_le_mul_left _ (Nat.pow_pos (by omega))
        omega
      have hq1 : 0 < q → q / 10 < q := fun h => Nat.div_lt_self h (by omega)
      have hq2 : q / 10 ≤ q := Nat.div_le_self _ _
      generalize q / 10 = q' at *
      have hbn := bs_size (c :: l)
      have he1 : emptyV (.string (bs (c :: l))) = 0 := by show (if (bs (c :: l)).size = 0 then 1 else 0) = 0; rw [if_neg (by rw [hbn]; simp)]
      have HE := Lib.hid he1
      have HQ := Lib.hid hq1
      clear he1 hq1 hbn
      have hx : bs [c] ++ bs l = bs (c :: l) := bs_app [c] l
      have hb1 : (bs [c]).size = 1 := rfl
      have hbl := bs_size l
      clear hc he hq hgo
      rcases HGO.out with hp | hl
      · have hd0 : decide ((q : Int) > 0) = true := decide_eq_true (by omega)
        have hd1 : decide (0 < q) = true := decide_eq_true (by omega)
        have HP := Lib.hid hp
        clear hp HGO
        go_wp2
        exact ⟨⟨c :: l, q', rfl, rfl, hD2, hB.trans ((Below.refl _ _).alloc hB.size _)⟩, by rw [HE.out]; have := HQ.out HP.out; simp [intOf]; omega⟩
      · subst hl
        have hz : (bs []).size = 0 := rfl
        have he0 : ((bs []).toList == ([] : List UInt8)) = true := by rw [Lib.toList_data, bs_toList]; rfl
        by_cases hp : 0 < q
        · have hd0 : decide ((q : Int) > 0) = true := decide_eq_true (by omega)
          have hd1 : decide (0 < q) = true := decide_eq_true (by omega)
          have HP := Lib.hid hp
          clear hp HGO
          go_wp2
          exact ⟨⟨c :: [], q', rfl, rfl, hD2, hB.trans ((Below.refl _ _).alloc hB.size _)⟩, by rw [HE.out]; have := HQ.out HP.out; simp [intOf]; omega⟩
        · have hd0 : decide ((q : Int) > 0) = false := decide_eq_false (by omega)
          have hd1 : decide (0 < q) = false := decide_eq_false (by omega)
          have hqq : q' = 0 ∧ q = 0 := by omega
          have HP := Lib.hid hqq
          clear HGO hqq hp
          go_wp2
          exact ⟨⟨c :: [], q', rfl, rfl, hD2, hB.trans ((Below.refl _ _).alloc hB.size _)⟩, by rw [HE.out, HP.out.1, HP.out.2]; simp [intOf, emptyV, hz]⟩
    · obtain ⟨hq0, hl⟩ : q = 0 ∧ l ≠ [] := ⟨by omega, fun e => hgo (.inr e)⟩
      have hne : ((bs l).toList == ([] : List UInt8)) = false := by
        rw [Lib.toList_data, bs_toList]
        simpa using hl
      have hd0 : decide ((q : Int) > 0) = false := decide_eq_false (by omega)
      have hd1 : decide (0 < q) = false := decide_eq_false (by omega)
      have hv : valOf l = m := by have := hD.out.v; rw [hq0] at this; omega
      have hqm : q < 1 := by omega
      have HV := Lib.hid hv
      have hn := hD.out.n
      have HL := Lib.hid hl
      clear hgo hl hv hq0
      have hbl := bs_size l
      have HDD := Lib.hid hD.out.d
      clear hD
      go_wp2
      go_loopw [9, 10] (fun t i wr => ∃ j : Nat, j ≤ k ∧ i = .int .i64 j ∧ t = .string (bs (List.replicate j 48 ++ l)) ∧ Below w.heap.size w wr) (fun _ i _ => k - (intOf i).toNat)
      case atStart => exact ⟨0, Nat.zero_le _, rfl, rfl, hB⟩
      case round =>
        clear hB
        obtain ⟨j, hj, rfl, rfl, hB⟩ := hrel
        have hx : ({ data := #[48] } : ByteArray) ++ bs (List.replicate j 48 ++ l) = bs (List.replicate (j + 1) 48 ++ l) := by rw [show ({ data := #[48] } : ByteArray) = bs [48] from rfl, bs_app, List.replicate_succ]; rfl
        have hb1 : ({ data := #[48] } : ByteArray).size = 1 := rfl
        have hbn := bs_size (List.replicate j 48 ++ l)
        rw [List.length_append, List.length_replicate] at hbn
        by_cases hlt : j < k
        · have hd3 : decide ((j : Int) < (k : Int)) = true := decide_eq_true (by omega)
          have hd4 : decide (j < k) = true := decide_eq_true hlt
          go_wp2_with (go_at_call 18; (with_reducible refine (R.out _).mono ?_); rintro e w2 ⟨rfl, rfl⟩)
          exact ⟨⟨j + 1, by omega, by simp, rfl, hB⟩, by simp [intOf]; omega⟩
        · obtain rfl : j = k := by omega
          have hd3 : decide ((j : Int) < (j : Int)) = false := decide_eq_false (by omega)
          have hd4 : decide (j < j) = false := decide_eq_false hlt
          have HX := Lib.hid hx
          clear hx
          obtain ⟨tt, htt⟩ : ∃ tt, tt = List.replicate j 48 ++ l := ⟨_, rfl⟩
          have hdz : ∀ d ∈ tt, dgt d = true := by
            rw [htt]
            intro d hd
            rcases List.mem_append.1 hd with hd | hd
            · rw [(List.mem_replicate.1 hd).2]; rfl
            · exact HDD.out d hd
          have htn : tt ≠ [] := by rw [htt]; simp [HL.out]
          have hnn : numOf tt = numOf l := by rw [num_val, num_val, htt, val_zeros]
          have hc1 : ({ data := #[61] } : ByteArray) ++ bs tt = bs (61 :: tt) := bs_app [61] tt
          have hc2 : bs (61 :: tt) ++ ({ data := #[61] } : ByteArray) = bs (61 :: (tt ++ [61])) := bs_app (61 :: tt) [61]
          have hs1 : ({ data := #[61] } : ByteArray).size = 1 := rfl
          have hs2 := bs_size (61 :: tt)
          have hs3 := bs_size (61 :: (tt ++ [61]))
          have hs4 : tt.length = j + l.length := by rw [htt]; simp
          simp only [List.length_cons, List.length_append, List.length_nil] at hs2 hs3
          have L1 := Lib.hid (fun w => lex_any (bs l) w (by omega))
          have L2 := Lib.hid (fun w => lex_any (bs (61 :: (tt ++ [61]))) w (by omega))
          obtain ⟨x1, x2⟩ := lex_num (bs_toList l) HDD.out HL.out
          obtain ⟨y1, y2⟩ := lex_eqs (bs_toList (61 :: (tt ++ [61]))) hdz htn
          rw [x1, x2] at L1
          rw [y1, y2, hnn] at L2
          rw [← htt]
          rw [← htt] at hbn
          have hN : (if (1099511627776 : Int) < (m : Int) then (1099511627776 : Int) else (m : Int)) = (numOf l : Int) := by
            rw [num_val, HV.out]; split <;> omega
          have hN2 : min (m : Int) 1099511627776 = (numOf l : Int) := by
            rw [num_val, HV.out]; omega
          have hN40 := numOf_le l
          generalize numOf l = N at *
          generalize endP (bs l) = en1 at *
          generalize endP (bs (61 :: (tt ++ [61]))) = en2 at *
          have HT := Lib.hid htt
          clear x1 x2 y1 y2 hdz htn hnn htt HX
          go_upto_region 15 with (first
            | (go_at_call 18; (with_reducible refine (R.out _).mono ?_); rintro e w2 ⟨rfl, rfl⟩)
            | (go_at_call 13; (with_reducible refine (L1.out _).mono ?_); rintro e w4 ⟨v, rfl, hv, h4⟩; obtain ⟨A1, c1, rfl⟩ := toks_len hv)
            | (go_at_call 13; (with_reducible refine (L2.out _).mono ?_); rintro e w5 ⟨v2, rfl, hv2, h5⟩; obtain ⟨A2, c2, rfl⟩ := toks_len hv2))
          have hv5 := hv.later h5
          have B5 := (hB.trans (h4.mono hB.size)).trans (h5.mono (Nat.le_trans hB.size h4.size))
          clear hv h4 h5
          simp only [List.length_cons, List.length_nil, Nat.reduceAdd] at hv5 hv2
          rcases hv5 with ⟨_, h⟩ | ⟨g, cap, hve, ha, hb, hc, hd⟩
          · cases h
          rcases hv2 with ⟨_, h⟩ | ⟨g2, cap2, hve2, ha2, hb2, hc', hd2⟩
          · cases h
          obtain ⟨-, rfl, rfl⟩ : True ∧ A1 = some ⟨g, 0, none⟩ ∧ c1 = cap := by injection hve with e1 e2 e3; exact ⟨trivial, e1, e3⟩
          obtain ⟨-, rfl, rfl⟩ : True ∧ A2 = some ⟨g2, 0, none⟩ ∧ c2 = cap2 := by injection hve2 with e1 e2 e3; exact ⟨trivial, e1, e3⟩
          obtain ⟨p0, -, -, p3⟩ := hd 0 _ rfl
          obtain ⟨-, -, q2, q3⟩ := hd2 1 _ rfl
          simp only [Nat.mul_zero, Nat.zero_add, Nat.mul_one, Nat.reduceAdd] at p0 p3 q2 q3
          unfold maxLen at hb hb2
          simp only [List.length_cons, List.length_nil, Nat.reduceAdd] at ha ha2
          clear hd hd2 hve hve2
          refine region_quiet_l (C := fun W => Below w5.heap.size w5 W) (by kernel_rfl) (by kernel_rfl) (below_drew _) ?_
          repeat (first
            | (refine wq_skip (by rfl) ?_; (try simp only [Act.put, List.setIfInBounds_toArray, List.set_cons_zero, List.set_cons_succ]))
            | (refine wq_val _ (by rfl) (by intro w hC; have z0 := (hC.cell (p := ⟨g, 0, none⟩) hc).trans p0; have z1 := (hC.cell (p := ⟨g, 3, none⟩) hc).trans p3; have z2 := (hC.cell (p := ⟨g2, 6, none⟩) hc').trans q2; have z3 := (hC.cell (p := ⟨g2, 7, none⟩) hc').trans q3; clear hC; go_simp; (try rfl)) ?_; (try simp only [Act.put, List.setIfInBounds_toArray, List.set_cons_zero, List.set_cons_succ]))
            | (with_reducible fail))
          refine wpQuiet_nil ?_
          intro W5 hW5
          have B6 := B5.trans (hW5.mono B5.size)
          clear hW5 B5
          go_wp2
          go_ret
          exact ⟨rfl, B6⟩
end Go.Proofs.Ytpnngicglgceaaa
