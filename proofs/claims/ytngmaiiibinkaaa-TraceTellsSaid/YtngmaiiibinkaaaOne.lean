/- The document's own answer: one token. -/
import Derived.Test.YtngmaiiibinkaaaToks
import Derived.Deep.CutBlock
namespace Go.Proofs.Ytngmaiiibinkaaa
open Go.RowKit
set_option linter.unusedVariables false

/-- One token, as the document's own answer tells it. -/
def oneT (i : Nat) (c : UInt8) (r : List UInt8) : Tk := if kind c = 0 then ⟨0, 0, [], 0⟩ else tkOf i c r
theorem kind_ltr {c : UInt8} (h : ltr c = true) : kind c = 1 := by rw [kind, if_pos h]
theorem kind_dgt {c : UInt8} (h : ltr c = false) (h2 : dgt c = true) : kind c = 2 := by rw [kind, if_neg (by rw [h]; simp), if_pos h2]
theorem kind_eq {c : UInt8} (h : ltr c = false) (h2 : dgt c = false) (h3 : c.toNat = 61) : kind c = 3 := by rw [kind, if_neg (by rw [h]; simp), if_neg (by rw [h2]; simp), if_pos h3]
theorem kind_lf {c : UInt8} (h : ltr c = false) (h2 : dgt c = false) (h3 : c.toNat = 10) : kind c = 4 := by rw [kind, if_neg (by rw [h]; simp), if_neg (by rw [h2]; simp), if_neg (by omega), if_pos h3]
theorem kind_no {c : UInt8} (h : ltr c = false) (h2 : dgt c = false) (h3 : c.toNat ≠ 61) (h4 : c.toNat ≠ 10) : kind c = 0 := by rw [kind, if_neg (by rw [h]; simp), if_neg (by rw [h2]; simp), if_neg h3, if_neg h4]
theorem runLen_no {k : Nat} (h : ∀ c, goes k c = false) : ∀ l, runLen k l = 0
  | [] => rfl
  | c :: r => by rw [runLen, if_neg (by rw [h c]; simp)]

theorem slice_run (s : ByteArray) (i j : Nat) (h1 : i ≤ j) (h2 : j ≤ s.size) (w : World) : (Instr.slice 9 (.string s) (some (.int .i64 (i : Int))) (some (.int .i64 (j : Int))) none).run Try.prog w = .ok (.string (s.extract i j)) w := by
  have hij : (i : Int) ≤ (j : Int) := by omega
  have hjs : (j : Int) ≤ (s.size : Int) := by omega
  go_simp

theorem TB.kind' {W : World} {b k k' i n : Nat} {t : List UInt8} (h : TB W b ⟨k, i, t, n⟩) : TB (W.setCell ⟨b, 0, none⟩ (.int .i64 (k' : Int))) b ⟨k', i, t, n⟩ :=
  ⟨heap_setCell_same _ b 0 _ _ (.int .i64 (k' : Int)) h.is⟩
theorem extract_get (s : ByteArray) (i j m : Nat) (hi : i ≤ m) (hm : m < j) (hj : j ≤ s.size) (t : List UInt8) (h : s.extract i j = bs t) : ∃ h1 : m < s.size, ∃ h2 : m - i < t.length, t[m - i] = s[m] := by
  have e := congrArg (fun b : ByteArray => b.data.toList) h
  simp only [bs_toList, Lib.extract_data] at e
  have hs := Lib.size_eq s
  have hl : t.length = j - i := by rw [← e, List.length_take, List.length_drop]; omega
  refine ⟨by omega, by omega, ?_⟩
  have h2 : t[m - i]? = some s[m] := by
    rw [← e, List.getElem?_take_of_lt (by omega), List.getElem?_drop, show i + (m - i) = m by omega]
    rw [List.getElem?_eq_getElem (by omega)]
    rfl
  rw [List.getElem?_eq_getElem (by omega)] at h2
  exact Option.some.inj h2

set_option maxRecDepth 100000 in
set_option maxHeartbeats 4000000 in
theorem one_any (s : ByteArray) (i : Nat) (w : World) (hi : i < s.size) (hs : s.size ≤ 9223372036854775807) : Calls Try.prog 42 #[.string s, .int .i64 (i : Int)] w fun e w' => e = .returned (tkV (oneT i s[i] (s.data.toList.drop (i + 1)))) ∧ Below w.heap.size w w' := by
  obtain ⟨c, hc⟩ : ∃ c, s[i] = c := ⟨_, rfl⟩
  rw [hc]
  obtain ⟨W1, hW1, T4, T5, B1⟩ := two_toks w 0 i
  have HW := Lib.hid hW1
  rw [show ((0 : Nat) : Int) = 0 from rfl] at HW
  have C := Lib.hid hc
  have hc256 := c.toNat_lt
  have L := Lib.hid (fun w => rletter_any c w)
  have D := Lib.hid (fun w => rdigit_any c w)
  clear hW1
  have f5 := T5.frozen
  have c0 := T5.c0
  have c1 := T5.c1
  have c2 := T5.c2
  have c3 := T5.c3
  have g4 := T4.frozen
  have q0 := T4.c0
  have q1 := T4.c1
  have q2 := T4.c2
  have q3 := T4.c3
  cases hl : ltr c
  · cases hd : dgt c
    · by_cases h61 : c.toNat = 61
      · have hk : oneT i c (s.data.toList.drop (i + 1)) = ⟨3, i, [c], 0⟩ := by rw [oneT, kind_eq hl hd h61, if_neg (by omega), tkOf, kind_eq hl hd h61, runLen_no goes_3]; simp
        rw [hk]
        rw [hl] at L
        rw [hd] at D
        have t1 : ((c.toNat : Int) == 61) = true := by simp; omega
        have hx : s.extract i (i + 1) = bs [c] := by rw [extract_tok s i (i + 1) hi (Nat.le_refl _), C.out]; simp
        have hsl := fun w => slice_run s i (i + 1) (by omega) (by omega) w
        rw [hx, show ((i + 1 : Nat) : Int) = (i : Int) + 1 from rfl] at hsl
        have T61 := Lib.hid h61
        clear hk hl hd h61
        go_enter Try.func42, Try.ntmps42
        go_upto_region 2 with (fail)
        rw [HW.out]
        go_wp2_with (first
          | (go_at_call 45; (with_reducible refine (L.out _).mono ?_); rintro e w' ⟨rfl, rfl⟩)
          | (go_at_call 46; (with_reducible refine (D.out _).mono ?_); rintro e w' ⟨rfl, rfl⟩))
        have R := ((T4.other ⟨w.heap.size + 1, 0, none⟩ (.int .i64 3) (by simp)).other ⟨w.heap.size + 1, 2, none⟩ (.string (bs [c])) (by simp)).whole (y := ⟨3, i, [c], 0⟩)
        exact bodyPost_ret (v := tkV ⟨3, i, [c], 0⟩) (results_tok rfl _ _ _ _ rfl R) rfl ⟨rfl, below_whole ((B1.setCell (p := ⟨w.heap.size + 1, 0, none⟩) (Nat.le_succ _) _).setCell (p := ⟨w.heap.size + 1, 2, none⟩) (Nat.le_succ _) _) (Nat.le_refl _) _ _ _ _⟩
      · by_cases h10 : c.toNat = 10
        · have hk : oneT i c (s.data.toList.drop (i + 1)) = ⟨4, i, [c], 0⟩ := by rw [oneT, kind_lf hl hd h10, if_neg (by omega), tkOf, kind_lf hl hd h10, runLen_no goes_4]; simp
          rw [hk]
          rw [hl] at L
          rw [hd] at D
          have t1 : ((c.toNat : Int) == 10) = true := by simp; omega
          have t2 : ((c.toNat : Int) == 61) = false := by simp; omega
          have T10 := Lib.hid h61
          clear h61
          have hx : s.extract i (i + 1) = bs [c] := by rw [extract_tok s i (i + 1) hi (Nat.le_refl _), C.out]; simp
          have hsl := fun w => slice_run s i (i + 1) (by omega) (by omega) w
          rw [hx, show ((i + 1 : Nat) : Int) = (i : Int) + 1 from rfl] at hsl
          have T61 := Lib.hid h10
          clear hk hl hd h10
          go_enter Try.func42, Try.ntmps42
          go_upto_region 2 with (fail)
          rw [HW.out]
          go_wp2_with (first
            | (go_at_call 45; (with_reducible refine (L.out _).mono ?_); rintro e w' ⟨rfl, rfl⟩)
            | (go_at_call 46; (with_reducible refine (D.out _).mono ?_); rintro e w' ⟨rfl, rfl⟩))
          have R := ((T4.other ⟨w.heap.size + 1, 0, none⟩ (.int .i64 4) (by simp)).other ⟨w.heap.size + 1, 2, none⟩ (.string (bs [c])) (by simp)).whole (y := ⟨4, i, [c], 0⟩)
          exact bodyPost_ret (v := tkV ⟨4, i, [c], 0⟩) (results_tok rfl _ _ _ _ rfl R) rfl ⟨rfl, below_whole ((B1.setCell (p := ⟨w.heap.size + 1, 0, none⟩) (Nat.le_succ _) _).setCell (p := ⟨w.heap.size + 1, 2, none⟩) (Nat.le_succ _) _) (Nat.le_refl _) _ _ _ _⟩
        · have hk : oneT i c (s.data.toList.drop (i + 1)) = ⟨0, 0, [], 0⟩ := by rw [oneT, kind_no hl hd h61 h10, if_pos rfl]
          rw [hk]
          rw [hl] at L
          rw [hd] at D
          have t1 : ((c.toNat : Int) == 61) = false := by simp; omega
          have t2 : ((c.toNat : Int) == 10) = false := by simp; omega
          clear hk hl hd h61 h10
          go_enter Try.func42, Try.ntmps42
          go_upto_region 2 with (fail)
          rw [HW.out]
          go_wp2_with (first
          | (go_at_call 45; (with_reducible refine (L.out _).mono ?_); rintro e w' ⟨rfl, rfl⟩)
          | (go_at_call 46; (with_reducible refine (D.out _).mono ?_); rintro e w' ⟨rfl, rfl⟩))
          have R := T4.whole (y := ⟨0, 0, [], 0⟩)
          exact bodyPost_ret (v := tkV ⟨0, 0, [], 0⟩) (results_tok rfl _ _ _ _ rfl R) rfl ⟨rfl, below_whole B1 (Nat.le_refl _) _ _ _ _⟩
    · have hkc := kind_dgt hl hd
      have hk : oneT i c (s.data.toList.drop (i + 1)) = tkOf i c (s.data.toList.drop (i + 1)) := by rw [oneT, hkc, if_neg (by omega)]
      rw [hk]
      have hdig := tkOf_digits (i := i) (r := s.data.toList.drop (i + 1)) hkc
      generalize hx : tkOf i c (s.data.toList.drop (i + 1)) = x at *
      have hxl : x.k = 2 ∧ x.at' = i ∧ x.t = c :: (s.data.toList.drop (i + 1)).take (runLen 2 (s.data.toList.drop (i + 1))) ∧ x.n = numOf x.t := by
        subst hx
        refine ⟨hkc, rfl, by simp only [tkOf, hkc], by simp [tkOf, hkc]⟩
      have HX := Lib.hid hxl
      have HG := Lib.hid hdig
      rw [hl] at L
      rw [hd] at D
      clear hk hx hxl hkc hl hd hdig
      go_enter Try.func42, Try.ntmps42
      go_upto_region 2 with (fail)
      rw [HW.out]
      go_wp2_with (first
        | (go_at_call 45; (with_reducible refine (L.out _).mono ?_); rintro e w' ⟨rfl, rfl⟩)
        | (go_at_call 46; (with_reducible refine (D.out _).mono ?_); rintro e w' ⟨rfl, rfl⟩))
      obtain ⟨W2, hW2, T4', T5', B2⟩ : ∃ W2, W1.setCell ⟨w.heap.size + 1, 0, none⟩ (.int .i64 2) = W2 ∧ TB W2 w.heap.size ⟨0, 0, [], 0⟩ ∧ TB W2 (w.heap.size + 1) ⟨2, i, [], 0⟩ ∧ Below w.heap.size w W2 :=
        ⟨_, rfl, T4.other _ _ (by simp), T5.kind' (k' := 2), B1.setCell (p := ⟨w.heap.size + 1, 0, none⟩) (Nat.le_succ _) _⟩
      rw [hW2]
      clear hW2 T4 T5 B1 f5 c0 c1 c2 c3 g4 q0 q1 q2 q3 L D HW
      have T4 := T4'
      have T5 := T5'
      clear T4' T5'
      go_loop [6] (fun e => ∃ j : Nat, i + 1 ≤ j ∧ j ≤ s.size ∧ e = .int .i64 j ∧ Hid (runLen 2 (s.data.toList.drop (i + 1)) = (j - (i + 1)) + runLen 2 (s.data.toList.drop j))) (fun e => s.size - (intOf e).toNat)
      case atStart => exact ⟨i + 1, Nat.le_refl _, by omega, by go_num, Lib.hid (by omega)⟩
      case round =>
        obtain ⟨j, hj1, hj2, rfl, hr⟩ := hrel
        by_cases hlt : j < s.size
        · obtain ⟨d, hd⟩ : ∃ d, s[j] = d := ⟨_, rfl⟩
          have hr2 := hr.out
          rw [drop_get s j hlt, hd, runLen] at hr2
          have hdk : decide ((j : Int) < (s.size : Int)) = true := decide_eq_true (by omega)
          have hd256 := d.toNat_lt
          have D := Lib.hid (fun w => rdigit_any d w)
          clear hr
          cases hd2 : dgt d
          · have hg : goes 2 d = false := by rw [goes_2, hd2]
            rw [hg, if_neg (by simp)] at hr2
            have HD := Lib.hid hr2
            rw [hd2] at D
            clear hr2 hg hd2
            go_wp2_with (go_at_call 46; (with_reducible refine (D.out _).mono ?_); rintro e w' ⟨rfl, rfl⟩)
            have hx : s.extract i j = bs x.t := by rw [extract_tok s i j hi hj1, C.out, HX.out.2.2.1]; congr 3; have := HD.out; omega
            have hsl := fun w => slice_run s i j (by omega) hj2 w
            rw [hx] at hsl
            have HSL := Lib.hid hsl
            clear HD hdk hsl
            go_loopw [10] (fun a wr => ∃ m : Nat, i ≤ m ∧ m ≤ j ∧ a = .int .i64 m ∧ TB wr w.heap.size ⟨0, 0, [], 0⟩ ∧ TB wr (w.heap.size + 1) ⟨2, i, [], numOf (x.t.take (m - i))⟩ ∧ Below w.heap.size w wr) (fun a _ => j - (intOf a).toNat)
            case atStart => exact ⟨i, Nat.le_refl _, by omega, rfl, T4, by rw [Nat.sub_self]; exact T5, B2⟩
            case round =>
              clear T4 T5 B2
              obtain ⟨m, hm1, hm2, rfl, T4, T5, B2⟩ := hrel
              by_cases hmj : m < j
              · obtain ⟨g1, g2, g3⟩ := extract_get s i j m hm1 hmj hj2 x.t hx
                have hdg := HG.out x.t[m - i] (List.getElem_mem g2)
                have hsn := take_snoc x.t (m - i) g2
                rw [g3] at hdg hsn
                generalize hu : s[m] = u at *
                have hub : 48 ≤ u.toNat ∧ u.toNat ≤ 57 := by simpa [dgt] using hdg
                obtain ⟨hu1, hu2⟩ := hub
                have hN := numOf_snoc (x.t.take (m - i)) u
                rw [← hsn, show m - i + 1 = m + 1 - i by omega] at hN
                have hNle := numOf_le (x.t.take (m - i))
                have H1 := Lib.hid hN
                clear hN hsn hdg g3 g2 hx
                generalize numOf (x.t.take (m - i)) = y at *
                have c3 := T5.c3
                have f5 := T5.frozen
                have hmd : decide ((m : Int) < (j : Int)) = true := decide_eq_true (by omega)
                go_wp2
                go_region
                all_goals go_wp2
                have he : min ((y : Int) * 10 + ((u.toNat : Int) - 48)) 1099511627776 = ((numOf (x.t.take (m + 1 - i)) : Nat) : Int) := by rw [H1.out]; omega
                rw [he]
                exact ⟨⟨m + 1, by omega, by omega, by go_num, ⟨(T4.other ⟨w.heap.size + 1, 3, none⟩ _ (by simp)).is⟩, ⟨(T5.num (n' := numOf (x.t.take (m + 1 - i)))).is⟩, (B2.setCell (p := ⟨w.heap.size + 1, 3, none⟩) (Nat.le_succ _) _).drew⟩, by simp [intOf]; omega⟩
              · obtain rfl : m = j := by omega
                have hmd : decide ((m : Int) < (m : Int)) = false := decide_eq_false (by omega)
                have hfull : x.t.take (m - i) = x.t := by
                  refine List.take_of_length_le ?_
                  have e := congrArg ByteArray.size hx
                  rw [bs_size] at e
                  rw [← e]; simp; omega
                rw [hfull] at T5
                have hsl := HSL.out
                have c0 := T5.c0
                have c1 := T5.c1
                have c2 := T5.c2
                have c3 := T5.c3
                have f5 := T5.frozen
                have g4 := T4.frozen
                have q0 := T4.c0
                have q1 := T4.c1
                have q2 := T4.c2
                have q3 := T4.c3
                clear hfull hx
                go_wp2
                have R := (T4.other ⟨w.heap.size + 1, 2, none⟩ (.string (bs x.t)) (by simp)).whole (y := ⟨2, i, x.t, numOf x.t⟩)
                exact bodyPost_ret (v := tkV ⟨2, i, x.t, numOf x.t⟩) (results_tok rfl _ _ _ _ rfl R) rfl ⟨congrArg Ending.returned (tk_eq HX.out.1 HX.out.2.1 HX.out.2.2.2), below_whole (B2.setCell (p := ⟨w.heap.size + 1, 2, none⟩) (Nat.le_succ _) _) (Nat.le_refl _) _ _ _ _⟩
          · have hg : goes 2 d = true := by rw [goes_2, hd2]
            rw [hg, if_pos rfl] at hr2
            have HD := Lib.hid hr2
            rw [hd2] at D
            clear hr2 hg hd2
            go_wp2_with (go_at_call 46; (with_reducible refine (D.out _).mono ?_); rintro e w' ⟨rfl, rfl⟩)
            go_round
            case rel => exact ⟨j + 1, by omega, by omega, by go_num, Lib.hid (by have := HD.out; omega)⟩
            case measure => simp [intOf]; omega
        · have HD : Hid (runLen 2 (s.data.toList.drop (i + 1)) = j - (i + 1) + 0) := by
            have hr2 := hr.out
            rw [show s.data.toList.drop j = [] from List.drop_of_length_le (by rw [← Lib.size_eq]; omega)] at hr2
            exact Lib.hid hr2
          have hdk : decide ((j : Int) < (s.size : Int)) = false := decide_eq_false (by omega)
          clear hr
          go_wp2
          have hx : s.extract i j = bs x.t := by rw [extract_tok s i j hi hj1, C.out, HX.out.2.2.1]; congr 3; have := HD.out; omega
          have hsl := fun w => slice_run s i j (by omega) hj2 w
          rw [hx] at hsl
          have HSL := Lib.hid hsl
          clear HD hdk hsl
          go_loopw [10] (fun a wr => ∃ m : Nat, i ≤ m ∧ m ≤ j ∧ a = .int .i64 m ∧ TB wr w.heap.size ⟨0, 0, [], 0⟩ ∧ TB wr (w.heap.size + 1) ⟨2, i, [], numOf (x.t.take (m - i))⟩ ∧ Below w.heap.size w wr) (fun a _ => j - (intOf a).toNat)
          case atStart => exact ⟨i, Nat.le_refl _, by omega, rfl, T4, by rw [Nat.sub_self]; exact T5, B2⟩
          case round =>
            clear T4 T5 B2
            obtain ⟨m, hm1, hm2, rfl, T4, T5, B2⟩ := hrel
            by_cases hmj : m < j
            · obtain ⟨g1, g2, g3⟩ := extract_get s i j m hm1 hmj hj2 x.t hx
              have hdg := HG.out x.t[m - i] (List.getElem_mem g2)
              have hsn := take_snoc x.t (m - i) g2
              rw [g3] at hdg hsn
              generalize hu : s[m] = u at *
              have hub : 48 ≤ u.toNat ∧ u.toNat ≤ 57 := by simpa [dgt] using hdg
              obtain ⟨hu1, hu2⟩ := hub
              have hN := numOf_snoc (x.t.take (m - i)) u
              rw [← hsn, show m - i + 1 = m + 1 - i by omega] at hN
              have hNle := numOf_le (x.t.take (m - i))
              have H1 := Lib.hid hN
              clear hN hsn hdg g3 g2 hx
              generalize numOf (x.t.take (m - i)) = y at *
              have c3 := T5.c3
              have f5 := T5.frozen
              have hmd : decide ((m : Int) < (j : Int)) = true := decide_eq_true (by omega)
              go_wp2
              go_region
              all_goals go_wp2
              have he : min ((y : Int) * 10 + ((u.toNat : Int) - 48)) 1099511627776 = ((numOf (x.t.take (m + 1 - i)) : Nat) : Int) := by rw [H1.out]; omega
              rw [he]
              exact ⟨⟨m + 1, by omega, by omega, by go_num, ⟨(T4.other ⟨w.heap.size + 1, 3, none⟩ _ (by simp)).is⟩, ⟨(T5.num (n' := numOf (x.t.take (m + 1 - i)))).is⟩, (B2.setCell (p := ⟨w.heap.size + 1, 3, none⟩) (Nat.le_succ _) _).drew⟩, by simp [intOf]; omega⟩
            · obtain rfl : m = j := by omega
              have hmd : decide ((m : Int) < (m : Int)) = false := decide_eq_false (by omega)
              have hfull : x.t.take (m - i) = x.t := by
                refine List.take_of_length_le ?_
                have e := congrArg ByteArray.size hx
                rw [bs_size] at e
                rw [← e]; simp; omega
              rw [hfull] at T5
              have hsl := HSL.out
              have c0 := T5.c0
              have c1 := T5.c1
              have c2 := T5.c2
              have c3 := T5.c3
              have f5 := T5.frozen
              have g4 := T4.frozen
              have q0 := T4.c0
              have q1 := T4.c1
              have q2 := T4.c2
              have q3 := T4.c3
              clear hfull hx
              go_wp2
              have R := (T4.other ⟨w.heap.size + 1, 2, none⟩ (.string (bs x.t)) (by simp)).whole (y := ⟨2, i, x.t, numOf x.t⟩)
              exact bodyPost_ret (v := tkV ⟨2, i, x.t, numOf x.t⟩) (results_tok rfl _ _ _ _ rfl R) rfl ⟨congrArg Ending.returned (tk_eq HX.out.1 HX.out.2.1 HX.out.2.2.2), below_whole (B2.setCell (p := ⟨w.heap.size + 1, 2, none⟩) (Nat.le_succ _) _) (Nat.le_refl _) _ _ _ _⟩
  · have hkc := kind_ltr hl
    have hk : oneT i c (s.data.toList.drop (i + 1)) = tkOf i c (s.data.toList.drop (i + 1)) := by rw [oneT, hkc, if_neg (by omega)]
    rw [hk]
    generalize hx : tkOf i c (s.data.toList.drop (i + 1)) = x
    have hxl : x.k = 1 ∧ x.at' = i ∧ x.t = c :: (s.data.toList.drop (i + 1)).take (runLen 1 (s.data.toList.drop (i + 1))) ∧ x.n = 0 := by
      subst hx
      refine ⟨hkc, rfl, by simp only [tkOf, hkc], by simp [tkOf, hkc]⟩
    have HX := Lib.hid hxl
    rw [hl] at L
    clear hk hx hxl hkc hl
    generalize dgt c = dc at *
    go_enter Try.func42, Try.ntmps42
    go_upto_region 2 with (fail)
    rw [HW.out]
    go_wp2_with (first
      | (go_at_call 45; (with_reducible refine (L.out _).mono ?_); rintro e w' ⟨rfl, rfl⟩)
      | (go_at_call 46; (with_reducible refine (D.out _).mono ?_); rintro e w' ⟨rfl, rfl⟩))
    obtain ⟨W2, hW2, T4', T5', B2⟩ : ∃ W2, W1.setCell ⟨w.heap.size + 1, 0, none⟩ (.int .i64 1) = W2 ∧ TB W2 w.heap.size ⟨0, 0, [], 0⟩ ∧ TB W2 (w.heap.size + 1) ⟨1, i, [], 0⟩ ∧ Below w.heap.size w W2 :=
      ⟨_, rfl, T4.other _ _ (by simp), T5.kind' (k' := 1), B1.setCell (p := ⟨w.heap.size + 1, 0, none⟩) (Nat.le_succ _) _⟩
    rw [hW2]
    clear hW2 T4 T5 B1 f5 c0 c1 c2 c3 g4 q0 q1 q2 q3 L D HW
    have T4 := T4'
    have T5 := T5'
    clear T4' T5'
    go_loop [6] (fun e => ∃ j : Nat, i + 1 ≤ j ∧ j ≤ s.size ∧ e = .int .i64 j ∧ Hid (runLen 1 (s.data.toList.drop (i + 1)) = (j - (i + 1)) + runLen 1 (s.data.toList.drop j))) (fun e => s.size - (intOf e).toNat)
    case atStart => exact ⟨i + 1, Nat.le_refl _, by omega, by go_num, Lib.hid (by omega)⟩
    case round =>
      obtain ⟨j, hj1, hj2, rfl, hr⟩ := hrel
      by_cases hlt : j < s.size
      · obtain ⟨d, hd⟩ : ∃ d, s[j] = d := ⟨_, rfl⟩
        have hr2 := hr.out
        rw [drop_get s j hlt, hd, runLen] at hr2
        have hdk : decide ((j : Int) < (s.size : Int)) = true := decide_eq_true (by omega)
        have hd256 := d.toNat_lt
        have L := Lib.hid (fun w => rletter_any d w)
        have D := Lib.hid (fun w => rdigit_any d w)
        clear hr
        cases hl : ltr d
        · cases hd2 : dgt d
          · by_cases h46 : d.toNat = 46
            · have hg : goes 1 d = true := by simp [goes, hl, hd2, h46]
              rw [hg, if_pos rfl] at hr2
              have HD := Lib.hid hr2
              rw [hl] at L
              rw [hd2] at D
              have t46 : ((d.toNat : Int) == 46) = true := by simp; omega
              have T46 := Lib.hid h46
              clear hr2 hg hl hd2 h46
              go_wp2_with (first
                | (go_at_call 45; (with_reducible refine (L.out _).mono ?_); rintro e w' ⟨rfl, rfl⟩)
                | (go_at_call 46; (with_reducible refine (D.out _).mono ?_); rintro e w' ⟨rfl, rfl⟩))
              go_round
              case rel => exact ⟨j + 1, by omega, by omega, by go_num, Lib.hid (by have := HD.out; omega)⟩
              case measure => simp [intOf]; omega
            · by_cases h45 : d.toNat = 45
              · have hg : goes 1 d = true := by simp [goes, hl, hd2, h45]
                rw [hg, if_pos rfl] at hr2
                have HD := Lib.hid hr2
                rw [hl] at L
                rw [hd2] at D
                have t46 : ((d.toNat : Int) == 46) = false := by simp; omega
                have t45 : ((d.toNat : Int) == 45) = true := by simp; omega
                have T45 := Lib.hid h45
                clear hr2 hg hl hd2 h46 h45
                go_wp2_with (first
                  | (go_at_call 45; (with_reducible refine (L.out _).mono ?_); rintro e w' ⟨rfl, rfl⟩)
                  | (go_at_call 46; (with_reducible refine (D.out _).mono ?_); rintro e w' ⟨rfl, rfl⟩))
                go_round
                case rel => exact ⟨j + 1, by omega, by omega, by go_num, Lib.hid (by have := HD.out; omega)⟩
                case measure => simp [intOf]; omega
              · have hg : goes 1 d = false := by simp [goes, hl, hd2, h45, h46]
                rw [hg, if_neg (by simp)] at hr2
                have HD := Lib.hid hr2
                rw [hl] at L
                rw [hd2] at D
                have t46 : ((d.toNat : Int) == 46) = false := by simp; omega
                have t45 : ((d.toNat : Int) == 45) = false := by simp; omega
                clear hr2 hg hl hd2 h46 h45
                have hx : s.extract i j = bs x.t := by rw [extract_tok s i j hi hj1, C.out, HX.out.2.2.1]; congr 3; have := HD.out; omega
                have hsl := fun w => slice_run s i j (by omega) hj2 w
                rw [hx] at hsl
                have c1 := T5.c1
                have c2 := T5.c2
                have c3 := T5.c3
                have f5 := T5.frozen
                have g4 := T4.frozen
                have q0 := T4.c0
                have q1 := T4.c1
                have q2 := T4.c2
                have q3 := T4.c3
                have c0 := T5.c0
                clear HD
                go_wp2_with (first
                  | (go_at_call 45; (with_reducible refine (L.out _).mono ?_); rintro e w' ⟨rfl, rfl⟩)
                  | (go_at_call 46; (with_reducible refine (D.out _).mono ?_); rintro e w' ⟨rfl, rfl⟩))
                have R := (T4.other ⟨w.heap.size + 1, 2, none⟩ (.string (bs x.t)) (by simp)).whole (y := ⟨1, i, x.t, 0⟩)
                exact bodyPost_ret (v := tkV ⟨1, i, x.t, 0⟩) (results_tok rfl _ _ _ _ rfl R) rfl ⟨congrArg Ending.returned (tk_eq HX.out.1 HX.out.2.1 HX.out.2.2.2), below_whole (B2.setCell (p := ⟨w.heap.size + 1, 2, none⟩) (Nat.le_succ _) _) (Nat.le_refl _) _ _ _ _⟩
          · have hg : goes 1 d = true := by simp [goes, hl, hd2]
            rw [hg, if_pos rfl] at hr2
            have HD := Lib.hid hr2
            rw [hl] at L
            rw [hd2] at D
            clear hr2 hg hl hd2
            go_wp2_with (first
              | (go_at_call 45; (with_reducible refine (L.out _).mono ?_); rintro e w' ⟨rfl, rfl⟩)
              | (go_at_call 46; (with_reducible refine (D.out _).mono ?_); rintro e w' ⟨rfl, rfl⟩))
            go_round
            case rel => exact ⟨j + 1, by omega, by omega, by go_num, Lib.hid (by have := HD.out; omega)⟩
            case measure => simp [intOf]; omega
        · have hg : goes 1 d = true := by simp [goes, hl]
          rw [hg, if_pos rfl] at hr2
          have HD := Lib.hid hr2
          rw [hl] at L
          clear hr2 hg hl
          go_wp2_with (first
            | (go_at_call 45; (with_reducible refine (L.out _).mono ?_); rintro e w' ⟨rfl, rfl⟩)
            | (go_at_call 46; (with_reducible refine (D.out _).mono ?_); rintro e w' ⟨rfl, rfl⟩))
          go_round
          case rel => exact ⟨j + 1, by omega, by omega, by go_num, Lib.hid (by have := HD.out; omega)⟩
          case measure => simp [intOf]; omega
      · have HD : Hid (runLen 1 (s.data.toList.drop (i + 1)) = j - (i + 1) + 0) := by
          have hr2 := hr.out
          rw [show s.data.toList.drop j = [] from List.drop_of_length_le (by rw [← Lib.size_eq]; omega)] at hr2
          exact Lib.hid hr2
        have hdk : decide ((j : Int) < (s.size : Int)) = false := decide_eq_false (by omega)
        clear hr
        have hx : s.extract i j = bs x.t := by rw [extract_tok s i j hi hj1, C.out, HX.out.2.2.1]; congr 3; have := HD.out; omega
        have hsl := fun w => slice_run s i j (by omega) hj2 w
        rw [hx] at hsl
        have c1 := T5.c1
        have c2 := T5.c2
        have c3 := T5.c3
        have f5 := T5.frozen
        have g4 := T4.frozen
        have q0 := T4.c0
        have q1 := T4.c1
        have q2 := T4.c2
        have q3 := T4.c3
        have c0 := T5.c0
        clear HD
        go_wp2
        have R := (T4.other ⟨w.heap.size + 1, 2, none⟩ (.string (bs x.t)) (by simp)).whole (y := ⟨1, i, x.t, 0⟩)
        exact bodyPost_ret (v := tkV ⟨1, i, x.t, 0⟩) (results_tok rfl _ _ _ _ rfl R) rfl ⟨congrArg Ending.returned (tk_eq HX.out.1 HX.out.2.1 HX.out.2.2.2), below_whole (B2.setCell (p := ⟨w.heap.size + 1, 2, none⟩) (Nat.le_succ _) _) (Nat.le_refl _) _ _ _ _⟩
end Go.Proofs.Ytngmaiiibinkaaa
