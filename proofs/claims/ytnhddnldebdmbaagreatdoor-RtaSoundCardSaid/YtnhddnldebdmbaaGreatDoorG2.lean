/- Texts about the program, one after the other: One, Word, RWord, Tsk, TskR, Row, Spec, Find, Set0. -/
import Derived.Test.YtnhddnldebdmbaaGreatDoorG1
import Derived.Deep.CutBlock
import Derived.Deep.Quiet
import Derived.Deep.MidRow
import Derived.Below
import Derived.ChangeOld
import Derived.ProofKit
import Derived.OpenShut
import Derived.LaidMore
import Derived.Laws.BytesString
import Derived.Laws.AppendOwn
import Derived.RangeFuncBox
/- The document's own answer: one token. -/
namespace Go.Proofs.YtnhddnldebdmbaaGreatDoor
open Go.RowKit
set_option linter.unusedVariables false

/-- One token, as the document's own answer tells it. -/
def oneT (i : Nat) (c : UInt8) (r : List UInt8) : Tk := if kind c = 0 then ⟨0, 0, [], 0⟩ else tkOf i c r
theorem kind_ltr {c : UInt8} (h : ltr c = true) : kind c = 1 := by rw [kind, if_pos h]
theorem kind_dgt {c : UInt8} (h : ltr c = false) (h2 : dgt c = true) : kind c = 2 := by rw [kind, if_neg (by rw [h]; simp), if_pos h2]
theorem kind_eq {c : UInt8} (h : ltr c = false) (h2 : dgt c = false) (h3 : c.toNat = 61) : kind c = 3 := by rw [kind, if_neg (by rw [h]; simp), if_neg (by rw [h2]; simp), if_pos h3]
theorem kind_lf {c : UInt8} (h : ltr c = false) (h2 : dgt c = false) (h3 : c.toNat = 10) : kind c = 4 := by rw [kind, if_neg (by rw [h]; simp), if_neg (by rw [h2]; simp), if_neg (by omega), if_pos h3]
theorem kind_no {c : UInt8} (h : ltr c = false) (h2 : dgt c = false) (h3 : c.toNat ≠ 61) (h4 : c.toNat ≠ 10) : kind c = 0 := by rw [kind, if_neg (by rw [h]; simp), if_neg (by rw [h2]; simp), if_neg h3, if_neg h4]
theorem runLen_no {k : Nat} (h : ∀ c, goes k c = false) : ∀ l, runLen k l = 0
  | [] => rfl
  | c :: r => by rw [runLen, if_neg (by rw [h c]; simp)]

theorem slice_run (s : ByteArray) (i j : Nat) (h1 : i ≤ j) (h2 : j ≤ s.size) (w : World) : (Instr.slice 9 (.string s) (some (.int .i64 (i : Int))) (some (.int .i64 (j : Int))) none).run Tryz.prog w = .ok (.string (s.extract i j)) w := by
  have hij : (i : Int) ≤ (j : Int) := by omega
  have hjs : (j : Int) ≤ (s.size : Int) := by omega
  go_simp

theorem TB.kind' {W : World} {b k k' i n : Nat} {t : List UInt8} (h : TB W b ⟨k, i, t, n⟩) : TB (W.setCell ⟨b, 0, none⟩ (.int .i64 (k' : Int))) b ⟨k', i, t, n⟩ :=
  ⟨heap_setCell_same _ b 0 _ _ (.int .i64 (k' : Int)) h.is⟩
theorem extract_get (s : ByteArray) (i j m : Nat) (hi : i ≤ m) (hm : m < j) (hj : j ≤ s.size) (t : List UInt8) (h : s.extract i j = bs t) : ∃ h1 : m < s.size, ∃ h2 : m - i < t.length, t[m - i] = s[m] := by
  have e := congrArg (fun b : ByteArray => b.data.toList) h
  simp only [bs_toList, Lib.extract_data] at e
  have hs := Lib.size_eq s
  have hl : t.length = j - i := by rw [← e, List.length_take, List.length_drop]; omega
  refine ⟨by omega, by omega, ?_⟩
  have h2 : t[m - i]? = some s[m] := by
    rw [← e, List.getElem?_take_of_lt (by omega), List.getElem?_drop, show i + (m - i) = m by omega]
    rw [List.getElem?_eq_getElem (by omega)]
    rfl
  rw [List.getElem?_eq_getElem (by omega)] at h2
  exact Option.some.inj h2

set_option maxRecDepth 100000 in
set_option maxHeartbeats 4000000 in
theorem one_any (s : ByteArray) (i : Nat) (w : World) (hi : i < s.size) (hs : s.size ≤ 9223372036854775807) : Calls Tryz.prog 58 #[.string s, .int .i64 (i : Int)] w fun e w' => e = .returned (tkV (oneT i s[i] (s.data.toList.drop (i + 1)))) ∧ Below w.heap.size w w' := by
  obtain ⟨c, hc⟩ : ∃ c, s[i] = c := ⟨_, rfl⟩
  rw [hc]
  obtain ⟨W1, hW1, T4, T5, B1⟩ := two_toks w 0 i
  have HW := Lib.hid hW1
  rw [show ((0 : Nat) : Int) = 0 from rfl] at HW
  have C := Lib.hid hc
  have hc256 := c.toNat_lt
  have L := Lib.hid (fun w => rletter_any c w)
  have D := Lib.hid (fun w => rdigit_any c w)
  clear hW1
  have f5 := T5.frozen
  have c0 := T5.c0
  have c1 := T5.c1
  have c2 := T5.c2
  have c3 := T5.c3
  have g4 := T4.frozen
  have q0 := T4.c0
  have q1 := T4.c1
  have q2 := T4.c2
  have q3 := T4.c3
  cases hl : ltr c
  · cases hd : dgt c
    · by_cases h61 : c.toNat = 61
      · have hk : oneT i c (s.data.toList.drop (i + 1)) = ⟨3, i, [c], 0⟩ := by rw [oneT, kind_eq hl hd h61, if_neg (by omega), tkOf, kind_eq hl hd h61, runLen_no goes_3]; simp
        rw [hk]
        rw [hl] at L
        rw [hd] at D
        have t1 : ((c.toNat : Int) == 61) = true := by simp; omega
        have hx : s.extract i (i + 1) = bs [c] := by rw [extract_tok s i (i + 1) hi (Nat.le_refl _), C.out]; simp
        have hsl := fun w => slice_run s i (i + 1) (by omega) (by omega) w
        rw [hx, show ((i + 1 : Nat) : Int) = (i : Int) + 1 from rfl] at hsl
        have T61 := Lib.hid h61
        clear hk hl hd h61
        go_enter Tryz.func58, Tryz.ntmps58
        go_upto_region 2 with (fail)
        rw [HW.out]
        go_wp2_with (first
          | (go_at_call 83; (with_reducible refine (L.out _).mono ?_); rintro e w' ⟨rfl, rfl⟩)
          | (go_at_call 84; (with_reducible refine (D.out _).mono ?_); rintro e w' ⟨rfl, rfl⟩))
        have R := ((T4.other ⟨w.heap.size + 1, 0, none⟩ (.int .i64 3) (by simp)).other ⟨w.heap.size + 1, 2, none⟩ (.string (bs [c])) (by simp)).whole (y := ⟨3, i, [c], 0⟩)
        exact bodyPost_ret (v := tkV ⟨3, i, [c], 0⟩) (results_tok rfl _ _ _ _ rfl R) rfl ⟨rfl, below_whole ((B1.setCell (p := ⟨w.heap.size + 1, 0, none⟩) (Nat.le_succ _) _).setCell (p := ⟨w.heap.size + 1, 2, none⟩) (Nat.le_succ _) _) (Nat.le_refl _) _ _ _ _⟩
      · by_cases h10 : c.toNat = 10
        · have hk : oneT i c (s.data.toList.drop (i + 1)) = ⟨4, i, [c], 0⟩ := by rw [oneT, kind_lf hl hd h10, if_neg (by omega), tkOf, kind_lf hl hd h10, runLen_no goes_4]; simp
          rw [hk]
          rw [hl] at L
          rw [hd] at D
          have t1 : ((c.toNat : Int) == 10) = true := by simp; omega
          have t2 : ((c.toNat : Int) == 61) = false := by simp; omega
          have T10 := Lib.hid h61
          clear h61
          have hx : s.extract i (i + 1) = bs [c] := by rw [extract_tok s i (i + 1) hi (Nat.le_refl _), C.out]; simp
          have hsl := fun w => slice_run s i (i + 1) (by omega) (by omega) w
          rw [hx, show ((i + 1 : Nat) : Int) = (i : Int) + 1 from rfl] at hsl
          have T61 := Lib.hid h10
          clear hk hl hd h10
          go_enter Tryz.func58, Tryz.ntmps58
          go_upto_region 2 with (fail)
          rw [HW.out]
          go_wp2_with (first
            | (go_at_call 83; (with_reducible refine (L.out _).mono ?_); rintro e w' ⟨rfl, rfl⟩)
            | (go_at_call 84; (with_reducible refine (D.out _).mono ?_); rintro e w' ⟨rfl, rfl⟩))
          have R := ((T4.other ⟨w.heap.size + 1, 0, none⟩ (.int .i64 4) (by simp)).other ⟨w.heap.size + 1, 2, none⟩ (.string (bs [c])) (by simp)).whole (y := ⟨4, i, [c], 0⟩)
          exact bodyPost_ret (v := tkV ⟨4, i, [c], 0⟩) (results_tok rfl _ _ _ _ rfl R) rfl ⟨rfl, below_whole ((B1.setCell (p := ⟨w.heap.size + 1, 0, none⟩) (Nat.le_succ _) _).setCell (p := ⟨w.heap.size + 1, 2, none⟩) (Nat.le_succ _) _) (Nat.le_refl _) _ _ _ _⟩
        · have hk : oneT i c (s.data.toList.drop (i + 1)) = ⟨0, 0, [], 0⟩ := by rw [oneT, kind_no hl hd h61 h10, if_pos rfl]
          rw [hk]
          rw [hl] at L
          rw [hd] at D
          have t1 : ((c.toNat : Int) == 61) = false := by simp; omega
          have t2 : ((c.toNat : Int) == 10) = false := by simp; omega
          clear hk hl hd h61 h10
          go_enter Tryz.func58, Tryz.ntmps58
          go_upto_region 2 with (fail)
          rw [HW.out]
          go_wp2_with (first
          | (go_at_call 83; (with_reducible refine (L.out _).mono ?_); rintro e w' ⟨rfl, rfl⟩)
          | (go_at_call 84; (with_reducible refine (D.out _).mono ?_); rintro e w' ⟨rfl, rfl⟩))
          have R := T4.whole (y := ⟨0, 0, [], 0⟩)
          exact bodyPost_ret (v := tkV ⟨0, 0, [], 0⟩) (results_tok rfl _ _ _ _ rfl R) rfl ⟨rfl, below_whole B1 (Nat.le_refl _) _ _ _ _⟩
    · have hkc := kind_dgt hl hd
      have hk : oneT i c (s.data.toList.drop (i + 1)) = tkOf i c (s.data.toList.drop (i + 1)) := by rw [oneT, hkc, if_neg (by omega)]
      rw [hk]
      have hdig := tkOf_digits (i := i) (r := s.data.toList.drop (i + 1)) hkc
      generalize hx : tkOf i c (s.data.toList.drop (i + 1)) = x at *
      have hxl : x.k = 2 ∧ x.at' = i ∧ x.t = c :: (s.data.toList.drop (i + 1)).take (runLen 2 (s.data.toList.drop (i + 1))) ∧ x.n = numOf x.t := by
        subst hx
        refine ⟨hkc, rfl, by simp only [tkOf, hkc], by simp [tkOf, hkc]⟩
      have HX := Lib.hid hxl
      have HG := Lib.hid hdig
      rw [hl] at L
      rw [hd] at D
      clear hk hx hxl hkc hl hd hdig
      go_enter Tryz.func58, Tryz.ntmps58
      go_upto_region 2 with (fail)
      rw [HW.out]
      go_wp2_with (first
        | (go_at_call 83; (with_reducible refine (L.out _).mono ?_); rintro e w' ⟨rfl, rfl⟩)
        | (go_at_call 84; (with_reducible refine (D.out _).mono ?_); rintro e w' ⟨rfl, rfl⟩))
      obtain ⟨W2, hW2, T4', T5', B2⟩ : ∃ W2, W1.setCell ⟨w.heap.size + 1, 0, none⟩ (.int .i64 2) = W2 ∧ TB W2 w.heap.size ⟨0, 0, [], 0⟩ ∧ TB W2 (w.heap.size + 1) ⟨2, i, [], 0⟩ ∧ Below w.heap.size w W2 :=
        ⟨_, rfl, T4.other _ _ (by simp), T5.kind' (k' := 2), B1.setCell (p := ⟨w.heap.size + 1, 0, none⟩) (Nat.le_succ _) _⟩
      rw [hW2]
      clear hW2 T4 T5 B1 f5 c0 c1 c2 c3 g4 q0 q1 q2 q3 L D HW
      have T4 := T4'
      have T5 := T5'
      clear T4' T5'
      go_loop [6] (fun e => ∃ j : Nat, i + 1 ≤ j ∧ j ≤ s.size ∧ e = .int .i64 j ∧ Hid (runLen 2 (s.data.toList.drop (i + 1)) = (j - (i + 1)) + runLen 2 (s.data.toList.drop j))) (fun e => s.size - (intOf e).toNat)
      case atStart => exact ⟨i + 1, Nat.le_refl _, by omega, by go_num, Lib.hid (by omega)⟩
      case round =>
        obtain ⟨j, hj1, hj2, rfl, hr⟩ := hrel
        by_cases hlt : j < s.size
        · obtain ⟨d, hd⟩ : ∃ d, s[j] = d := ⟨_, rfl⟩
          have hr2 := hr.out
          rw [drop_get s j hlt, hd, runLen] at hr2
          have hdk : decide ((j : Int) < (s.size : Int)) = true := decide_eq_true (by omega)
          have hd256 := d.toNat_lt
          have D := Lib.hid (fun w => rdigit_any d w)
          clear hr
          cases hd2 : dgt d
          · have hg : goes 2 d = false := by rw [goes_2, hd2]
            rw [hg, if_neg (by simp)] at hr2
            have HD := Lib.hid hr2
            rw [hd2] at D
            clear hr2 hg hd2
            go_wp2_with (go_at_call 84; (with_reducible refine (D.out _).mono ?_); rintro e w' ⟨rfl, rfl⟩)
            have hx : s.extract i j = bs x.t := by rw [extract_tok s i j hi hj1, C.out, HX.out.2.2.1]; congr 3; have := HD.out; omega
            have hsl := fun w => slice_run s i j (by omega) hj2 w
            rw [hx] at hsl
            have HSL := Lib.hid hsl
            clear HD hdk hsl
            go_loopw [10] (fun a wr => ∃ m : Nat, i ≤ m ∧ m ≤ j ∧ a = .int .i64 m ∧ TB wr w.heap.size ⟨0, 0, [], 0⟩ ∧ TB wr (w.heap.size + 1) ⟨2, i, [], numOf (x.t.take (m - i))⟩ ∧ Below w.heap.size w wr) (fun a _ => j - (intOf a).toNat)
            case atStart => exact ⟨i, Nat.le_refl _, by omega, rfl, T4, by rw [Nat.sub_self]; exact T5, B2⟩
            case round =>
              clear T4 T5 B2
              obtain ⟨m, hm1, hm2, rfl, T4, T5, B2⟩ := hrel
              by_cases hmj : m < j
              · obtain ⟨g1, g2, g3⟩ := extract_get s i j m hm1 hmj hj2 x.t hx
                have hdg := HG.out x.t[m - i] (List.getElem_mem g2)
                have hsn := take_snoc x.t (m - i) g2
                rw [g3] at hdg hsn
                generalize hu : s[m] = u at *
                have hub : 48 ≤ u.toNat ∧ u.toNat ≤ 57 := by simpa [dgt] using hdg
                obtain ⟨hu1, hu2⟩ := hub
                have hN := numOf_snoc (x.t.take (m - i)) u
                rw [← hsn, show m - i + 1 = m + 1 - i by omega] at hN
                have hNle := numOf_le (x.t.take (m - i))
                have H1 := Lib.hid hN
                clear hN hsn hdg g3 g2 hx
                generalize numOf (x.t.take (m - i)) = y at *
                have c3 := T5.c3
                have f5 := T5.frozen
                have hmd : decide ((m : Int) < (j : Int)) = true := decide_eq_true (by omega)
                go_wp2
                go_region
                all_goals go_wp2
                have he : min ((y : Int) * 10 + ((u.toNat : Int) - 48)) 1099511627776 = ((numOf (x.t.take (m + 1 - i)) : Nat) : Int) := by rw [H1.out]; omega
                rw [he]
                exact ⟨⟨m + 1, by omega, by omega, by go_num, ⟨(T4.other ⟨w.heap.size + 1, 3, none⟩ _ (by simp)).is⟩, ⟨(T5.num (n' := numOf (x.t.take (m + 1 - i)))).is⟩, (B2.setCell (p := ⟨w.heap.size + 1, 3, none⟩) (Nat.le_succ _) _).drew⟩, by simp [intOf]; omega⟩
              · obtain rfl : m = j := by omega
                have hmd : decide ((m : Int) < (m : Int)) = false := decide_eq_false (by omega)
                have hfull : x.t.take (m - i) = x.t := by
                  refine List.take_of_length_le ?_
                  have e := congrArg ByteArray.size hx
                  rw [bs_size] at e
                  rw [← e]; simp; omega
                rw [hfull] at T5
                have hsl := HSL.out
                have c0 := T5.c0
                have c1 := T5.c1
                have c2 := T5.c2
                have c3 := T5.c3
                have f5 := T5.frozen
                have g4 := T4.frozen
                have q0 := T4.c0
                have q1 := T4.c1
                have q2 := T4.c2
                have q3 := T4.c3
                clear hfull hx
                go_wp2
                have R := (T4.other ⟨w.heap.size + 1, 2, none⟩ (.string (bs x.t)) (by simp)).whole (y := ⟨2, i, x.t, numOf x.t⟩)
                exact bodyPost_ret (v := tkV ⟨2, i, x.t, numOf x.t⟩) (results_tok rfl _ _ _ _ rfl R) rfl ⟨congrArg Ending.returned (tk_eq HX.out.1 HX.out.2.1 HX.out.2.2.2), below_whole (B2.setCell (p := ⟨w.heap.size + 1, 2, none⟩) (Nat.le_succ _) _) (Nat.le_refl _) _ _ _ _⟩
          · have hg : goes 2 d = true := by rw [goes_2, hd2]
            rw [hg, if_pos rfl] at hr2
            have HD := Lib.hid hr2
            rw [hd2] at D
            clear hr2 hg hd2
            go_wp2_with (go_at_call 84; (with_reducible refine (D.out _).mono ?_); rintro e w' ⟨rfl, rfl⟩)
            go_round
            case rel => exact ⟨j + 1, by omega, by omega, by go_num, Lib.hid (by have := HD.out; omega)⟩
            case measure => simp [intOf]; omega
        · have HD : Hid (runLen 2 (s.data.toList.drop (i + 1)) = j - (i + 1) + 0) := by
            have hr2 := hr.out
            rw [show s.data.toList.drop j = [] from List.drop_of_length_le (by rw [← Lib.size_eq]; omega)] at hr2
            exact Lib.hid hr2
          have hdk : decide ((j : Int) < (s.size : Int)) = false := decide_eq_false (by omega)
          clear hr
          go_wp2
          have hx : s.extract i j = bs x.t := by rw [extract_tok s i j hi hj1, C.out, HX.out.2.2.1]; congr 3; have := HD.out; omega
          have hsl := fun w => slice_run s i j (by omega) hj2 w
          rw [hx] at hsl
          have HSL := Lib.hid hsl
          clear HD hdk hsl
          go_loopw [10] (fun a wr => ∃ m : Nat, i ≤ m ∧ m ≤ j ∧ a = .int .i64 m ∧ TB wr w.heap.size ⟨0, 0, [], 0⟩ ∧ TB wr (w.heap.size + 1) ⟨2, i, [], numOf (x.t.take (m - i))⟩ ∧ Below w.heap.size w wr) (fun a _ => j - (intOf a).toNat)
          case atStart => exact ⟨i, Nat.le_refl _, by omega, rfl, T4, by rw [Nat.sub_self]; exact T5, B2⟩
          case round =>
            clear T4 T5 B2
            obtain ⟨m, hm1, hm2, rfl, T4, T5, B2⟩ := hrel
            by_cases hmj : m < j
            · obtain ⟨g1, g2, g3⟩ := extract_get s i j m hm1 hmj hj2 x.t hx
              have hdg := HG.out x.t[m - i] (List.getElem_mem g2)
              have hsn := take_snoc x.t (m - i) g2
              rw [g3] at hdg hsn
              generalize hu : s[m] = u at *
              have hub : 48 ≤ u.toNat ∧ u.toNat ≤ 57 := by simpa [dgt] using hdg
              obtain ⟨hu1, hu2⟩ := hub
              have hN := numOf_snoc (x.t.take (m - i)) u
              rw [← hsn, show m - i + 1 = m + 1 - i by omega] at hN
              have hNle := numOf_le (x.t.take (m - i))
              have H1 := Lib.hid hN
              clear hN hsn hdg g3 g2 hx
              generalize numOf (x.t.take (m - i)) = y at *
              have c3 := T5.c3
              have f5 := T5.frozen
              have hmd : decide ((m : Int) < (j : Int)) = true := decide_eq_true (by omega)
              go_wp2
              go_region
              all_goals go_wp2
              have he : min ((y : Int) * 10 + ((u.toNat : Int) - 48)) 1099511627776 = ((numOf (x.t.take (m + 1 - i)) : Nat) : Int) := by rw [H1.out]; omega
              rw [he]
              exact ⟨⟨m + 1, by omega, by omega, by go_num, ⟨(T4.other ⟨w.heap.size + 1, 3, none⟩ _ (by simp)).is⟩, ⟨(T5.num (n' := numOf (x.t.take (m + 1 - i)))).is⟩, (B2.setCell (p := ⟨w.heap.size + 1, 3, none⟩) (Nat.le_succ _) _).drew⟩, by simp [intOf]; omega⟩
            · obtain rfl : m = j := by omega
              have hmd : decide ((m : Int) < (m : Int)) = false := decide_eq_false (by omega)
              have hfull : x.t.take (m - i) = x.t := by
                refine List.take_of_length_le ?_
                have e := congrArg ByteArray.size hx
                rw [bs_size] at e
                rw [← e]; simp; omega
              rw [hfull] at T5
              have hsl := HSL.out
              have c0 := T5.c0
              have c1 := T5.c1
              have c2 := T5.c2
              have c3 := T5.c3
              have f5 := T5.frozen
              have g4 := T4.frozen
              have q0 := T4.c0
              have q1 := T4.c1
              have q2 := T4.c2
              have q3 := T4.c3
              clear hfull hx
              go_wp2
              have R := (T4.other ⟨w.heap.size + 1, 2, none⟩ (.string (bs x.t)) (by simp)).whole (y := ⟨2, i, x.t, numOf x.t⟩)
              exact bodyPost_ret (v := tkV ⟨2, i, x.t, numOf x.t⟩) (results_tok rfl _ _ _ _ rfl R) rfl ⟨congrArg Ending.returned (tk_eq HX.out.1 HX.out.2.1 HX.out.2.2.2), below_whole (B2.setCell (p := ⟨w.heap.size + 1, 2, none⟩) (Nat.le_succ _) _) (Nat.le_refl _) _ _ _ _⟩
  · have hkc := kind_ltr hl
    have hk : oneT i c (s.data.toList.drop (i + 1)) = tkOf i c (s.data.toList.drop (i + 1)) := by rw [oneT, hkc, if_neg (by omega)]
    rw [hk]
    generalize hx : tkOf i c (s.data.toList.drop (i + 1)) = x
    have hxl : x.k = 1 ∧ x.at' = i ∧ x.t = c :: (s.data.toList.drop (i + 1)).take (runLen 1 (s.data.toList.drop (i + 1))) ∧ x.n = 0 := by
      subst hx
      refine ⟨hkc, rfl, by simp only [tkOf, hkc], by simp [tkOf, hkc]⟩
    have HX := Lib.hid hxl
    rw [hl] at L
    clear hk hx hxl hkc hl
    generalize dgt c = dc at *
    go_enter Tryz.func58, Tryz.ntmps58
    go_upto_region 2 with (fail)
    rw [HW.out]
    go_wp2_with (first
      | (go_at_call 83; (with_reducible refine (L.out _).mono ?_); rintro e w' ⟨rfl, rfl⟩)
      | (go_at_call 84; (with_reducible refine (D.out _).mono ?_); rintro e w' ⟨rfl, rfl⟩))
    obtain ⟨W2, hW2, T4', T5', B2⟩ : ∃ W2, W1.setCell ⟨w.heap.size + 1, 0, none⟩ (.int .i64 1) = W2 ∧ TB W2 w.heap.size ⟨0, 0, [], 0⟩ ∧ TB W2 (w.heap.size + 1) ⟨1, i, [], 0⟩ ∧ Below w.heap.size w W2 :=
      ⟨_, rfl, T4.other _ _ (by simp), T5.kind' (k' := 1), B1.setCell (p := ⟨w.heap.size + 1, 0, none⟩) (Nat.le_succ _) _⟩
    rw [hW2]
    clear hW2 T4 T5 B1 f5 c0 c1 c2 c3 g4 q0 q1 q2 q3 L D HW
    have T4 := T4'
    have T5 := T5'
    clear T4' T5'
    go_loop [6] (fun e => ∃ j : Nat, i + 1 ≤ j ∧ j ≤ s.size ∧ e = .int .i64 j ∧ Hid (runLen 1 (s.data.toList.drop (i + 1)) = (j - (i + 1)) + runLen 1 (s.data.toList.drop j))) (fun e => s.size - (intOf e).toNat)
    case atStart => exact ⟨i + 1, Nat.le_refl _, by omega, by go_num, Lib.hid (by omega)⟩
    case round =>
      obtain ⟨j, hj1, hj2, rfl, hr⟩ := hrel
      by_cases hlt : j < s.size
      · obtain ⟨d, hd⟩ : ∃ d, s[j] = d := ⟨_, rfl⟩
        have hr2 := hr.out
        rw [drop_get s j hlt, hd, runLen] at hr2
        have hdk : decide ((j : Int) < (s.size : Int)) = true := decide_eq_true (by omega)
        have hd256 := d.toNat_lt
        have L := Lib.hid (fun w => rletter_any d w)
        have D := Lib.hid (fun w => rdigit_any d w)
        clear hr
        cases hl : ltr d
        · cases hd2 : dgt d
          · by_cases h46 : d.toNat = 46
            · have hg : goes 1 d = true := by simp [goes, hl, hd2, h46]
              rw [hg, if_pos rfl] at hr2
              have HD := Lib.hid hr2
              rw [hl] at L
              rw [hd2] at D
              have t46 : ((d.toNat : Int) == 46) = true := by simp; omega
              have T46 := Lib.hid h46
              clear hr2 hg hl hd2 h46
              go_wp2_with (first
                | (go_at_call 83; (with_reducible refine (L.out _).mono ?_); rintro e w' ⟨rfl, rfl⟩)
                | (go_at_call 84; (with_reducible refine (D.out _).mono ?_); rintro e w' ⟨rfl, rfl⟩))
              go_round
              case rel => exact ⟨j + 1, by omega, by omega, by go_num, Lib.hid (by have := HD.out; omega)⟩
              case measure => simp [intOf]; omega
            · by_cases h45 : d.toNat = 45
              · have hg : goes 1 d = true := by simp [goes, hl, hd2, h45]
                rw [hg, if_pos rfl] at hr2
                have HD := Lib.hid hr2
                rw [hl] at L
                rw [hd2] at D
                have t46 : ((d.toNat : Int) == 46) = false := by simp; omega
                have t45 : ((d.toNat : Int) == 45) = true := by simp; omega
                have T45 := Lib.hid h45
                clear hr2 hg hl hd2 h46 h45
                go_wp2_with (first
                  | (go_at_call 83; (with_reducible refine (L.out _).mono ?_); rintro e w' ⟨rfl, rfl⟩)
                  | (go_at_call 84; (with_reducible refine (D.out _).mono ?_); rintro e w' ⟨rfl, rfl⟩))
                go_round
                case rel => exact ⟨j + 1, by omega, by omega, by go_num, Lib.hid (by have := HD.out; omega)⟩
                case measure => simp [intOf]; omega
              · have hg : goes 1 d = false := by simp [goes, hl, hd2, h45, h46]
                rw [hg, if_neg (by simp)] at hr2
                have HD := Lib.hid hr2
                rw [hl] at L
                rw [hd2] at D
                have t46 : ((d.toNat : Int) == 46) = false := by simp; omega
                have t45 : ((d.toNat : Int) == 45) = false := by simp; omega
                clear hr2 hg hl hd2 h46 h45
                have hx : s.extract i j = bs x.t := by rw [extract_tok s i j hi hj1, C.out, HX.out.2.2.1]; congr 3; have := HD.out; omega
                have hsl := fun w => slice_run s i j (by omega) hj2 w
                rw [hx] at hsl
                have c1 := T5.c1
                have c2 := T5.c2
                have c3 := T5.c3
                have f5 := T5.frozen
                have g4 := T4.frozen
                have q0 := T4.c0
                have q1 := T4.c1
                have q2 := T4.c2
                have q3 := T4.c3
                have c0 := T5.c0
                clear HD
                go_wp2_with (first
                  | (go_at_call 83; (with_reducible refine (L.out _).mono ?_); rintro e w' ⟨rfl, rfl⟩)
                  | (go_at_call 84; (with_reducible refine (D.out _).mono ?_); rintro e w' ⟨rfl, rfl⟩))
                have R := (T4.other ⟨w.heap.size + 1, 2, none⟩ (.string (bs x.t)) (by simp)).whole (y := ⟨1, i, x.t, 0⟩)
                exact bodyPost_ret (v := tkV ⟨1, i, x.t, 0⟩) (results_tok rfl _ _ _ _ rfl R) rfl ⟨congrArg Ending.returned (tk_eq HX.out.1 HX.out.2.1 HX.out.2.2.2), below_whole (B2.setCell (p := ⟨w.heap.size + 1, 2, none⟩) (Nat.le_succ _) _) (Nat.le_refl _) _ _ _ _⟩
          · have hg : goes 1 d = true := by simp [goes, hl, hd2]
            rw [hg, if_pos rfl] at hr2
            have HD := Lib.hid hr2
            rw [hl] at L
            rw [hd2] at D
            clear hr2 hg hl hd2
            go_wp2_with (first
              | (go_at_call 83; (with_reducible refine (L.out _).mono ?_); rintro e w' ⟨rfl, rfl⟩)
              | (go_at_call 84; (with_reducible refine (D.out _).mono ?_); rintro e w' ⟨rfl, rfl⟩))
            go_round
            case rel => exact ⟨j + 1, by omega, by omega, by go_num, Lib.hid (by have := HD.out; omega)⟩
            case measure => simp [intOf]; omega
        · have hg : goes 1 d = true := by simp [goes, hl]
          rw [hg, if_pos rfl] at hr2
          have HD := Lib.hid hr2
          rw [hl] at L
          clear hr2 hg hl
          go_wp2_with (first
            | (go_at_call 83; (with_reducible refine (L.out _).mono ?_); rintro e w' ⟨rfl, rfl⟩)
            | (go_at_call 84; (with_reducible refine (D.out _).mono ?_); rintro e w' ⟨rfl, rfl⟩))
          go_round
          case rel => exact ⟨j + 1, by omega, by omega, by go_num, Lib.hid (by have := HD.out; omega)⟩
          case measure => simp [intOf]; omega
      · have HD : Hid (runLen 1 (s.data.toList.drop (i + 1)) = j - (i + 1) + 0) := by
          have hr2 := hr.out
          rw [show s.data.toList.drop j = [] from List.drop_of_length_le (by rw [← Lib.size_eq]; omega)] at hr2
          exact Lib.hid hr2
        have hdk : decide ((j : Int) < (s.size : Int)) = false := decide_eq_false (by omega)
        clear hr
        have hx : s.extract i j = bs x.t := by rw [extract_tok s i j hi hj1, C.out, HX.out.2.2.1]; congr 3; have := HD.out; omega
        have hsl := fun w => slice_run s i j (by omega) hj2 w
        rw [hx] at hsl
        have c1 := T5.c1
        have c2 := T5.c2
        have c3 := T5.c3
        have f5 := T5.frozen
        have g4 := T4.frozen
        have q0 := T4.c0
        have q1 := T4.c1
        have q2 := T4.c2
        have q3 := T4.c3
        have c0 := T5.c0
        clear HD
        go_wp2
        have R := (T4.other ⟨w.heap.size + 1, 2, none⟩ (.string (bs x.t)) (by simp)).whole (y := ⟨1, i, x.t, 0⟩)
        exact bodyPost_ret (v := tkV ⟨1, i, x.t, 0⟩) (results_tok rfl _ _ _ _ rfl R) rfl ⟨congrArg Ending.returned (tk_eq HX.out.1 HX.out.2.1 HX.out.2.2.2), below_whole (B2.setCell (p := ⟨w.heap.size + 1, 2, none⟩) (Nat.le_succ _) _) (Nat.le_refl _) _ _ _ _⟩
end Go.Proofs.YtnhddnldebdmbaaGreatDoor
/- Word's contract. -/
namespace Go.Proofs.YtnhddnldebdmbaaGreatDoor
open Go.RowKit Go.Shelf
set_option linter.unusedVariables false
attribute [local go_sem] Oper.semAt_some

/-- Is the text one word? -/
def wordB (s : ByteArray) : Bool := match tokL s with
  | [] => false
  | x :: _ => decide (x.k = 1) && decide (x.t.length = s.size)

set_option maxRecDepth 100000 in
set_option maxHeartbeats 4000000 in
theorem word_any (s : ByteArray) (w : World) (hs : s.size ≤ 100000) :
    Calls Tryz.prog 96 #[.string s] w fun e w' => e = .returned (.bool (wordB s)) ∧ Below w.heap.size w w' := by
  refine (callsIn_wide (n := 9)).1 ?_
  refine callsIn_of_wp_marks Tryz.func96 rfl trivial ?_ rfl
  simp only [Tryz.ntmps96, List.size_toArray, List.length_cons, List.length_nil, Nat.reduceAdd, Nat.reduceSub, Array.replicate_succ, Array.replicate_zero, List.push_toArray, List.append_toArray, List.nil_append, List.cons_append]
  obtain ⟨W1, hW1, S1, R1, b1, s1⟩ : ∃ W1, (w.alloc (.cells #[.string s] 9)).alloc (.cells #[.bool false] 4) = W1 ∧ Boxed W1 w.heap.size 9 (.string s) ∧ Boxed W1 (w.heap.size + 1) 4 (.bool false) ∧ Below w.heap.size w W1 ∧ W1.heap.size = w.heap.size + 2 :=
    ⟨_, rfl, Boxed.alloc (Boxed.new _ _ _) _, (by have := Boxed.new (w.alloc (.cells #[.string s] 9)) 4 (.bool false); rwa [World.size_alloc] at this), ((Below.refl _ _).alloc (Nat.le_refl _) _).alloc (by simp) _, by simp⟩
  have c1 := S1.cell
  gi_wp2_with (refine ⟨trivial, ?_⟩; gi_at_call 118; refine (callsIn_wide.2 (each_seq_any _ _)).mono ?_; rintro e w' ⟨rfl, rfl⟩)
  obtain ⟨W2, hW2, S2, R2, P2, B2, s2⟩ : ∃ W2, W1.alloc (.cells #[.string s] 9) = W2 ∧ Boxed W2 w.heap.size 9 (.string s) ∧ Boxed W2 (w.heap.size + 1) 4 (.bool false) ∧ Boxed W2 W1.heap.size 9 (.string s) ∧ Below w.heap.size w W2 ∧ w.heap.size + 2 < W2.heap.size :=
    ⟨_, rfl, Boxed.alloc S1 _, Boxed.alloc R1 _, Boxed.new _ _ _, b1.trans ((Below.refl _ _).alloc b1.size _), by simp; omega⟩
  rw [s1] at P2
  (try rw [hW2])
  clear hW1 hW2 S1 R1 b1 c1 s1
  have hw2 := B2.size
  refine rangeO (gf := 132) (lb := #[.pointer (some ⟨w.heap.size + 2, 0, none⟩)]) rfl (enters_of Tryz.func132 (by kernel_rfl) rfl)
    (each1_seq (9 - 1) (by omega) (w.heap.size + 2) s hs W2 P2) (Below.refl _ _) rfl
    (fun pre V => (pre = [] ∧ Boxed V w.heap.size 9 (.string s) ∧ Boxed V (w.heap.size + 1) 4 (.bool false)) ∧ Below w.heap.size w V)
    (fun c pre V => (c = .ret ∧ ∃ x, pre = [x] ∧ Boxed V (w.heap.size + 1) 4 (.bool (decide (x.k = 1) && decide (x.t.length = s.size)))) ∧ Below w.heap.size w V)
    (OwnFrom.and (fun pre X Y row h hg hr => ⟨h.1, boxed_kept h.2.1 hg (fun r e => (hr r e).2), boxed_kept h.2.2 hg (fun r e => (hr r e).2)⟩) (ownFrom_below (Nat.le_refl _) hw2))
    (fun c => OwnFrom.and (fun pre X Y row h hg hr => ⟨h.1, h.2.imp fun x h => ⟨h.1, boxed_kept h.2 hg (fun r e => (hr r e).2)⟩⟩) (ownFrom_below (Nat.le_refl _) hw2))
    ⟨⟨rfl, S2, R2⟩, B2⟩
    (fun x a' V => ∃ Bx, TB V Bx x ∧ a' = { tmps := #[.string s, .pointer (some ⟨w.heap.size, 0, none⟩), .pointer (some ⟨w.heap.size + 1, 0, none⟩), .pointer (some ⟨Bx, 0, none⟩), .string s, .func (.func 132) #[] #[.pointer (some ⟨w.heap.size + 2, 0, none⟩)], tkV x, undef, undef, undef, undef, undef, undef, undef, undef, undef, undef, undef], defers := [] })
    (fun x a' _ X Y row hs hg hr => hs.imp fun Bx h => ⟨h.1.kept hg (fun r e => (hr r e).2), h.2⟩)
    ?assign ?body ?done ?stop
  case assign =>
    rintro l2 pre x V K ⟨⟨hp, hS, hR⟩, hB⟩ hK
    gi_wp2
    exact hK _ _ ((KeepsOthers.alloc _ _).from _) (Kp.alloc _ _) ⟨⟨hp, Boxed.alloc hS _, Boxed.alloc hR _⟩, hB.trans ((Below.refl _ _).alloc hB.size _)⟩ ⟨_, TB.new V x, rfl⟩
  case body =>
    rintro l2 pre x a' V ⟨⟨rfl, hS, hR⟩, hB⟩ ⟨Bx, hT, rfl⟩ hlen
    have c0 := hT.c0
    have c2 := hT.c2
    have cs := hS.cell
    have cr := hR.cell
    have fr := hR.frozen
    have hbn := bs_size x.t
    by_cases hk : x.k = 1
    · have t0 : ((x.k : Int) == 1) = true := by simp; omega
      by_cases hl : x.t.length = s.size
      · have t1 : ((x.t.length : Int) == (s.size : Int)) = true := by simp; omega
        have HX := Lib.hid (And.intro hk hl)
        clear hk hl
        gi_wp2
        exact ⟨(KeepsOthers.setCell _ _ _).from _, ⟨rfl, x, rfl, by rw [HX.out.1, HX.out.2]; simpa using hR.set (.bool true)⟩, hB.setCell (p := ⟨w.heap.size + 1, 0, none⟩) (Nat.le_succ _) _⟩
      · have t1 : ((x.t.length : Int) == (s.size : Int)) = false := by simp; omega
        have HX := Lib.hid (And.intro hk hl)
        clear hk hl
        gi_wp2
        exact ⟨(KeepsOthers.setCell _ _ _).from _, ⟨rfl, x, rfl, by rw [HX.out.1]; simpa [HX.out.2] using hR.set (.bool false)⟩, hB.setCell (p := ⟨w.heap.size + 1, 0, none⟩) (Nat.le_succ _) _⟩
    · have t0 : ((x.k : Int) == 1) = false := by simp; omega
      have HX := Lib.hid hk
      clear hk
      gi_wp2
      exact ⟨(KeepsOthers.setCell _ _ _).from _, ⟨rfl, x, rfl, by simpa [HX.out] using hR.set (.bool false)⟩, hB.setCell (p := ⟨w.heap.size + 1, 0, none⟩) (Nat.le_succ _) _⟩
  case done =>
    rintro D xs V hD hS ⟨⟨rfl, _, hR⟩, hB⟩ hK
    have cr := hR.cell
    have fr := hR.frozen
    have hwb : wordB s = false := by unfold wordB; rw [← hS]
    have HW := Lib.hid hwb
    clear hwb hS
    gi_wp2
    have hK' := (KeepsOthers.setCell V ⟨w.heap.size + 1, 0, none⟩ (.bool false)).same D _ hK rfl
    refine ⟨by simp, .inl ⟨_, _, rfl, run_takeDeferred hK', ?_⟩⟩
    have hc := cell_kept (hR.set (.bool false)).cell (grownBy_putObj' _ D (.deferred none)) (fun r e => by cases e; exact ⟨_, hK', rfl⟩)
    refine ⟨.bool false, ?_, by rw [HW.out], (hB.setCell (p := ⟨w.heap.size + 1, 0, none⟩) (Nat.le_succ _) _).trans (belowK_b (w := w) (Nat.le_refl _) _ D _ _ (by omega) hK' rfl rfl)⟩
    simp [results, Tryz.f96, go_sem, hc]
  case stop =>
    rintro D c pre V hD hpre ⟨⟨rfl, x, rfl, hR⟩, hB⟩ hK
    gi_wp2
    refine ⟨by simp, .inl ⟨_, _, rfl, run_takeDeferred hK, ?_⟩⟩
    have hc := cell_kept hR.cell (grownBy_putObj' _ D (.deferred none)) (fun r e => by cases e; exact ⟨_, hK, rfl⟩)
    obtain ⟨r, hr⟩ := hpre
    refine ⟨.bool (decide (x.k = 1) && decide (x.t.length = s.size)), ?_, by rw [wordB, ← hr]; rfl, hB.trans (belowK_b (w := w) (Nat.le_refl _) _ D _ _ (by omega) hK rfl rfl)⟩
    simp [results, Tryz.f96, go_sem, hc]
end Go.Proofs.YtnhddnldebdmbaaGreatDoor
/- The document's own Word. -/
namespace Go.Proofs.YtnhddnldebdmbaaGreatDoor
open Go.RowKit
set_option linter.unusedVariables false

theorem pcs_bound : ∀ (n a : Nat) (l : List UInt8), l.length ≤ n → ∀ y ∈ pcs a l, a ≤ y.at' ∧ y.at' + y.t.length ≤ a + l.length := by
  intro n
  induction n with
  | zero => intro a l h y hy; have : l = [] := List.eq_nil_of_length_eq_zero (by omega); subst this; rw [pcs_nil] at hy; simp at hy
  | succ n ih =>
    intro a l h y hy
    cases l with
    | nil => rw [pcs_nil] at hy; simp at hy
    | cons c r =>
      simp only [List.length_cons] at h ⊢
      have hn := noteLen_le r
      have hr := runLen_le (kind c) r
      by_cases hb : blank c = true
      · rw [pcs_blank hb] at hy
        have := ih (a + 1) r (by omega) y hy
        omega
      · by_cases h35 : c.toNat = 35
        · rw [pcs_hash h35] at hy
          have := ih (a + 1 + noteLen r) (r.drop (noteLen r)) (by simp; omega) y hy
          simp at this
          omega
        · by_cases hk : kind c = 0
          · rw [pcs_none (by simpa using hb) h35 hk, List.mem_singleton] at hy
            subst hy
            simp
          · rw [pcs_tok hk, List.mem_cons] at hy
            rcases hy with rfl | hy
            · simp only [tkOf, List.length_cons, List.length_take]; omega
            · have := ih (a + 1 + runLen (kind c) r) (r.drop (runLen (kind c) r)) (by simp; omega) y hy
              simp at this
              omega
theorem wordB_nil {s : ByteArray} (h : s.data.toList = []) : wordB s = false := by simp [wordB, tokL, pieceL, h, pcs_nil, toksOf]
theorem wordB_late {s : ByteArray} {a : Nat} {l : List UInt8} (h : pieceL s = pcs a l) (hl : l.length < s.size) : wordB s = false := by
  unfold wordB tokL
  cases hp : toksOf (pieceL s) with
  | nil => rfl
  | cons x r =>
    have hx : x ∈ pcs a l := by
      rw [← h]
      exact (toksOf_prefix _).subset (by rw [hp]; simp)
    have := pcs_bound _ a l (Nat.le_refl _) x hx
    have h2 : ¬ x.t.length = s.size := by omega
    simp [h2]
theorem wordB_cons {s : ByteArray} {c : UInt8} {r : List UInt8} (h : s.data.toList = c :: r) : wordB s = (decide ((oneT 0 c r).k = 1) && decide ((oneT 0 c r).t.length = s.size)) := by
  have hs : s.size = r.length + 1 := by rw [Lib.size_eq, h]; rfl
  by_cases hk : kind c = 0
  · have hf : (decide ((oneT 0 c r).k = 1) && decide ((oneT 0 c r).t.length = s.size)) = false := by rw [oneT, if_pos hk]; simp
    rw [hf]
    by_cases hb : blank c = true
    · exact wordB_late (a := 1) (l := r) (by rw [pieceL, h, pcs_blank hb]) (by omega)
    · by_cases h35 : c.toNat = 35
      · exact wordB_late (a := 0 + 1 + noteLen r) (l := r.drop (noteLen r)) (by rw [pieceL, h, pcs_hash h35]) (by rw [List.length_drop]; omega)
      · rw [wordB, tokL, pieceL, h, pcs_none (by simpa using hb) h35 hk]
        rfl
  · have : tokL s = tkOf 0 c r :: toksOf (pcs (0 + 1 + runLen (kind c) r) (r.drop (runLen (kind c) r))) := by
      rw [tokL, pieceL, h, pcs_tok hk, toksOf, List.takeWhile_cons_of_pos (by simp [tkOf, hk])]
      rfl
    rw [wordB, this, oneT, if_neg hk]
theorem oneT_text {c : UInt8} {r : List UInt8} (h : (oneT 0 c r).k ≠ 0) : (oneT 0 c r).t <+: c :: r := by
  unfold oneT at *
  by_cases hk : kind c = 0
  · rw [if_pos hk] at h; exact absurd rfl h
  · rw [if_neg hk]; exact (List.cons_prefix_cons).2 ⟨rfl, List.take_prefix _ _⟩

theorem text_eq {x : List UInt8} {s : ByteArray} (h : x <+: s.data.toList) : ((bs x).toList == s.toList) = decide (x.length = s.size) := by
  rw [Lib.toList_data, Lib.toList_data, bs_toList, Bool.eq_iff_iff]
  simp only [beq_iff_eq, decide_eq_true_eq]
  constructor
  · intro e; rw [e, Lib.size_eq]
  · intro e; exact h.eq_of_length (by rw [e, Lib.size_eq])

set_option maxHeartbeats 2000000 in
theorem rword_any (s : ByteArray) (w : World) (hs : s.size ≤ 9223372036854775807) : Calls Tryz.prog 28 #[.string s] w fun e w' => e = .returned (.bool (wordB s)) ∧ Below w.heap.size w w' := by
  by_cases h0 : s.size = 0
  · have he : s.data.toList = [] := List.eq_nil_of_length_eq_zero (by rw [← Lib.size_eq]; exact h0)
    have hs0 : s = ByteArray.empty := by
      apply ByteArray.ext
      apply Array.toList_inj.1
      exact he
    rw [wordB_nil he]
    subst hs0
    clear he
    go_enter Tryz.func28, Tryz.ntmps28
    go_wp2
    go_ret
    exact ⟨rfl, Below.refl _ _⟩
  · obtain ⟨c, hc⟩ : ∃ c, s[0]'(by omega) = c := ⟨_, rfl⟩
    have hd := drop_get s 0 (by omega)
    rw [List.drop_zero, hc, Nat.zero_add] at hd
    have o : ∀ w, Calls Tryz.prog 58 #[.string s, .int .i64 0] w fun e w' => e = .returned (tkV (oneT 0 c (s.data.toList.drop 1))) ∧ Below w.heap.size w w' := fun w => by
      have := one_any s 0 w (by omega) hs
      rw [hc, Nat.zero_add] at this
      exact this
    have hne : s.toList ≠ [] := by rw [Lib.toList_data, hd]; simp
    have hne2 : (s.toList == []) = false := by simpa using hne
    rw [wordB_cons hd]
    have htx := fun h => oneT_text (c := c) (r := s.data.toList.drop 1) h
    rw [← hd] at htx
    generalize oneT 0 c (s.data.toList.drop 1) = x at *
    have O := Lib.hid o
    have HT := Lib.hid htx
    clear o htx hd hc
    by_cases hk : x.k = 1
    · have t0 : ((x.k : Int) == 1) = true := by simp; omega
      have HK := Lib.hid hk
      clear hk
      go_enter Tryz.func28, Tryz.ntmps28
      go_upto_region 4 with (go_at_call 58; (with_reducible refine (O.out _).mono ?_); rintro e' w2 ⟨rfl, h2⟩)
      obtain ⟨W3, hW3, T3, B3⟩ : ∃ W3, w2.alloc (.cells #[.int .i64 (x.k : Int), .int .i64 (x.at' : Int), .string (bs x.t), .int .i64 (x.n : Int)] 109) = W3 ∧ TB W3 w2.heap.size x ∧ Below w.heap.size w W3 := ⟨_, rfl, TB.new w2 x, h2.trans ((Below.refl _ _).alloc h2.size _)⟩
      rw [hW3]
      clear hW3 h2
      have c0 := T3.c0
      have c2 := T3.c2
      go_wp2
      go_ret
      exact ⟨by rw [text_eq (HT.out (by rw [HK.out]; decide)), HK.out]; simp, B3⟩
    · have t0 : ((x.k : Int) == 1) = false := by simp; omega
      have HK := Lib.hid hk
      clear hk
      go_enter Tryz.func28, Tryz.ntmps28
      go_upto_region 4 with (go_at_call 58; (with_reducible refine (O.out _).mono ?_); rintro e' w2 ⟨rfl, h2⟩)
      obtain ⟨W3, hW3, T3, B3⟩ : ∃ W3, w2.alloc (.cells #[.int .i64 (x.k : Int), .int .i64 (x.at' : Int), .string (bs x.t), .int .i64 (x.n : Int)] 109) = W3 ∧ TB W3 w2.heap.size x ∧ Below w.heap.size w W3 := ⟨_, rfl, TB.new w2 x, h2.trans ((Below.refl _ _).alloc h2.size _)⟩
      rw [hW3]
      clear hW3 h2
      have c0 := T3.c0
      go_wp2
      go_ret
      exact ⟨by simp [HK.out], B3⟩
end Go.Proofs.YtnhddnldebdmbaaGreatDoor
/- Tasks as values, and whether one may be: plain words; the contracts of Check and of the document's own. -/
namespace Go.Proofs.YtnhddnldebdmbaaGreatDoor
open Go.RowKit
set_option linter.unusedVariables false
set_option linter.unusedSimpArgs false

/-- A task. -/
structure Ts where
  n : ByteArray
  c : Int
  t : Int
  d : Int
  j : Int
  q : Int
  p : Int
deriving DecidableEq
abbrev tsV (x : Ts) : Value := .agg #[.string x.n, .int .i64 x.c, .int .i64 x.t, .int .i64 x.d, .int .i64 x.j, .int .i64 x.q, .int .i64 x.p]
def in64 (n : Int) : Prop := -9223372036854775808 ≤ n ∧ n ≤ 9223372036854775807
/-- Its fields are such as a task may hold. -/
structure TsW (x : Ts) : Prop where
  n : x.n.size ≤ 9223372036854775807
  c : in64 x.c
  t : in64 x.t
  d : in64 x.d
  j : in64 x.j
  q : in64 x.q
  p : in64 x.p
def inB (n lo hi : Int) : Bool := decide (lo ≤ n ∧ n ≤ hi)
def namedB (x : Ts) : Bool := decide (x.n.size ≤ 32) && wordB x.n
def rangedB (x : Ts) : Bool := inB x.c 1 2147483647 && (inB x.t 1 2147483647 && (inB x.d 1 2147483647 && (inB x.q 1 2147483647 && (inB x.j 0 2147483647 && inB x.p 1 1048576))))
def overB (x : Ts) : Bool := decide (x.q > x.c ∨ x.c + x.j > x.d ∨ x.d > x.t)
/-- What is wrong with a task by itself. -/
def checkE (x : Ts) : Int := if namedB x && rangedB x then (if overB x then 12 else 0) else 11
theorem bcell {W w1 : World} (hb : Below W.heap.size W w1) : (∀ b o, b < W.heap.size → w1.cell? ⟨b, o, none⟩ = W.cell? ⟨b, o, none⟩) ∧ (∀ b o, b < W.heap.size → w1.frozen? ⟨b, o, none⟩ = W.frozen? ⟨b, o, none⟩) :=
  ⟨fun b o h => hb.cell (p := ⟨b, o, none⟩) h, fun b o h => hb.frozen (p := ⟨b, o, none⟩) h⟩
theorem inB_no {n lo hi : Int} (h : ¬ (lo ≤ n ∧ n ≤ hi)) : inB n lo hi = false := by simp [inB]; omega
theorem inB_yes {n lo hi : Int} (h : lo ≤ n ∧ n ≤ hi) : inB n lo hi = true := by simp [inB]; omega
theorem inB_iff {n lo hi : Int} : inB n lo hi = true ↔ lo ≤ n ∧ n ≤ hi := by simp [inB]

set_option maxRecDepth 100000 in
set_option maxHeartbeats 1000000 in
theorem named_any (x : Ts) (w : World) : Calls Tryz.prog 71 #[tsV x] w fun e w' => e = .returned (.bool (namedB x)) ∧ Below w.heap.size w w' := by
  have b0 : Below w.heap.size w (w.alloc (.cells #[.string x.n, .int .i64 x.c, .int .i64 x.t, .int .i64 x.d, .int .i64 x.j, .int .i64 x.q, .int .i64 x.p] 40)) := (Below.refl _ _).alloc (Nat.le_refl _) _
  by_cases h : x.n.size ≤ 32
  · have e : namedB x = wordB x.n := by simp [namedB, h]
    rw [e]
    have W := Lib.hid (fun w => word_any x.n w (by omega))
    have h' : (x.n.size : Int) ≤ 32 := by omega
    generalize wordB x.n = b at *
    clear e
    go_enter Tryz.func71, Tryz.ntmps71
    go_wp2_with (go_at_call 96; (with_reducible refine (W.out _).mono ?_); rintro e w2 ⟨rfl, h2⟩)
    go_ret
    exact ⟨rfl, b0.trans (h2.mono b0.size)⟩
  · have e : namedB x = false := by simp [namedB, h]
    rw [e]
    have h' : ¬ (x.n.size : Int) ≤ 32 := by omega
    have h'' : decide ((x.n.size : Int) ≤ 32) = false := decide_eq_false (by omega)
    clear e
    go_enter Tryz.func71, Tryz.ntmps71
    go_wp2
    go_ret
    exact ⟨rfl, b0⟩

set_option maxRecDepth 100000 in
theorem four_idx (a b c d : Int) (w : World) :
    (Instr.index 153 (.agg #[.int .i64 a, .int .i64 b, .int .i64 c, .int .i64 d]) (.int .i64 0)).run Tryz.prog w = .ok (.int .i64 a) w ∧
    (Instr.index 153 (.agg #[.int .i64 a, .int .i64 b, .int .i64 c, .int .i64 d]) (.int .i64 1)).run Tryz.prog w = .ok (.int .i64 b) w ∧
    (Instr.index 153 (.agg #[.int .i64 a, .int .i64 b, .int .i64 c, .int .i64 d]) (.int .i64 2)).run Tryz.prog w = .ok (.int .i64 c) w ∧
    (Instr.index 153 (.agg #[.int .i64 a, .int .i64 b, .int .i64 c, .int .i64 d]) (.int .i64 3)).run Tryz.prog w = .ok (.int .i64 d) w := by
  refine ⟨?_, ?_, ?_, ?_⟩ <;> rfl

set_option maxRecDepth 100000 in
set_option maxHeartbeats 1000000 in
theorem ranged_any (x : Ts) (w : World) : Calls Tryz.prog 72 #[tsV x] w fun e w' => e = .returned (.bool (rangedB x)) ∧ Below w.heap.size w w' := by
  have b0 : Below w.heap.size w (w.alloc (.cells #[.string x.n, .int .i64 x.c, .int .i64 x.t, .int .i64 x.d, .int .i64 x.j, .int .i64 x.q, .int .i64 x.p] 40)) := (Below.refl _ _).alloc (Nat.le_refl _) _
  generalize hr : rangedB x = r
  have HR := Lib.hid hr
  clear hr
  go_enter Tryz.func72, Tryz.ntmps72
  go_wp2
  go_loop [14] (fun i => i = .int .i64 0 ∨ (i = .int .i64 1 ∧ inB x.c 1 2147483647 = true) ∨ (i = .int .i64 2 ∧ inB x.c 1 2147483647 = true ∧ inB x.t 1 2147483647 = true) ∨ (i = .int .i64 3 ∧ inB x.c 1 2147483647 = true ∧ inB x.t 1 2147483647 = true ∧ inB x.d 1 2147483647 = true) ∨ (i = .int .i64 4 ∧ inB x.c 1 2147483647 = true ∧ inB x.t 1 2147483647 = true ∧ inB x.d 1 2147483647 = true ∧ inB x.q 1 2147483647 = true)) (fun i => 4 - (intOf i).toNat)
  case atStart => exact .inl rfl
  case round =>
    obtain ⟨i0, i1, i2, i3⟩ := four_idx x.c x.t x.d x.q (w.alloc (.cells #[.string x.n, .int .i64 x.c, .int .i64 x.t, .int .i64 x.d, .int .i64 x.j, .int .i64 x.q, .int .i64 x.p] 40))
    rcases hrel with rfl | ⟨rfl, hc⟩ | ⟨rfl, hc, ht⟩ | ⟨rfl, hc, ht, hd⟩ | ⟨rfl, hc, ht, hd, hq⟩
    · by_cases h1 : 1 ≤ x.c
      · by_cases h2 : x.c ≤ 2147483647
        · have HF := Lib.hid (inB_yes ⟨h1, h2⟩)
          go_wp2
          go_round
          case rel => exact .inr (.inl ⟨rfl, HF.out⟩)
          case measure => simp [intOf]
        · have HF := Lib.hid (inB_no (n := x.c) (lo := 1) (hi := 2147483647) (by omega))
          go_wp2
          go_ret
          exact ⟨by rw [← HR.out, rangedB, HF.out]; rfl, b0⟩
      · have HF := Lib.hid (inB_no (n := x.c) (lo := 1) (hi := 2147483647) (by omega))
        go_wp2
        go_ret
        exact ⟨by rw [← HR.out, rangedB, HF.out]; rfl, b0⟩
    · have HC := Lib.hid hc
      clear hc
      by_cases h1 : 1 ≤ x.t
      · by_cases h2 : x.t ≤ 2147483647
        · have HF := Lib.hid (inB_yes ⟨h1, h2⟩)
          go_wp2
          go_round
          case rel => exact .inr (.inr (.inl ⟨rfl, HC.out, HF.out⟩))
          case measure => simp [intOf]
        · have HF := Lib.hid (inB_no (n := x.t) (lo := 1) (hi := 2147483647) (by omega))
          go_wp2
          go_ret
          exact ⟨by rw [← HR.out, rangedB, HC.out, HF.out]; rfl, b0⟩
      · have HF := Lib.hid (inB_no (n := x.t) (lo := 1) (hi := 2147483647) (by omega))
        go_wp2
        go_ret
        exact ⟨by rw [← HR.out, rangedB, HC.out, HF.out]; rfl, b0⟩
    · have HC := Lib.hid hc
      have HT := Lib.hid ht
      clear hc ht
      by_cases h1 : 1 ≤ x.d
      · by_cases h2 : x.d ≤ 2147483647
        · have HF := Lib.hid (inB_yes ⟨h1, h2⟩)
          go_wp2
          go_round
          case rel => exact .inr (.inr (.inr (.inl ⟨rfl, HC.out, HT.out, HF.out⟩)))
          case measure => simp [intOf]
        · have HF := Lib.hid (inB_no (n := x.d) (lo := 1) (hi := 2147483647) (by omega))
          go_wp2
          go_ret
          exact ⟨by rw [← HR.out, rangedB, HC.out, HT.out, HF.out]; rfl, b0⟩
      · have HF := Lib.hid (inB_no (n := x.d) (lo := 1) (hi := 2147483647) (by omega))
        go_wp2
        go_ret
        exact ⟨by rw [← HR.out, rangedB, HC.out, HT.out, HF.out]; rfl, b0⟩
    · have HC := Lib.hid hc
      have HT := Lib.hid ht
      have HD := Lib.hid hd
      clear hc ht hd
      by_cases h1 : 1 ≤ x.q
      · by_cases h2 : x.q ≤ 2147483647
        · have HF := Lib.hid (inB_yes ⟨h1, h2⟩)
          go_wp2
          go_round
          case rel => exact .inr (.inr (.inr (.inr ⟨rfl, HC.out, HT.out, HD.out, HF.out⟩)))
          case measure => simp [intOf]
        · have HF := Lib.hid (inB_no (n := x.q) (lo := 1) (hi := 2147483647) (by omega))
          go_wp2
          go_ret
          exact ⟨by rw [← HR.out, rangedB, HC.out, HT.out, HD.out, HF.out]; rfl, b0⟩
      · have HF := Lib.hid (inB_no (n := x.q) (lo := 1) (hi := 2147483647) (by omega))
        go_wp2
        go_ret
        exact ⟨by rw [← HR.out, rangedB, HC.out, HT.out, HD.out, HF.out]; rfl, b0⟩
    · have hr2 : r = (inB x.j 0 2147483647 && inB x.p 1 1048576) := by rw [← HR.out, rangedB, hc, ht, hd, hq]; rfl
      have H2 := Lib.hid hr2
      clear hc ht hd hq HR hr2
      by_cases h1 : 0 ≤ x.j
      · by_cases h2 : x.j ≤ 2147483647
        · by_cases h3 : 1 ≤ x.p
          · by_cases h4 : x.p ≤ 1048576
            · have HF := Lib.hid (show r = true by rw [H2.out, inB_yes ⟨h1, h2⟩, inB_yes ⟨h3, h4⟩]; rfl)
              go_wp2
              go_ret
              exact ⟨by rw [HF.out]; rfl, b0⟩
            · have HF := Lib.hid (show r = false by rw [H2.out, inB_yes ⟨h1, h2⟩, inB_no (n := x.p) (by omega)]; rfl)
              have h4' : decide (x.p ≤ 1048576) = false := decide_eq_false h4
              go_wp2
              go_ret
              exact ⟨by rw [HF.out]; rfl, b0⟩
          · have HF := Lib.hid (show r = false by rw [H2.out, inB_yes ⟨h1, h2⟩, inB_no (n := x.p) (by omega)]; rfl)
            have h3' : decide (x.p ≥ 1) = false := decide_eq_false h3
            have h3'' : decide (1 ≤ x.p) = false := decide_eq_false h3
            go_wp2
            go_ret
            exact ⟨by rw [HF.out]; rfl, b0⟩
        · have HF := Lib.hid (show r = false by rw [H2.out, inB_no (n := x.j) (by omega)]; rfl)
          have h2' : decide (x.j ≤ 2147483647) = false := decide_eq_false h2
          go_wp2
          go_ret
          exact ⟨by rw [HF.out]; rfl, b0⟩
      · have HF := Lib.hid (show r = false by rw [H2.out, inB_no (n := x.j) (by omega)]; rfl)
        have h2' : decide (0 ≤ x.j) = false := decide_eq_false h1
        go_wp2
        go_ret
        exact ⟨by rw [HF.out]; rfl, b0⟩

theorem rangedB_parts {x : Ts} (h : rangedB x = true) : (1 ≤ x.c ∧ x.c ≤ 2147483647) ∧ (1 ≤ x.t ∧ x.t ≤ 2147483647) ∧ (1 ≤ x.d ∧ x.d ≤ 2147483647) ∧ (1 ≤ x.q ∧ x.q ≤ 2147483647) ∧ (0 ≤ x.j ∧ x.j ≤ 2147483647) ∧ 1 ≤ x.p ∧ x.p ≤ 1048576 := by
  simp only [rangedB, Bool.and_eq_true, inB_iff] at h
  exact h

set_option maxRecDepth 100000 in
set_option maxHeartbeats 2000000 in
theorem check_any (x : Ts) (w : World) : Calls Tryz.prog 49 #[tsV x] w fun e w' => e = .returned (.int .i64 (checkE x)) ∧ Below w.heap.size w w' := by
  have b0 : Below w.heap.size w (w.alloc (.cells #[.string x.n, .int .i64 x.c, .int .i64 x.t, .int .i64 x.d, .int .i64 x.j, .int .i64 x.q, .int .i64 x.p] 40)) := (Below.refl _ _).alloc (Nat.le_refl _) _
  have N := Lib.hid (fun w => named_any x w)
  have R := Lib.hid (fun w => ranged_any x w)
  have hp := @rangedB_parts x
  have hq : checkE x = if namedB x && rangedB x then (if overB x then 12 else 0) else 11 := rfl
  rw [hq]
  clear hq
  generalize namedB x = a at *
  generalize rangedB x = b at *
  cases a
  · clear hp
    go_enter Tryz.func49, Tryz.ntmps49
    go_wp2_with (go_at_call 71; (with_reducible refine (N.out _).mono ?_); rintro e w2 ⟨rfl, h2⟩)
    go_ret
    exact ⟨rfl, b0.trans (h2.mono b0.size)⟩
  · cases b
    · clear hp
      go_enter Tryz.func49, Tryz.ntmps49
      go_wp2_with (first
        | (go_at_call 71; (with_reducible refine (N.out _).mono ?_); rintro e w2 ⟨rfl, h2⟩; obtain ⟨hc2, hf2⟩ := bcell h2; have hz2 : w.heap.size < w2.heap.size := by have := h2.size; simp at this; omega)
        | (go_at_call 72; (with_reducible refine (R.out _).mono ?_); rintro e w3 ⟨rfl, h3⟩))
      go_ret
      exact ⟨rfl, b0.trans ((h2.mono b0.size).trans (h3.mono (Nat.le_trans b0.size h2.size)))⟩
    · obtain ⟨⟨c1, c2⟩, ⟨t1, t2⟩, ⟨d1, d2⟩, ⟨q1, q2⟩, ⟨j1, j2⟩, -⟩ := hp rfl
      clear hp
      rw [if_pos (by rfl)]
      by_cases g1 : x.q > x.c
      · rw [if_pos (by simp [overB, g1])]
        go_enter Tryz.func49, Tryz.ntmps49
        go_wp2_with (first
          | (go_at_call 71; (with_reducible refine (N.out _).mono ?_); rintro e w2 ⟨rfl, h2⟩; obtain ⟨hc2, hf2⟩ := bcell h2; have hz2 : w.heap.size < w2.heap.size := by have := h2.size; simp at this; omega)
          | (go_at_call 72; (with_reducible refine (R.out _).mono ?_); rintro e w3 ⟨rfl, h3⟩; obtain ⟨hc3, hf3⟩ := bcell h3))
        go_ret
        exact ⟨rfl, b0.trans ((h2.mono b0.size).trans (h3.mono (Nat.le_trans b0.size h2.size)))⟩
      · have h1' : decide (x.q > x.c) = false := decide_eq_false g1
        have h1'' : decide (x.c < x.q) = false := decide_eq_false g1
        by_cases g2 : x.c + x.j > x.d
        · rw [if_pos (by simp [overB, g2])]
          go_enter Tryz.func49, Tryz.ntmps49
          go_wp2_with (first
            | (go_at_call 71; (with_reducible refine (N.out _).mono ?_); rintro e w2 ⟨rfl, h2⟩; obtain ⟨hc2, hf2⟩ := bcell h2; have hz2 : w.heap.size < w2.heap.size := by have := h2.size; simp at this; omega)
            | (go_at_call 72; (with_reducible refine (R.out _).mono ?_); rintro e w3 ⟨rfl, h3⟩; obtain ⟨hc3, hf3⟩ := bcell h3))
          go_ret
          exact ⟨rfl, b0.trans ((h2.mono b0.size).trans (h3.mono (Nat.le_trans b0.size h2.size)))⟩
        · have h2' : decide (x.c + x.j > x.d) = false := decide_eq_false g2
          have h2'' : decide (x.d < x.c + x.j) = false := decide_eq_false g2
          by_cases g3 : x.d > x.t
          · rw [if_pos (by simp [overB, g3])]
            go_enter Tryz.func49, Tryz.ntmps49
            go_wp2_with (first
              | (go_at_call 71; (with_reducible refine (N.out _).mono ?_); rintro e w2 ⟨rfl, h2⟩; obtain ⟨hc2, hf2⟩ := bcell h2; have hz2 : w.heap.size < w2.heap.size := by have := h2.size; simp at this; omega)
              | (go_at_call 72; (with_reducible refine (R.out _).mono ?_); rintro e w3 ⟨rfl, h3⟩; obtain ⟨hc3, hf3⟩ := bcell h3))
            go_ret
            exact ⟨rfl, b0.trans ((h2.mono b0.size).trans (h3.mono (Nat.le_trans b0.size h2.size)))⟩
          · have h3' : decide (x.d > x.t) = false := decide_eq_false g3
            have h3'' : decide (x.t < x.d) = false := decide_eq_false g3
            rw [if_neg (by simp [overB]; omega)]
            go_enter Tryz.func49, Tryz.ntmps49
            go_wp2_with (first
              | (go_at_call 71; (with_reducible refine (N.out _).mono ?_); rintro e w2 ⟨rfl, h2⟩; obtain ⟨hc2, hf2⟩ := bcell h2; have hz2 : w.heap.size < w2.heap.size := by have := h2.size; simp at this; omega)
              | (go_at_call 72; (with_reducible refine (R.out _).mono ?_); rintro e w3 ⟨rfl, h3⟩; obtain ⟨hc3, hf3⟩ := bcell h3))
            go_ret
            exact ⟨rfl, b0.trans ((h2.mono b0.size).trans (h3.mono (Nat.le_trans b0.size h2.size)))⟩
end Go.Proofs.YtnhddnldebdmbaaGreatDoor
/- The document's own Check; the laws' small functions. -/
namespace Go.Proofs.YtnhddnldebdmbaaGreatDoor
open Go.RowKit
set_option linter.unusedVariables false
set_option linter.unusedSimpArgs false

theorem in_any (n lo hi : Int) (w : World) : Calls Tryz.prog 29 #[.int .i64 n, .int .i64 lo, .int .i64 hi] w fun e w' => e = .returned (.bool (inB n lo hi)) ∧ w = w' := by
  unfold inB
  go_enter Tryz.func29, Tryz.ntmps29
  by_cases h1 : lo ≤ n <;> by_cases h2 : n ≤ hi <;> (go_wp2; go_ret; simp [*])

theorem ret_i {a b : Int} (h : a = b) : Ending.returned (.int .i64 a) = .returned (.int .i64 b) := by rw [h]
theorem checkE_no {x : Ts} (h : (namedB x && rangedB x) = false) : checkE x = 11 := by rw [checkE, h]; rfl
theorem checkE_yes {x : Ts} (h : (namedB x && rangedB x) = true) : checkE x = if overB x then 12 else 0 := by rw [checkE, h]; rfl

set_option maxRecDepth 100000 in
set_option maxHeartbeats 4000000 in
theorem rcheck_any (x : Ts) (w : World) (hx : TsW x) : Calls Tryz.prog 20 #[tsV x] w fun e w' => e = .returned (.int .i64 (checkE x)) ∧ Below w.heap.size w w' := by
  have b0 : Below w.heap.size w (w.alloc (.cells #[.string x.n, .int .i64 x.c, .int .i64 x.t, .int .i64 x.d, .int .i64 x.j, .int .i64 x.q, .int .i64 x.p] 40)) := (Below.refl _ _).alloc (Nat.le_refl _) _
  have W := Lib.hid (fun w => rword_any x.n w hx.n)
  have I := Lib.hid in_any
  have hn : namedB x = (decide (x.n.size ≤ 32) && wordB x.n) := rfl
  have hr : rangedB x = (inB x.c 1 2147483647 && (inB x.t 1 2147483647 && (inB x.d 1 2147483647 && (inB x.q 1 2147483647 && (inB x.j 0 2147483647 && inB x.p 1 1048576))))) := rfl
  have hno := @checkE_no x
  have hyes := @checkE_yes x
  have hpa := @rangedB_parts x
  rw [hn, hr] at hno hyes
  rw [hr] at hpa
  clear hn hr
  generalize checkE x = r at *
  cases hw : wordB x.n
  · have HE : Hid (Ending.returned (.int .i64 11) = .returned (.int .i64 r)) := Lib.hid (ret_i (hno (by rw [hw]; simp)).symm)
    rw [hw] at W
    clear hw hno hyes hpa
    go_enter Tryz.func20, Tryz.ntmps20
    go_wp2_with (first
      | (go_at_call 28; (with_reducible refine (W.out _).mono ?_); rintro e w2 ⟨rfl, h2⟩; obtain ⟨hc2, hf2⟩ := bcell h2)
      | (go_at_call 29; (with_reducible refine (I.out _ _ _ _).mono ?_); rintro e w3 ⟨rfl, rfl⟩))
    go_ret
    exact ⟨HE.out, b0.trans (h2.mono b0.size)⟩
  · rw [hw] at W hno hyes
    clear hw
    by_cases hl : x.n.size ≤ 32
    · have hl' : decide ((x.n.size : Int) > 32) = false := decide_eq_false (by omega)
      have hl'' : decide (32 < x.n.size) = false := decide_eq_false (by omega)
      rw [decide_eq_true hl] at hno hyes
      cases ec : inB x.c 1 2147483647
      · have HE : Hid (Ending.returned (.int .i64 11) = .returned (.int .i64 r)) := Lib.hid (ret_i (hno (by rw [ec]; simp)).symm)
        clear hno hyes hpa
        go_enter Tryz.func20, Tryz.ntmps20
        go_wp2_with (first
          | (go_at_call 28; (with_reducible refine (W.out _).mono ?_); rintro e w2 ⟨rfl, h2⟩; obtain ⟨hc2, hf2⟩ := bcell h2)
          | (go_at_call 29; (with_reducible refine (I.out _ _ _ _).mono ?_); rintro e w3 ⟨rfl, rfl⟩))
        go_ret
        exact ⟨HE.out, b0.trans (h2.mono b0.size)⟩
      · rw [ec] at hno hyes hpa
        cases et : inB x.t 1 2147483647
        · have HE : Hid (Ending.returned (.int .i64 11) = .returned (.int .i64 r)) := Lib.hid (ret_i (hno (by rw [et]; simp)).symm)
          clear hno hyes hpa
          go_enter Tryz.func20, Tryz.ntmps20
          go_wp2_with (first
            | (go_at_call 28; (with_reducible refine (W.out _).mono ?_); rintro e w2 ⟨rfl, h2⟩; obtain ⟨hc2, hf2⟩ := bcell h2)
            | (go_at_call 29; (with_reducible refine (I.out _ _ _ _).mono ?_); rintro e w3 ⟨rfl, rfl⟩))
          go_ret
          exact ⟨HE.out, b0.trans (h2.mono b0.size)⟩
        · rw [et] at hno hyes hpa
          cases ed : inB x.d 1 2147483647
          · have HE : Hid (Ending.returned (.int .i64 11) = .returned (.int .i64 r)) := Lib.hid (ret_i (hno (by rw [ed]; simp)).symm)
            clear hno hyes hpa
            go_enter Tryz.func20, Tryz.ntmps20
            go_wp2_with (first
              | (go_at_call 28; (with_reducible refine (W.out _).mono ?_); rintro e w2 ⟨rfl, h2⟩; obtain ⟨hc2, hf2⟩ := bcell h2)
              | (go_at_call 29; (with_reducible refine (I.out _ _ _ _).mono ?_); rintro e w3 ⟨rfl, rfl⟩))
            go_ret
            exact ⟨HE.out, b0.trans (h2.mono b0.size)⟩
          · rw [ed] at hno hyes hpa
            cases eq : inB x.q 1 2147483647
            · have HE : Hid (Ending.returned (.int .i64 11) = .returned (.int .i64 r)) := Lib.hid (ret_i (hno (by rw [eq]; simp)).symm)
              clear hno hyes hpa
              go_enter Tryz.func20, Tryz.ntmps20
              go_wp2_with (first
                | (go_at_call 28; (with_reducible refine (W.out _).mono ?_); rintro e w2 ⟨rfl, h2⟩; obtain ⟨hc2, hf2⟩ := bcell h2)
                | (go_at_call 29; (with_reducible refine (I.out _ _ _ _).mono ?_); rintro e w3 ⟨rfl, rfl⟩))
              go_ret
              exact ⟨HE.out, b0.trans (h2.mono b0.size)⟩
            · rw [eq] at hno hyes hpa
              cases ej : inB x.j 0 2147483647
              · have HE : Hid (Ending.returned (.int .i64 11) = .returned (.int .i64 r)) := Lib.hid (ret_i (hno (by rw [ej]; simp)).symm)
                clear hno hyes hpa
                go_enter Tryz.func20, Tryz.ntmps20
                go_wp2_with (first
                  | (go_at_call 28; (with_reducible refine (W.out _).mono ?_); rintro e w2 ⟨rfl, h2⟩; obtain ⟨hc2, hf2⟩ := bcell h2)
                  | (go_at_call 29; (with_reducible refine (I.out _ _ _ _).mono ?_); rintro e w3 ⟨rfl, rfl⟩))
                go_ret
                exact ⟨HE.out, b0.trans (h2.mono b0.size)⟩
              · rw [ej] at hno hyes hpa
                by_cases p1 : 1 ≤ x.p
                · by_cases p2 : x.p ≤ 1048576
                  · have ep := inB_yes ⟨p1, p2⟩
                    rw [ep] at hno hyes hpa
                    obtain ⟨⟨c1, c2⟩, ⟨t1, t2⟩, ⟨d1, d2⟩, ⟨q1, q2⟩, ⟨j1, j2⟩, -⟩ := hpa rfl
                    have hy := hyes rfl
                    clear hno hyes hpa ep
                    have p1' : decide (x.p < 1) = false := decide_eq_false (by omega)
                    have p2' : decide (x.p > 1048576) = false := decide_eq_false (by omega)
                    have p2'' : decide (1048576 < x.p) = false := decide_eq_false (by omega)
                    by_cases g1 : x.q > x.c
                    · have HE : Hid (Ending.returned (.int .i64 12) = .returned (.int .i64 r)) := Lib.hid (ret_i (by rw [hy, if_pos (by simp [overB, g1])]))
                      clear hy
                      go_enter Tryz.func20, Tryz.ntmps20
                      go_wp2_with (first
                        | (go_at_call 28; (with_reducible refine (W.out _).mono ?_); rintro e w2 ⟨rfl, h2⟩; obtain ⟨hc2, hf2⟩ := bcell h2)
                        | (go_at_call 29; (with_reducible refine (I.out _ _ _ _).mono ?_); rintro e w3 ⟨rfl, rfl⟩))
                      go_ret
                      exact ⟨HE.out, b0.trans (h2.mono b0.size)⟩
                    · have g1' : decide (x.q > x.c) = false := decide_eq_false g1
                      have g1'' : decide (x.c < x.q) = false := decide_eq_false g1
                      by_cases g2 : x.c + x.j > x.d
                      · have HE : Hid (Ending.returned (.int .i64 12) = .returned (.int .i64 r)) := Lib.hid (ret_i (by rw [hy, if_pos (by simp [overB, g2])]))
                        clear hy
                        go_enter Tryz.func20, Tryz.ntmps20
                        go_wp2_with (first
                          | (go_at_call 28; (with_reducible refine (W.out _).mono ?_); rintro e w2 ⟨rfl, h2⟩; obtain ⟨hc2, hf2⟩ := bcell h2)
                          | (go_at_call 29; (with_reducible refine (I.out _ _ _ _).mono ?_); rintro e w3 ⟨rfl, rfl⟩))
                        go_ret
                        exact ⟨HE.out, b0.trans (h2.mono b0.size)⟩
                      · have g2' : decide (x.c + x.j > x.d) = false := decide_eq_false g2
                        have g2'' : decide (x.d < x.c + x.j) = false := decide_eq_false g2
                        by_cases g3 : x.d > x.t
                        · have HE : Hid (Ending.returned (.int .i64 12) = .returned (.int .i64 r)) := Lib.hid (ret_i (by rw [hy, if_pos (by simp [overB, g3])]))
                          clear hy
                          go_enter Tryz.func20, Tryz.ntmps20
                          go_wp2_with (first
                            | (go_at_call 28; (with_reducible refine (W.out _).mono ?_); rintro e w2 ⟨rfl, h2⟩; obtain ⟨hc2, hf2⟩ := bcell h2)
                            | (go_at_call 29; (with_reducible refine (I.out _ _ _ _).mono ?_); rintro e w3 ⟨rfl, rfl⟩))
                          go_ret
                          exact ⟨HE.out, b0.trans (h2.mono b0.size)⟩
                        · have g3' : decide (x.d > x.t) = false := decide_eq_false g3
                          have g3'' : decide (x.t < x.d) = false := decide_eq_false g3
                          have HE : Hid (Ending.returned (.int .i64 0) = .returned (.int .i64 r)) := Lib.hid (ret_i (by rw [hy, if_neg (by simp [overB]; omega)]))
                          clear hy
                          go_enter Tryz.func20, Tryz.ntmps20
                          go_wp2_with (first
                            | (go_at_call 28; (with_reducible refine (W.out _).mono ?_); rintro e w2 ⟨rfl, h2⟩; obtain ⟨hc2, hf2⟩ := bcell h2)
                            | (go_at_call 29; (with_reducible refine (I.out _ _ _ _).mono ?_); rintro e w3 ⟨rfl, rfl⟩))
                          go_ret
                          exact ⟨HE.out, b0.trans (h2.mono b0.size)⟩
                  · have HE : Hid (Ending.returned (.int .i64 11) = .returned (.int .i64 r)) := Lib.hid (ret_i (hno (by rw [inB_no (n := x.p) (by omega)]; simp)).symm)
                    clear hno hyes hpa
                    have p1' : decide (x.p < 1) = false := decide_eq_false (by omega)
                    go_enter Tryz.func20, Tryz.ntmps20
                    go_wp2_with (first
                      | (go_at_call 28; (with_reducible refine (W.out _).mono ?_); rintro e w2 ⟨rfl, h2⟩; obtain ⟨hc2, hf2⟩ := bcell h2)
                      | (go_at_call 29; (with_reducible refine (I.out _ _ _ _).mono ?_); rintro e w3 ⟨rfl, rfl⟩))
                    go_ret
                    exact ⟨HE.out, b0.trans (h2.mono b0.size)⟩
                · have HE : Hid (Ending.returned (.int .i64 11) = .returned (.int .i64 r)) := Lib.hid (ret_i (hno (by rw [inB_no (n := x.p) (by omega)]; simp)).symm)
                  clear hno hyes hpa
                  have p1' : x.p < 1 := by omega
                  go_enter Tryz.func20, Tryz.ntmps20
                  go_wp2_with (first
                    | (go_at_call 28; (with_reducible refine (W.out _).mono ?_); rintro e w2 ⟨rfl, h2⟩; obtain ⟨hc2, hf2⟩ := bcell h2)
                    | (go_at_call 29; (with_reducible refine (I.out _ _ _ _).mono ?_); rintro e w3 ⟨rfl, rfl⟩))
                  go_ret
                  exact ⟨HE.out, b0.trans (h2.mono b0.size)⟩
    · have HE : Hid (Ending.returned (.int .i64 11) = .returned (.int .i64 r)) := Lib.hid (ret_i (hno (by rw [decide_eq_false hl]; simp)).symm)
      clear hno hyes hpa
      have hl' : (x.n.size : Int) > 32 := by omega
      go_enter Tryz.func20, Tryz.ntmps20
      go_wp2_with (first
        | (go_at_call 28; (with_reducible refine (W.out _).mono ?_); rintro e w2 ⟨rfl, h2⟩; obtain ⟨hc2, hf2⟩ := bcell h2)
        | (go_at_call 29; (with_reducible refine (I.out _ _ _ _).mono ?_); rintro e w3 ⟨rfl, rfl⟩))
      go_ret
      exact ⟨HE.out, b0.trans (h2.mono b0.size)⟩

/-! ### Rests -/
def restI (x n : Int) : Int := (wrap64 (x.tmod n + n)).tmod n
theorem restI_bd (x n : Int) (hn : 0 < n) (hn2 : n ≤ 100000) : 0 ≤ restI x n ∧ restI x n < n := by
  have ha : -n < x.tmod n ∧ x.tmod n < n := by
    rcases Int.le_total 0 x with h | h
    · rw [Int.tmod_eq_emod_of_nonneg h]
      have := Int.emod_nonneg x (show n ≠ 0 by omega)
      have := Int.emod_lt_of_pos x hn
      omega
    · obtain ⟨m, rfl⟩ : ∃ m, x = -m := ⟨-x, by omega⟩
      rw [Int.neg_tmod, Int.tmod_eq_emod_of_nonneg (by omega)]
      have := Int.emod_nonneg m (show n ≠ 0 by omega)
      have := Int.emod_lt_of_pos m hn
      omega
  unfold restI
  generalize x.tmod n = a at *
  rw [IntWalk.wrap64_in _ (by omega), Int.tmod_eq_emod_of_nonneg (by omega)]
  exact ⟨Int.emod_nonneg _ (by omega), Int.emod_lt_of_pos _ hn⟩
set_option maxHeartbeats 1000000 in
theorem rrest_any (x n : Int) (w : World) (hx : in64 x) (hn : 0 < n) (hn2 : n ≤ 100000) : Calls Tryz.prog 12 #[.int .i64 x, .int .i64 n] w fun e w' => e = .returned (.int .i64 (restI x n)) ∧ w = w' := by
  obtain ⟨h1, h2⟩ := hx
  unfold restI
  go_enter Tryz.func12, Tryz.ntmps12
  go_wp2
  go_ret
  exact ⟨rfl, rfl⟩

/-! ### The chapter's example -/
theorem wordB_one (c : UInt8) (h : kind c = 1) : wordB (bs [c]) = true := by
  rw [wordB_cons (c := c) (r := []) (by simp [bs])]
  simp [oneT, h, tkOf, runLen, bs_size]
theorem word_a : wordB { data := #[97] } = true := wordB_one 97 (by decide +kernel)
end Go.Proofs.YtnhddnldebdmbaaGreatDoor
/- Tasks in memory; rows of them; regions that only read, and whose callees leave what was there, walked in the text's order. -/
namespace Go.Proofs.YtnhddnldebdmbaaGreatDoor
open Go.RowKit
set_option linter.unusedVariables false
set_option linter.unusedSimpArgs false

/-- The cells of a task. -/
def tsL (x : Ts) : List Value := [.string x.n, .int .i64 x.c, .int .i64 x.t, .int .i64 x.d, .int .i64 x.j, .int .i64 x.q, .int .i64 x.p]
theorem tsL_val (x : Ts) : tsV x = .agg (tsL x).toArray := rfl
/-- The task x lies in block b from offset o on. -/
structure TAt (w : World) (b o : Nat) (x : Ts) : Prop where
  r : w.rangeAt b o (tsL x)
theorem TAt.c0 {w : World} {b o : Nat} {x : Ts} (h : TAt w b o x) : w.cell? ⟨b, o, none⟩ = some (.string x.n) := h.r 0 _ rfl
theorem TAt.c1 {w : World} {b o : Nat} {x : Ts} (h : TAt w b o x) : w.cell? ⟨b, o + 1, none⟩ = some (.int .i64 x.c) := h.r 1 _ rfl
theorem TAt.c2 {w : World} {b o : Nat} {x : Ts} (h : TAt w b o x) : w.cell? ⟨b, o + 2, none⟩ = some (.int .i64 x.t) := h.r 2 _ rfl
theorem TAt.c3 {w : World} {b o : Nat} {x : Ts} (h : TAt w b o x) : w.cell? ⟨b, o + 3, none⟩ = some (.int .i64 x.d) := h.r 3 _ rfl
theorem TAt.c4 {w : World} {b o : Nat} {x : Ts} (h : TAt w b o x) : w.cell? ⟨b, o + 4, none⟩ = some (.int .i64 x.j) := h.r 4 _ rfl
theorem TAt.c5 {w : World} {b o : Nat} {x : Ts} (h : TAt w b o x) : w.cell? ⟨b, o + 5, none⟩ = some (.int .i64 x.q) := h.r 5 _ rfl
theorem TAt.c6 {w : World} {b o : Nat} {x : Ts} (h : TAt w b o x) : w.cell? ⟨b, o + 6, none⟩ = some (.int .i64 x.p) := h.r 6 _ rfl
theorem TAt.lt {w : World} {b o : Nat} {x : Ts} (h : TAt w b o x) : b < w.heap.size := World.block_lt_of_cell? w _ h.c0
theorem TAt.keep {w w' : World} {b o : Nat} {x : Ts} (h : TAt w b o x) (hk : ∀ i, w'.cell? ⟨b, i, none⟩ = w.cell? ⟨b, i, none⟩) : TAt w' b o x := ⟨fun j v hv => (hk _).trans (h.r j v hv)⟩
theorem TAt.below {w w' : World} {b o B : Nat} {x : Ts} (h : TAt w b o x) (hb : Below B w w') (hB : b < B) : TAt w' b o x := h.keep fun i => hb.cell (p := ⟨b, i, none⟩) hB
theorem TAt.later {w w' : World} {b o : Nat} {x : Ts} (h : TAt w b o x) (hb : Below w.heap.size w w') : TAt w' b o x := h.below hb h.lt
theorem TAt.alloc {w : World} {b o : Nat} {x : Ts} (h : TAt w b o x) (ob : Obj) : TAt (w.alloc ob) b o x := h.later ((Below.refl _ _).alloc (Nat.le_refl _) _)
theorem TAt.new (w : World) (x : Ts) : TAt (w.alloc (.cells #[.string x.n, .int .i64 x.c, .int .i64 x.t, .int .i64 x.d, .int .i64 x.j, .int .i64 x.q, .int .i64 x.p] 40)) w.heap.size 0 x :=
  ⟨fun j v hv => by rw [Nat.zero_add, cell_of_row _ _ j _ _ _ (heap_alloc_new w _)]; simpa [tsL] using hv⟩
theorem infoT : (Tryz.prog.info? 40).map (·.size) = some 7 := by kernel_rfl
theorem TAt.load {w : World} {b o : Nat} {x : Ts} (h : TAt w b o x) : (loadVar 40 ⟨b, o, none⟩).run Tryz.prog w = .ok (tsV x) w :=
  run_loadVar_mid w b o 40 (tsL x) _ h.r Tryz.underlying40 rfl infoT

/-- A slice that reads as a row of tasks. -/
structure Row (w : World) (A : Option Addr) (cap : Nat) (l : List Ts) : Prop where
  le : l.length ≤ cap
  mx : cap ≤ 9223372036854775807
  wf : ∀ x ∈ l, TsW x
  at_ : ∀ i x, l[i]? = some x → ∃ b o, A = some ⟨b, o, none⟩ ∧ TAt w b (o + i * 7) x
theorem Row.later {w w' : World} {A : Option Addr} {cap : Nat} {l : List Ts} (h : Row w A cap l) (hb : Below w.heap.size w w') : Row w' A cap l :=
  ⟨h.le, h.mx, h.wf, fun i x hx => by
    obtain ⟨b, o, e, ht⟩ := h.at_ i x hx
    exact ⟨b, o, e, ht.later hb⟩⟩
theorem Row.nil {w : World} (A : Option Addr) (cap : Nat) (h : cap ≤ 9223372036854775807) : Row w A cap [] := ⟨by simp, h, by simp, by simp⟩
/-- The task at a place: its block, and where it begins. -/
theorem Row.get {w : World} {A : Option Addr} {cap : Nat} {l : List Ts} (h : Row w A cap l) {k : Nat} (hk : k < l.length) : ∃ b o x, A = some ⟨b, o, none⟩ ∧ l[k]? = some x ∧ TsW x ∧ b < w.heap.size ∧ TAt w b (o + k * 7) x := by
  obtain ⟨b, o, e, ht⟩ := h.at_ k l[k] (List.getElem?_eq_getElem hk)
  exact ⟨b, o, l[k], e, List.getElem?_eq_getElem hk, h.wf _ (List.getElem_mem hk), ht.lt, ht⟩
theorem Row.at2 {w : World} {b o cap : Nat} {l : List Ts} (h : Row w (some ⟨b, o, none⟩) cap l) {k : Nat} {x : Ts} (hk : l[k]? = some x) : TAt w b (o + k * 7) x := by
  obtain ⟨b', o', e, ht⟩ := h.at_ k x hk
  cases e
  exact ht
theorem Row.take {w : World} {A : Option Addr} {cap : Nat} {l : List Ts} (h : Row w A cap l) (n : Nat) : Row w A cap (l.take n) :=
  ⟨by have := h.le; rw [List.length_take]; omega, h.mx, fun x hx => h.wf x (List.mem_of_mem_take hx), fun i x hx => by
    rw [List.getElem?_take] at hx
    split at hx
    · exact h.at_ i x hx
    · cases hx⟩

/-! ### The lexical walk of a region in a class of worlds -/
section
variable {ops : Array Oper} {C : World → Prop} {Q : Act → Prop} {a : Act} {o : Oper} {rest : List Oper}
theorem wq_skip (hw : Region.wanted o (yielded ops a.tmps) = false) (h : wpQuiet Tryz.prog ops C Q rest (a.put o.dst undef)) : wpQuiet Tryz.prog ops C Q (o :: rest) a :=
  wpQuiet_step fun K hK => by rw [hw]; exact hK _ h
theorem wq_val (v : Value) (hw : Region.wanted o (yielded ops a.tmps) = true) (hr : ∀ w, C w → (execOp a.eval o).run Tryz.prog w = .ok (.value v) w) (h : wpQuiet Tryz.prog ops C Q rest (a.put o.dst v)) : wpQuiet Tryz.prog ops C Q (o :: rest) a :=
  wpQuiet_step fun K hK => by
    rw [if_pos hw]
    refine ⟨v, fun w hC => ?_, hK _ h⟩
    unfold Oper.quietAt
    rw [hr w hC]
    exact ⟨rfl, rfl⟩
theorem wq_call {g : FuncId} {args : Array Value} {v : Value} (hc : ∀ w, C w → Calls Tryz.prog g args w fun e w' => e = .returned v ∧ Below w.heap.size w w') (hstep : ∀ w w', C w → Below w.heap.size w w' → C w')
    (hw : Region.wanted o (yielded ops a.tmps) = true) (hr : ∀ w, C w → (execOp a.eval o).run Tryz.prog w = .ok (.enter g args) w) (h : wpQuiet Tryz.prog ops C Q rest (a.put o.dst v)) : wpQuiet Tryz.prog ops C Q (o :: rest) a :=
  wpQuiet_step fun K hK => by
    rw [if_pos hw]
    refine ⟨v, fun w hC => ?_, hK _ h⟩
    unfold Oper.quietAt
    rw [hr w hC]
    exact ⟨rfl, (hc w hC).mono fun e w' hq => ⟨hq.1, hstep w w' hC hq.2⟩⟩
theorem wq_loadT {b p : Nat} {x : Ts} (y : Operand) (hC : ∀ w, C w → TAt w b p x) (hw : Region.wanted o (yielded ops a.tmps) = true) (ho : o.op = .load 40 y) (hy : a.eval y = .pointer (some ⟨b, p, none⟩))
    (h : wpQuiet Tryz.prog ops C Q rest (a.put o.dst (tsV x))) : wpQuiet Tryz.prog ops C Q (o :: rest) a :=
  wq_val (tsV x) hw (fun w hw' => by
    unfold execOp
    simp only [ho, hy, Instr.loadAt, Instr.sureAddr, Sem.run_bind, Sem.run_pure, Result.andThen_ok, (hC w hw').load]) h
theorem region_quiet_l {l : List Oper} {C : World → Prop} {id : Nat} {Q : Exit → Act → World → Prop} {a : Act} {w : World} (hm : Tryz.prog.follows .mixedOrders = true) (hB : Region.lexB .any l.toArray = true) (hC : C w.drew)
    (h : wpQuiet Tryz.prog l.toArray C (fun a' => ∀ w', C w' → Q .normal a' w') l a) : (Code.region id l.toArray true).wp Tryz.prog Q a w :=
  wp_region_quiet hm hB hC (by simpa using h)
theorem below_drew (w : World) : Below w.heap.size w w.drew := ⟨rfl, rfl, rfl, Nat.le_refl _, fun _ _ => rfl⟩
end
theorem calls_same {P : Program} {f : FuncId} {args : Array Value} {w : World} {v : Value} (h : Calls P f args w fun e w' => e = .returned v ∧ w = w') : Calls P f args w fun e w' => e = .returned v ∧ Below w.heap.size w w' :=
  h.mono fun e w' h => ⟨h.1, by rw [← h.2]; exact Below.refl _ _⟩
/-- The worlds in which of what was there nothing has turned. -/
def Lt (W w : World) : Prop := Below W.heap.size W w
theorem lt_step {W : World} (w w' : World) (h : Lt W w) (hb : Below w.heap.size w w') : Lt W w' := Below.trans h (hb.mono (Below.size h))
theorem lt_drew (W : World) : Lt W W.drew := below_drew W
end Go.Proofs.YtnhddnldebdmbaaGreatDoor
/- Plain numbers of tasks in memory; what came in, read. -/
namespace Go.Proofs.YtnhddnldebdmbaaGreatDoor
open Go.RowKit
set_option linter.unusedVariables false
set_option linter.unusedSimpArgs false

/-- A task by plain numbers. -/
structure Sp where
  c : Int
  d : Int
  j : Int
  q : Int
  t : Int
structure SpW (x : Sp) : Prop where
  c : in64 x.c
  d : in64 x.d
  j : in64 x.j
  q : in64 x.q
  t : in64 x.t
def spL (x : Sp) : List Value := [.int .i64 x.c, .int .i64 x.d, .int .i64 x.j, .int .i64 x.q, .int .i64 x.t]
structure SAt (w : World) (b o : Nat) (x : Sp) : Prop where
  r : w.rangeAt b o (spL x)
theorem SAt.c0 {w : World} {b o : Nat} {x : Sp} (h : SAt w b o x) : w.cell? ⟨b, o, none⟩ = some (.int .i64 x.c) := h.r 0 _ rfl
theorem SAt.c1 {w : World} {b o : Nat} {x : Sp} (h : SAt w b o x) : w.cell? ⟨b, o + 1, none⟩ = some (.int .i64 x.d) := h.r 1 _ rfl
theorem SAt.c2 {w : World} {b o : Nat} {x : Sp} (h : SAt w b o x) : w.cell? ⟨b, o + 2, none⟩ = some (.int .i64 x.j) := h.r 2 _ rfl
theorem SAt.c3 {w : World} {b o : Nat} {x : Sp} (h : SAt w b o x) : w.cell? ⟨b, o + 3, none⟩ = some (.int .i64 x.q) := h.r 3 _ rfl
theorem SAt.c4 {w : World} {b o : Nat} {x : Sp} (h : SAt w b o x) : w.cell? ⟨b, o + 4, none⟩ = some (.int .i64 x.t) := h.r 4 _ rfl
theorem SAt.lt {w : World} {b o : Nat} {x : Sp} (h : SAt w b o x) : b < w.heap.size := World.block_lt_of_cell? w _ h.c0
theorem SAt.later {w w' : World} {b o : Nat} {x : Sp} (h : SAt w b o x) (hb : Below w.heap.size w w') : SAt w' b o x := ⟨fun j v hv => (hb.cell (p := ⟨b, o + j, none⟩) h.lt).trans (h.r j v hv)⟩
/-- A slice that reads as a row of them. -/
structure SRow (w : World) (A : Option Addr) (cap : Nat) (l : List Sp) : Prop where
  le : l.length ≤ cap
  mx : cap ≤ 9223372036854775807
  wf : ∀ x ∈ l, SpW x
  at_ : ∀ i x, l[i]? = some x → ∃ b o, A = some ⟨b, o, none⟩ ∧ SAt w b (o + i * 5) x
theorem SRow.later {w w' : World} {A : Option Addr} {cap : Nat} {l : List Sp} (h : SRow w A cap l) (hb : Below w.heap.size w w') : SRow w' A cap l :=
  ⟨h.le, h.mx, h.wf, fun i x hx => by
    obtain ⟨b, o, e, ht⟩ := h.at_ i x hx
    exact ⟨b, o, e, ht.later hb⟩⟩

theorem SRow.get {w : World} {A : Option Addr} {cap : Nat} {l : List Sp} (h : SRow w A cap l) {k : Nat} (hk : k < l.length) : ∃ b o x, A = some ⟨b, o, none⟩ ∧ l[k]? = some x ∧ SpW x ∧ b < w.heap.size ∧ SAt w b (o + k * 5) x := by
  obtain ⟨b, o, e, ht⟩ := h.at_ k l[k] (List.getElem?_eq_getElem hk)
  exact ⟨b, o, l[k], e, List.getElem?_eq_getElem hk, h.wf _ (List.getElem_mem hk), ht.lt, ht⟩
theorem SRow.nil {w : World} (A : Option Addr) (cap : Nat) (h : cap ≤ 9223372036854775807) : SRow w A cap [] := ⟨by simp, h, by simp, by simp⟩
theorem list_of {α : Type} {P : Nat → α → Prop} : ∀ (n : Nat), (∀ i, i < n → ∃ x, P i x) → ∃ l : List α, l.length = n ∧ ∀ i x, l[i]? = some x → P i x
  | 0, _ => ⟨[], rfl, by simp⟩
  | n + 1, h => by
    obtain ⟨l, hl, hp⟩ := list_of n (fun i hi => h i (by omega))
    obtain ⟨x, hx⟩ := h n (by omega)
    refine ⟨l ++ [x], by simp [hl], fun i y hy => ?_⟩
    by_cases hi : i < l.length
    · rw [List.getElem?_append_left hi] at hy; exact hp i y hy
    · rw [List.getElem?_append_right (by omega)] at hy
      have : i - l.length = 0 := by
        rcases Nat.eq_zero_or_pos (i - l.length) with h0 | h0
        · exact h0
        · rw [List.getElem?_eq_none (by simp; omega)] at hy; cases hy
      rw [this] at hy
      obtain rfl : x = y := by simpa using hy
      obtain rfl : i = n := by omega
      exact hx
theorem spot_of {w : World} {a : Addr} {v : Value} (h : w.cell? a = some v) : a = ⟨a.block, a.off, none⟩ := by
  cases a with
  | mk b o s =>
    cases s with
    | none => rfl
    | some s =>
      unfold World.cell? at h
      split at h
      · simp at h
      · cases h
theorem add_none (b o n : Nat) : (⟨b, o, none⟩ : Addr).add n = ⟨b, o + n, none⟩ := by
  unfold Addr.add
  by_cases h : n = 0
  · simp [h]
  · simp [h]
theorem in64_of {n : Int} (h : (Lit.int .i64 n).wf = true) : in64 n := by
  simp [Lit.wf, IntKind.min, IntKind.max, IntKind.bits, IntKind.signed] at h
  unfold in64
  omega

theorem slice_spot {α : Type} {w : World} {base k len : Nat} {a : Addr} {f : List Value → Option α} {elems : List α} (hlen : elems.length = len) (h0 : 0 < len) (hk : 0 < k)
    (hel : ∀ i, i < len → (w.cells? base (a.add (i * k)) k).bind f = elems[i]?) : a = ⟨a.block, a.off, none⟩ := by
  have h1 := hel 0 h0
  rw [List.getElem?_eq_getElem (by omega)] at h1
  obtain ⟨cl, hcs2, ht⟩ := Option.bind_eq_some_iff.1 h1
  obtain ⟨_, hcl, hat⟩ := World.cells?_some hcs2
  have h2 := hat 0 hk
  rw [List.getElem?_eq_getElem (by omega)] at h2
  have e : (a.add (0 * k)).add 0 = a := by simp [Addr.add]
  rw [e] at h2
  exact spot_of h2

section
open Go.ChangeShapes Go.WideShapes Go.ChangeAt
variable {H : Type} {enc : TypeId × Value → H} {W : World} {base : Nat} {sp : Nat → Bool} {hd : Bool}
set_option maxRecDepth 100000 in
theorem read_tasks {fuel : Nat} {v : Value} {y : DataW H × List MemPlace} (h : DataW.trod enc Tryz.prog W base sp hd fuel 25 [v] = some y) :
    ∃ A cap l, v = .slice A l.length cap ∧ Row W A cap l := by
  rcases DataW.trod_slice Tryz.underlying25 h with ⟨hcs, _⟩ | ⟨a, len, cap, elems, rest, n, _, hcs, _, _, hl', hm, hlen, hel, _, _⟩
  · obtain rfl : v = .slice none 0 0 := by simpa using hcs
    exact ⟨none, 0, [], rfl, Row.nil _ _ (by omega)⟩
  · obtain rfl : v = .slice (some a) len cap := by simpa using hcs
    have c7 : Tryz.prog.cellsOf 40 = 7 := by kernel_rfl
    rw [c7] at hel
    unfold maxLen at hm
    rcases Nat.eq_zero_or_pos len with h0 | h0
    · subst h0
      exact ⟨_, cap, [], rfl, Row.nil _ _ hm⟩
    have hsp := slice_spot hlen h0 (by omega) hel
    obtain ⟨ab, ao, asp⟩ := a
    obtain rfl : asp = none := by injection hsp
    clear hsp
    have key : ∀ i, i < len → ∃ x : Ts, TsW x ∧ TAt W ab (ao + i * 7) x := by
      intro i hi
      have h1 := hel i hi
      have ci : Tryz.prog.cellsOf 3 = 1 := by kernel_rfl
      have ch : Tryz.prog.cellsOf 2 = 1 := by kernel_rfl
      have cs : Tryz.prog.cellsOf 9 = 1 := by kernel_rfl
      rw [List.getElem?_eq_getElem (by omega)] at h1
      obtain ⟨cl, hcs2, ht⟩ := Option.bind_eq_some_iff.1 h1
      obtain ⟨_, hcl, hat⟩ := World.cells?_some hcs2
      obtain ⟨ys, n', _, _, _, hyl, hf⟩ := DataW.trod_struct Tryz.underlying40 ht
      match cl, hcl, hat, hf with
      | [v0, v1, v2, v3, v4, v5, v6], _, hat, hf =>
        have g0 : DataW.trod enc Tryz.prog W base sp hd n' 9 [v0] = ys[0]? := by
          have e : DataW.trod enc Tryz.prog W base sp hd n' 9 (([v0, v1, v2, v3, v4, v5, v6].drop 0).take (Tryz.prog.cellsOf 9)) = ys[0]? := hf 0 _ rfl
          rw [cs] at e
          exact e
        have g1 : DataW.trod enc Tryz.prog W base sp hd n' 2 [v1] = ys[1]? := by
          have e : DataW.trod enc Tryz.prog W base sp hd n' 2 (([v0, v1, v2, v3, v4, v5, v6].drop 1).take (Tryz.prog.cellsOf 2)) = ys[1]? := hf 1 _ rfl
          rw [ch] at e
          exact e
        have g2 : DataW.trod enc Tryz.prog W base sp hd n' 2 [v2] = ys[2]? := by
          have e : DataW.trod enc Tryz.prog W base sp hd n' 2 (([v0, v1, v2, v3, v4, v5, v6].drop 2).take (Tryz.prog.cellsOf 2)) = ys[2]? := hf 2 _ rfl
          rw [ch] at e
          exact e
        have g3 : DataW.trod enc Tryz.prog W base sp hd n' 2 [v3] = ys[3]? := by
          have e : DataW.trod enc Tryz.prog W base sp hd n' 2 (([v0, v1, v2, v3, v4, v5, v6].drop 3).take (Tryz.prog.cellsOf 2)) = ys[3]? := hf 3 _ rfl
          rw [ch] at e
          exact e
        have g4 : DataW.trod enc Tryz.prog W base sp hd n' 2 [v4] = ys[4]? := by
          have e : DataW.trod enc Tryz.prog W base sp hd n' 2 (([v0, v1, v2, v3, v4, v5, v6].drop 4).take (Tryz.prog.cellsOf 2)) = ys[4]? := hf 4 _ rfl
          rw [ch] at e
          exact e
        have g5 : DataW.trod enc Tryz.prog W base sp hd n' 2 [v5] = ys[5]? := by
          have e : DataW.trod enc Tryz.prog W base sp hd n' 2 (([v0, v1, v2, v3, v4, v5, v6].drop 5).take (Tryz.prog.cellsOf 2)) = ys[5]? := hf 5 _ rfl
          rw [ch] at e
          exact e
        have g6 : DataW.trod enc Tryz.prog W base sp hd n' 3 [v6] = ys[6]? := by
          have e : DataW.trod enc Tryz.prog W base sp hd n' 3 (([v0, v1, v2, v3, v4, v5, v6].drop 6).take (Tryz.prog.cellsOf 3)) = ys[6]? := hf 6 _ rfl
          rw [ci] at e
          exact e
        have hy7 : ys.length = 7 := hyl
        rw [List.getElem?_eq_getElem (by omega)] at g0 g1 g2 g3 g4 g5 g6
        obtain ⟨z0, e0, _, w0⟩ := DataW.trod_string Tryz.underlying9 g0
        obtain ⟨z1, e1, _, w1⟩ := DataW.trod_int Tryz.underlying2 g1
        obtain ⟨z2, e2, _, w2⟩ := DataW.trod_int Tryz.underlying2 g2
        obtain ⟨z3, e3, _, w3⟩ := DataW.trod_int Tryz.underlying2 g3
        obtain ⟨z4, e4, _, w4⟩ := DataW.trod_int Tryz.underlying2 g4
        obtain ⟨z5, e5, _, w5⟩ := DataW.trod_int Tryz.underlying2 g5
        obtain ⟨z6, e6, _, w6⟩ := DataW.trod_int Tryz.underlying3 g6
        obtain rfl : v0 = .string z0 := by simpa using e0
        obtain rfl : v1 = .int .i64 z1 := by simpa using e1
        obtain rfl : v2 = .int .i64 z2 := by simpa using e2
        obtain rfl : v3 = .int .i64 z3 := by simpa using e3
        obtain rfl : v4 = .int .i64 z4 := by simpa using e4
        obtain rfl : v5 = .int .i64 z5 := by simpa using e5
        obtain rfl : v6 = .int .i64 z6 := by simpa using e6
        refine ⟨⟨z0, z1, z2, z3, z4, z5, z6⟩, ⟨by simpa [maxLen] using w0, in64_of w1, in64_of w2, in64_of w3, in64_of w4, in64_of w5, in64_of w6⟩, ⟨fun j u hu => ?_⟩⟩
        have hj : j < 7 := by
          rcases Nat.lt_or_ge j 7 with h | h
          · exact h
          · rw [List.getElem?_eq_none (by simp [tsL]; omega)] at hu; cases hu
        have := hat j (by simpa using hj)
        simp only [add_none] at this
        rw [this]
        rw [← hu]
        rfl
    obtain ⟨l, hl, hp⟩ := list_of len key
    subst hl
    refine ⟨some ⟨ab, ao, none⟩, cap, l, rfl, ⟨hl', hm, fun x hx => ?_, fun i x hx => ⟨ab, ao, rfl, (hp i x hx).2⟩⟩⟩
    obtain ⟨i, hi, rfl⟩ := List.getElem_of_mem hx
    exact (hp i _ (List.getElem?_eq_getElem hi)).1
set_option maxRecDepth 100000 in
theorem read_specs {fuel : Nat} {v : Value} {y : DataW H × List MemPlace} (h : DataW.trod enc Tryz.prog W base sp hd fuel 22 [v] = some y) :
    ∃ A cap l, v = .slice A l.length cap ∧ SRow W A cap l := by
  rcases DataW.trod_slice Tryz.underlying22 h with ⟨hcs, _⟩ | ⟨a, len, cap, elems, rest, n, _, hcs, _, _, hl', hm, hlen, hel, _, _⟩
  · obtain rfl : v = .slice none 0 0 := by simpa using hcs
    exact ⟨none, 0, [], rfl, SRow.nil _ _ (by omega)⟩
  · obtain rfl : v = .slice (some a) len cap := by simpa using hcs
    have c5 : Tryz.prog.cellsOf 47 = 5 := by kernel_rfl
    rw [c5] at hel
    unfold maxLen at hm
    rcases Nat.eq_zero_or_pos len with h0 | h0
    · subst h0
      exact ⟨_, cap, [], rfl, SRow.nil _ _ hm⟩
    have hsp := slice_spot hlen h0 (by omega) hel
    obtain ⟨ab, ao, asp⟩ := a
    obtain rfl : asp = none := by injection hsp
    clear hsp
    have key : ∀ i, i < len → ∃ x : Sp, SpW x ∧ SAt W ab (ao + i * 5) x := by
      intro i hi
      have h1 := hel i hi
      have ci : Tryz.prog.cellsOf 3 = 1 := by kernel_rfl
      rw [List.getElem?_eq_getElem (by omega)] at h1
      obtain ⟨cl, hcs2, ht⟩ := Option.bind_eq_some_iff.1 h1
      obtain ⟨_, hcl, hat⟩ := World.cells?_some hcs2
      obtain ⟨ys, n', _, _, _, hyl, hf⟩ := DataW.trod_struct Tryz.underlying47 ht
      match cl, hcl, hat, hf with
      | [v0, v1, v2, v3, v4], _, hat, hf =>
        have g0 : DataW.trod enc Tryz.prog W base sp hd n' 3 [v0] = ys[0]? := by
          have e : DataW.trod enc Tryz.prog W base sp hd n' 3 (([v0, v1, v2, v3, v4].drop 0).take (Tryz.prog.cellsOf 3)) = ys[0]? := hf 0 _ rfl
          rw [ci] at e
          exact e
        have g1 : DataW.trod enc Tryz.prog W base sp hd n' 3 [v1] = ys[1]? := by
          have e : DataW.trod enc Tryz.prog W base sp hd n' 3 (([v0, v1, v2, v3, v4].drop 1).take (Tryz.prog.cellsOf 3)) = ys[1]? := hf 1 _ rfl
          rw [ci] at e
          exact e
        have g2 : DataW.trod enc Tryz.prog W base sp hd n' 3 [v2] = ys[2]? := by
          have e : DataW.trod enc Tryz.prog W base sp hd n' 3 (([v0, v1, v2, v3, v4].drop 2).take (Tryz.prog.cellsOf 3)) = ys[2]? := hf 2 _ rfl
          rw [ci] at e
          exact e
        have g3 : DataW.trod enc Tryz.prog W base sp hd n' 3 [v3] = ys[3]? := by
          have e : DataW.trod enc Tryz.prog W base sp hd n' 3 (([v0, v1, v2, v3, v4].drop 3).take (Tryz.prog.cellsOf 3)) = ys[3]? := hf 3 _ rfl
          rw [ci] at e
          exact e
        have g4 : DataW.trod enc Tryz.prog W base sp hd n' 3 [v4] = ys[4]? := by
          have e : DataW.trod enc Tryz.prog W base sp hd n' 3 (([v0, v1, v2, v3, v4].drop 4).take (Tryz.prog.cellsOf 3)) = ys[4]? := hf 4 _ rfl
          rw [ci] at e
          exact e
        have hy5 : ys.length = 5 := hyl
        rw [List.getElem?_eq_getElem (by omega)] at g0 g1 g2 g3 g4
        obtain ⟨z0, e0, _, w0⟩ := DataW.trod_int Tryz.underlying3 g0
        obtain ⟨z1, e1, _, w1⟩ := DataW.trod_int Tryz.underlying3 g1
        obtain ⟨z2, e2, _, w2⟩ := DataW.trod_int Tryz.underlying3 g2
        obtain ⟨z3, e3, _, w3⟩ := DataW.trod_int Tryz.underlying3 g3
        obtain ⟨z4, e4, _, w4⟩ := DataW.trod_int Tryz.underlying3 g4
        obtain rfl : v0 = .int .i64 z0 := by simpa using e0
        obtain rfl : v1 = .int .i64 z1 := by simpa using e1
        obtain rfl : v2 = .int .i64 z2 := by simpa using e2
        obtain rfl : v3 = .int .i64 z3 := by simpa using e3
        obtain rfl : v4 = .int .i64 z4 := by simpa using e4
        refine ⟨⟨z0, z1, z2, z3, z4⟩, ⟨in64_of w0, in64_of w1, in64_of w2, in64_of w3, in64_of w4⟩, ⟨fun j u hu => ?_⟩⟩
        have hj : j < 5 := by
          rcases Nat.lt_or_ge j 5 with h | h
          · exact h
          · rw [List.getElem?_eq_none (by simp [spL]; omega)] at hu; cases hu
        have := hat j (by simpa using hj)
        simp only [add_none] at this
        rw [this]
        rw [← hu]
        rfl
    obtain ⟨l, hl, hp⟩ := list_of len key
    subst hl
    refine ⟨some ⟨ab, ao, none⟩, cap, l, rfl, ⟨hl', hm, fun x hx => ?_, fun i x hx => ⟨ab, ao, rfl, (hp i x hx).2⟩⟩⟩
    obtain ⟨i, hi, rfl⟩ := List.getElem_of_mem hx
    exact (hp i _ (List.getElem?_eq_getElem hi)).1
end
end Go.Proofs.YtnhddnldebdmbaaGreatDoor
/- Find, and the law's finds. -/
namespace Go.Proofs.YtnhddnldebdmbaaGreatDoor
open Go.RowKit
set_option linter.unusedVariables false
set_option linter.unusedSimpArgs false

/-- The first place of a task of that name. -/
def fnd : List Ts → ByteArray → Option Nat
  | [], _ => none
  | x :: r, s => if x.n = s then some 0 else (fnd r s).map (· + 1)
theorem name_eq (a b : ByteArray) : (a.toList == b.toList) = decide (a = b) := by
  rw [Lib.toList_data, Lib.toList_data, Bool.eq_iff_iff]
  simp only [beq_iff_eq, decide_eq_true_eq]
  constructor
  · intro h
    apply ByteArray.ext
    exact Array.toList_inj.1 h
  · intro h; rw [h]
theorem drop_ts {l : List Ts} {k : Nat} {x : Ts} (h : l[k]? = some x) : l.drop k = x :: l.drop (k + 1) := by
  obtain ⟨hk, e⟩ := List.getElem?_eq_some_iff.1 h
  rw [List.drop_eq_getElem_cons hk, e]
theorem fnd_hit {l : List Ts} {s : ByteArray} {k : Nat} {x : Ts} (h : fnd l s = (fnd (l.drop k) s).map (· + k)) (hx : l[k]? = some x) (he : x.n = s) : fnd l s = some k := by
  rw [h, drop_ts hx, fnd, if_pos he]; simp
theorem fnd_miss {l : List Ts} {s : ByteArray} {k : Nat} {x : Ts} (h : fnd l s = (fnd (l.drop k) s).map (· + k)) (hx : l[k]? = some x) (he : x.n ≠ s) : fnd l s = (fnd (l.drop (k + 1)) s).map (· + (k + 1)) := by
  rw [h, drop_ts hx, fnd, if_neg he, Option.map_map]
  congr 1
  funext m
  simp; omega
theorem fnd_end {l : List Ts} {s : ByteArray} (h : fnd l s = (fnd (l.drop l.length) s).map (· + l.length)) : fnd l s = none := by
  rw [h, List.drop_length]; rfl
theorem fnd_self : ∀ {l : List Ts} {k : Nat} {x : Ts}, l[k]? = some x → ∃ m y, fnd l x.n = some m ∧ m ≤ k ∧ l[m]? = some y ∧ y.n = x.n
  | [], k, x, h => by simp at h
  | a :: r, k, x, h => by
    by_cases ha : a.n = x.n
    · exact ⟨0, a, by rw [fnd, if_pos ha], Nat.zero_le _, rfl, ha⟩
    · cases k with
      | zero => exact absurd (by simpa using congrArg (Option.map Ts.n) h) ha
      | succ k =>
        obtain ⟨m, y, h1, h2, h3, h4⟩ := fnd_self (l := r) (k := k) (x := x) (by simpa using h)
        exact ⟨m + 1, y, by rw [fnd, if_neg ha, h1]; rfl, by omega, by simpa using h3, h4⟩
theorem fnd_lt : ∀ {l : List Ts} {s : ByteArray} {m : Nat}, fnd l s = some m → m < l.length
  | [], s, m, h => by cases h
  | a :: r, s, m, h => by
    unfold fnd at h
    by_cases ha : a.n = s
    · rw [if_pos ha] at h; cases h; simp
    · rw [if_neg ha] at h
      cases hr : fnd r s with
      | none => rw [hr] at h; cases h
      | some k => rw [hr] at h; have := fnd_lt hr; simp at h; simp; omega

end Go.Proofs.YtnhddnldebdmbaaGreatDoor
/- Rows of tasks of the call's own; one letter as a text. -/
namespace Go.Proofs.YtnhddnldebdmbaaGreatDoor
open Go.RowKit
set_option linter.unusedVariables false
set_option linter.unusedSimpArgs false

/-! ### Cells of many tasks -/
def tsCells (ts : List Ts) : List Value := ts.flatMap tsL
theorem tsCells_snoc (ts : List Ts) (x : Ts) : tsCells (ts ++ [x]) = tsCells ts ++ tsL x := by simp [tsCells]
theorem tsCells_get (ts : List Ts) : ∀ (i : Nat) (x : Ts), ts[i]? = some x → ∀ j v, (tsL x)[j]? = some v → (tsCells ts)[i * 7 + j]? = some v := by
  induction ts with
  | nil => intro i x h; simp at h
  | cons a r ih =>
    intro i x h j v hv
    have hj : j < 7 := by
      rcases Nat.lt_or_ge j 7 with h | h
      · exact h
      · rw [List.getElem?_eq_none (by simp [tsL]; omega)] at hv; cases hv
    cases i with
    | zero =>
      simp at h; subst h
      rw [Nat.zero_mul, Nat.zero_add, tsCells, List.flatMap_cons, List.getElem?_append_left (by simp [tsL]; omega)]
      exact hv
    | succ i =>
      simp only [List.getElem?_cons_succ] at h
      have := ih i x h j v hv
      rw [tsCells, List.flatMap_cons, List.getElem?_append_right (by simp [tsL]; omega)]
      rw [show (i + 1) * 7 + j - (tsL a).length = i * 7 + j by simp [tsL]; omega]
      exact this
theorem infoTs : (Tryz.prog.info? 40).map (fun i => (i.zero, i.size, i.bytes)) = some (some (.agg #[.string { data := #[] }, .int .i64 0, .int .i64 0, .int .i64 0, .int .i64 0, .int .i64 0, .int .i64 0]), 7, 64) := by kernel_rfl
theorem seven_new (V : World) (x : Ts) : ∀ j u, (tsL x)[j]? = some u → (V.alloc (.cells #[.string x.n, .int .i64 x.c, .int .i64 x.t, .int .i64 x.d, .int .i64 x.j, .int .i64 x.q, .int .i64 x.p] 40)).cell? ((⟨V.heap.size, 0, none⟩ : Addr).add j) = some u := by
  intro j u hj
  rw [add_none, Nat.zero_add, cell_of_row _ _ j _ _ _ (heap_alloc_new V _)]
  simpa [tsL] using hj
theorem tsL_one (x : Ts) : ∀ u ∈ tsL x, u.oneCell' = true := by
  intro u hu
  simp only [tsL, List.mem_cons, List.not_mem_nil, or_false] at hu
  rcases hu with rfl | rfl | rfl | rfl | rfl | rfl | rfl <;> rfl
/-- A row of the call's own. -/
structure SetIn (B : Nat) (w : World) (v : Value) (k : Nat) (ts : List Ts) : Prop where
  len : ts.length = k
  wf : ∀ x ∈ ts, TsW x
  row : w.ownsRow B 40 7 v k (tsCells ts)
theorem SetIn.nil (B : Nat) (w : World) : SetIn B w (.slice none 0 0) 0 [] := ⟨rfl, by simp, World.ownsRow_nil _ _ _ _⟩
/-- A row that may be stored to. -/
structure OwnT (B : Nat) (w : World) (g cap : Nat) (ts : List Ts) : Prop where
  hB : B ≤ g
  lt : g < w.heap.size
  fz : ∀ i, w.frozen? ⟨g, i, none⟩ = false
  le : ts.length ≤ cap
  mx : cap ≤ 9223372036854775807
  wf : ∀ x ∈ ts, TsW x
  at_ : ∀ i x, ts[i]? = some x → TAt w g (i * 7) x
theorem SetIn.own {B : Nat} {w : World} {v : Value} {k : Nat} {ts : List Ts} (h : SetIn B w v k ts) (hk : 0 < k) : ∃ g cap, v = .slice (some ⟨g, 0, none⟩) k cap ∧ OwnT B w g cap ts := by
  have hc := fun g (hg : v.ownBlock = some g) => h.row.cells hg
  rcases h.row.2 with ⟨hv, h0⟩ | ⟨g, cap, cur, hv, hBg, hgb, hle, hmax, _, _⟩
  · omega
  · subst hv
    refine ⟨g, cap, rfl, hBg, (Array.getElem?_eq_some_iff.1 hgb).1, fun i => frozen_of_row w g i _ _ hgb, by rw [h.len]; exact hle, hmax, h.wf, fun i x hx => ⟨fun j u hu => ?_⟩⟩
    have := hc g rfl _ _ (tsCells_get ts i x hx j u hu)
    rwa [add_none, Nat.zero_add] at this
theorem OwnT.row {B : Nat} {w : World} {g cap : Nat} {ts : List Ts} (h : OwnT B w g cap ts) : Row w (some ⟨g, 0, none⟩) cap ts :=
  ⟨h.le, h.mx, h.wf, fun i x hx => ⟨g, 0, rfl, by rw [Nat.zero_add]; exact h.at_ i x hx⟩⟩
theorem OwnT.setP {B : Nat} {w : World} {g cap : Nat} {ts : List Ts} (h : OwnT B w g cap ts) {k : Nat} {x : Ts} (hx : ts[k]? = some x) (p : Int) (hp : in64 p) :
    OwnT B (w.setCell ⟨g, k * 7 + 6, none⟩ (.int .i64 p)) g cap (ts.set k { x with p := p }) := by
  have hxw := h.wf x (List.mem_of_getElem? hx)
  have hkl : k < ts.length := (List.getElem?_eq_some_iff.1 hx).1
  refine ⟨h.hB, by simp; exact h.lt, fun i => by simp [h.fz], by rw [List.length_set]; exact h.le, h.mx, fun y hy => ?_, fun i y hy => ⟨fun j u hu => ?_⟩⟩
  · rcases List.mem_or_eq_of_mem_set hy with hy | rfl
    · exact h.wf y hy
    · exact ⟨hxw.n, hxw.c, hxw.t, hxw.d, hxw.j, hxw.q, hp⟩
  · have hj : j < 7 := by
      rcases Nat.lt_or_ge j 7 with h | h
      · exact h
      · rw [List.getElem?_eq_none (by simp [tsL]; omega)] at hu; cases hu
    by_cases hik : k = i
    · subst hik
      rw [List.getElem?_set_self hkl] at hy
      obtain rfl : { x with p := p } = y := by simpa using hy
      have hc := (h.at_ k x hx).r
      by_cases hj6 : j = 6
      · subst hj6
        obtain rfl : Value.int .i64 p = u := by simpa [tsL] using hu
        exact World.cell?_setCell_same _ _ _ (h.at_ k x hx).c6
      · rw [World.cell?_setCell_other _ _ _ _ (by intro e; have := congrArg Addr.off e; simp only at this; omega)]
        refine hc j u ?_
        rw [← hu]
        rcases (by omega : j = 0 ∨ j = 1 ∨ j = 2 ∨ j = 3 ∨ j = 4 ∨ j = 5) with rfl | rfl | rfl | rfl | rfl | rfl <;> rfl
    · rw [List.getElem?_set_ne hik] at hy
      rw [World.cell?_setCell_other _ _ _ _ (by intro e; have := congrArg Addr.off e; simp only at this; omega)]
      exact (h.at_ i y hy).r j u hu
theorem setCell_own {B : Nat} {w w' : World} {g i : Nat} (h : Below B w w') (hB : B ≤ g) (u : Value) : Below B w (w'.setCell ⟨g, i, none⟩ u) := h.setCell (p := ⟨g, i, none⟩) hB u

/-! ### One letter as a text -/
def chr (n : Int) : ByteArray := bs [UInt8.ofNat n.toNat]
theorem conv_n (W : World) (n : Int) (h0 : 0 ≤ n) (h1 : n < 256) : (convert 49 9 (.slice (some ⟨W.heap.size, 0, none⟩) 1 1)).run Tryz.prog (W.alloc (.cells #[.int .u8 n] 5)) = .ok (.string (chr n)) (W.alloc (.cells #[.int .u8 n] 5)) := by
  rw [run_convert_bytes_string _ 49 9 5 _ _ _ Tryz.underlying49 Tryz.underlying5 Tryz.underlying9]
  rw [run_bytesToString (ns := [n])]
  · rfl
  · go_simp
theorem chr_size (n : Int) : (chr n).size = 1 := by rw [chr, bs_size]; rfl

end Go.Proofs.YtnhddnldebdmbaaGreatDoor
