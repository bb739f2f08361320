/- Texts about the program, one after the other: Bytes, Base, Begun, One, RWord, TskR, Find, RChk. -/
import Derived.WalkKit
import Derived.ProofKit
import Derived.Handy
import Derived.Lib.Hide
import Derived.Deep.MidRow
import Derived.Deep.QuietTactic
import Derived.BigQuiet
import Derived.Deep.RegionHeld3
import Derived.Laws.Externs
import Derived.Shelf.Small.Bits
import Derived.Shelf.Small.Strs
import Derived.Shelf.Small.Wraps
import Derived.Shelf.Strconv.Itoa0
import Derived.Shelf.LaysM
import Derived.Shelf.Strconv.Clone
import Derived.Shelf.Strings.Search1
import Derived.Shelf.Bits.Mul64
import Derived.Ground.Names2Prog
import Derived.Shelf.Slices.SearchI
import Derived.Test.YthfkbbiaemmndaaGreatDoorRows
import Derived.Test.YthfkbbiaemmndaaGreatDoorProg
import Derived.RangeFuncBox
import Derived.Deep.CutBlock
import Derived.RangeFuncNested
import Derived.RangeFuncBound
import Derived.RangeFuncCalls
import Derived.RangeFuncLeaves
import Derived.RangeFuncWrites
import Derived.Shelf.Abstract
import Derived.OwnWalkIn
import Derived.TacticsInMore
import Derived.LoopNIn
import Derived.LoopIn
import Derived.Maps.AppendAt
import Derived.Laws.AppendOwn
import Derived.Deep.Quiet
import Derived.Deep.LoopGhost
import Derived.WalkMore
import Derived.Laws.BytesString
import Derived.RangeFuncRecord
import Derived.MapKept
import Derived.Below
import Derived.ChangeOld
import Derived.OpenShut
import Derived.LaidMore
import Derived.Test.YthfkbbiaemmndaaGreatDoorG1
import Derived.Test.YthfkbbiaemmndaaGreatDoorG3
import Derived.Test.YthfkbbiaemmndaaGreatDoorG4
import Derived.Test.YthfkbbiaemmndaaGreatDoorG5
set_option linter.unusedVariables false
set_option linter.unusedSimpArgs false
set_option maxRecDepth 100000
set_option maxHeartbeats 16000000
namespace Go.Proofs.YthfkbbiaemmndaaGreatDoor
section
theorem goes_3 (c : UInt8) : goes 3 c = false := by simp [goes]
theorem goes_4 (c : UInt8) : goes 4 c = false := by simp [goes]
end
section
open Go.RowKit
theorem bs_toList (l : List UInt8) : (bs l).data.toList = l := by simp [bs]
theorem rletter_any (c : UInt8) (w : World) : Calls Tryz.prog 139 #[.int .u8 (c.toNat : Int)] w fun e w' => e = .returned (.bool (ltr c)) ∧ w = w' := by
 obtain ⟨n, hn, hc⟩ := byte_nat c
 have hl : ltr c = decide ((97 ≤ n ∧ n ≤ 122) ∨ (65 ≤ n ∧ n ≤ 90) ∨ n = 95) := by rw [hn]; rfl
 rw [hl]
 rw [← hn]
 clear hl hn
 go_enter Tryz.func139, Tryz.ntmps139
 by_cases h1 : 97 ≤ n <;> by_cases h2 : n ≤ 122 <;> by_cases h3 : 65 ≤ n <;> by_cases h4 : n ≤ 90 <;> by_cases h5 : n = 95 <;> first | omega | (go_wp2; go_ret; simp [*]; try omega)
theorem rdigit_any (c : UInt8) (w : World) : Calls Tryz.prog 140 #[.int .u8 (c.toNat : Int)] w fun e w' => e = .returned (.bool (dgt c)) ∧ w = w' := by
 obtain ⟨n, hn, hc⟩ := byte_nat c
 have hl : dgt c = decide (48 ≤ n ∧ n ≤ 57) := by rw [hn]; rfl
 rw [hl]
 rw [← hn]
 clear hl hn
 go_enter Tryz.func140, Tryz.ntmps140
 by_cases h1 : 48 ≤ n <;> by_cases h2 : n ≤ 57 <;> first | omega | (go_wp2; go_ret; simp [*]; try omega)
end
section
open Go.RowKit
theorem TB.num {W : World} {b k i n n' : Nat} {t : List UInt8} (h : TB W b ⟨k, i, t, n⟩) : TB (W.setCell ⟨b, 3, none⟩ (.int .i64 (n' : Int))) b ⟨k, i, t, n'⟩ :=
 ⟨heap_setCell_same _ b 3 _ _ (.int .i64 (n' : Int)) h.is⟩
end
section
open Go.RowKit
theorem kind_ltr {c : UInt8} (h : ltr c = true) : kind c = 1 := by rw [kind, if_pos h]
theorem kind_dgt {c : UInt8} (h : ltr c = false) (h2 : dgt c = true) : kind c = 2 := by rw [kind, if_neg (by rw [h]; simp), if_pos h2]
theorem kind_eq {c : UInt8} (h : ltr c = false) (h2 : dgt c = false) (h3 : c.toNat = 61) : kind c = 3 := by rw [kind, if_neg (by rw [h]; simp), if_neg (by rw [h2]; simp), if_pos h3]
theorem kind_lf {c : UInt8} (h : ltr c = false) (h2 : dgt c = false) (h3 : c.toNat = 10) : kind c = 4 := by rw [kind, if_neg (by rw [h]; simp), if_neg (by rw [h2]; simp), if_neg (by omega), if_pos h3]
theorem kind_no {c : UInt8} (h : ltr c = false) (h2 : dgt c = false) (h3 : c.toNat ≠ 61) (h4 : c.toNat ≠ 10) : kind c = 0 := by rw [kind, if_neg (by rw [h]; simp), if_neg (by rw [h2]; simp), if_neg h3, if_neg h4]
theorem runLen_no {k : Nat} (h : ∀ c, goes k c = false) : ∀ l, runLen k l = 0
 | [] => rfl
 | c :: r => by rw [runLen, if_neg (by rw [h c]; simp)]
theorem slice_run (s : ByteArray) (i j : Nat) (h1 : i ≤ j) (h2 : j ≤ s.size) (w : World) : (Instr.slice 9 (.string s) (some (.int .i64 (i : Int))) (some (.int .i64 (j : Int))) none).run Tryz.prog w = .ok (.string (s.extract i j)) w := by
 have hij : (i : Int) ≤ (j : Int) := by omega
 have hjs : (j : Int) ≤ (s.size : Int) := by omega
 go_simp
theorem TB.kind' {W : World} {b k k' i n : Nat} {t : List UInt8} (h : TB W b ⟨k, i, t, n⟩) : TB (W.setCell ⟨b, 0, none⟩ (.int .i64 (k' : Int))) b ⟨k', i, t, n⟩ :=
 ⟨heap_setCell_same _ b 0 _ _ (.int .i64 (k' : Int)) h.is⟩
theorem extract_get (s : ByteArray) (i j m : Nat) (hi : i ≤ m) (hm : m < j) (hj : j ≤ s.size) (t : List UInt8) (h : s.extract i j = bs t) : ∃ h1 : m < s.size, ∃ h2 : m - i < t.length, t[m - i] = s[m] := by
 have e := congrArg (fun b : ByteArray => b.data.toList) h
 simp only [bs_toList, Lib.extract_data] at e
 have hs := Lib.size_eq s
 have hl : t.length = j - i := by rw [← e, List.length_take, List.length_drop]; omega
 refine ⟨by omega, by omega, ?_⟩
 have h2 : t[m - i]? = some s[m] := by
  rw [← e, List.getElem?_take_of_lt (by omega), List.getElem?_drop, show i + (m - i) = m by omega]
  rw [List.getElem?_eq_getElem (by omega)]
  rfl
 rw [List.getElem?_eq_getElem (by omega)] at h2
 exact Option.some.inj h2
theorem one_any (s : ByteArray) (i : Nat) (w : World) (hi : i < s.size) (hs : s.size ≤ 9223372036854775807) : Calls Tryz.prog 120 #[.string s, .int .i64 (i : Int)] w fun e w' => e = .returned (tkV (oneT i s[i] (s.data.toList.drop (i + 1)))) ∧ Below w.heap.size w w' := by
 obtain ⟨c, hc⟩ : ∃ c, s[i] = c := ⟨_, rfl⟩
 rw [hc]
 obtain ⟨W1, hW1, T4, T5, B1⟩ := two_toks w 0 i
 have HW := Lib.hid hW1
 rw [show ((0 : Nat) : Int) = 0 from rfl] at HW
 have C := Lib.hid hc
 have hc256 := c.toNat_lt
 have L := Lib.hid (fun w => rletter_any c w)
 have D := Lib.hid (fun w => rdigit_any c w)
 clear hW1
 have f5 := T5.frozen
 have c0 := T5.c0
 have c1 := T5.c1
 have c2 := T5.c2
 have c3 := T5.c3
 have g4 := T4.frozen
 have q0 := T4.c0
 have q1 := T4.c1
 have q2 := T4.c2
 have q3 := T4.c3
 cases hl : ltr c
 ·cases hd : dgt c
  ·by_cases h61 : c.toNat = 61
   ·have hk : oneT i c (s.data.toList.drop (i + 1)) = ⟨3, i, [c], 0⟩ := by rw [oneT, kind_eq hl hd h61, if_neg (by omega), tkOf, kind_eq hl hd h61, runLen_no goes_3]; simp
    rw [hk]
    rw [hl] at L
    rw [hd] at D
    have t1 : ((c.toNat : Int) == 61) = true := by simp; omega
    have hx : s.extract i (i + 1) = bs [c] := by rw [extract_tok s i (i + 1) hi (Nat.le_refl _), C.out]; simp
    have hsl := fun w => slice_run s i (i + 1) (by omega) (by omega) w
    rw [hx, show ((i + 1 : Nat) : Int) = (i : Int) + 1 from rfl] at hsl
    have T61 := Lib.hid h61
    clear hk hl hd h61
    go_enter Tryz.func120, Tryz.ntmps120
    go_upto_region 2 with (fail)
    rw [HW.out]
    go_wp2_with (first
     | (go_at_call 139; (with_reducible refine (L.out _).mono ?_); rintro e w' ⟨rfl, rfl⟩)
     | (go_at_call 140; (with_reducible refine (D.out _).mono ?_); rintro e w' ⟨rfl, rfl⟩))
    have R := ((T4.other ⟨w.heap.size + 1, 0, none⟩ (.int .i64 3) (by simp)).other ⟨w.heap.size + 1, 2, none⟩ (.string (bs [c])) (by simp)).whole (y := ⟨3, i, [c], 0⟩)
    exact bodyPost_ret (v := tkV ⟨3, i, [c], 0⟩) (results_tok rfl _ _ _ _ rfl R) rfl ⟨rfl, below_whole ((B1.setCell (p := ⟨w.heap.size + 1, 0, none⟩) (Nat.le_succ _) _).setCell (p := ⟨w.heap.size + 1, 2, none⟩) (Nat.le_succ _) _) (Nat.le_refl _) _ _ _ _⟩
   ·by_cases h10 : c.toNat = 10
    ·have hk : oneT i c (s.data.toList.drop (i + 1)) = ⟨4, i, [c], 0⟩ := by rw [oneT, kind_lf hl hd h10, if_neg (by omega), tkOf, kind_lf hl hd h10, runLen_no goes_4]; simp
     rw [hk]
     rw [hl] at L
     rw [hd] at D
     have t1 : ((c.toNat : Int) == 10) = true := by simp; omega
     have t2 : ((c.toNat : Int) == 61) = false := by simp; omega
     have T10 := Lib.hid h61
     clear h61
     have hx : s.extract i (i + 1) = bs [c] := by rw [extract_tok s i (i + 1) hi (Nat.le_refl _), C.out]; simp
     have hsl := fun w => slice_run s i (i + 1) (by omega) (by omega) w
     rw [hx, show ((i + 1 : Nat) : Int) = (i : Int) + 1 from rfl] at hsl
     have T61 := Lib.hid h10
     clear hk hl hd h10
     go_enter Tryz.func120, Tryz.ntmps120
     go_upto_region 2 with (fail)
     rw [HW.out]
     go_wp2_with (first
      | (go_at_call 139; (with_reducible refine (L.out _).mono ?_); rintro e w' ⟨rfl, rfl⟩)
      | (go_at_call 140; (with_reducible refine (D.out _).mono ?_); rintro e w' ⟨rfl, rfl⟩))
     have R := ((T4.other ⟨w.heap.size + 1, 0, none⟩ (.int .i64 4) (by simp)).other ⟨w.heap.size + 1, 2, none⟩ (.string (bs [c])) (by simp)).whole (y := ⟨4, i, [c], 0⟩)
     exact bodyPost_ret (v := tkV ⟨4, i, [c], 0⟩) (results_tok rfl _ _ _ _ rfl R) rfl ⟨rfl, below_whole ((B1.setCell (p := ⟨w.heap.size + 1, 0, none⟩) (Nat.le_succ _) _).setCell (p := ⟨w.heap.size + 1, 2, none⟩) (Nat.le_succ _) _) (Nat.le_refl _) _ _ _ _⟩
    ·have hk : oneT i c (s.data.toList.drop (i + 1)) = ⟨0, 0, [], 0⟩ := by rw [oneT, kind_no hl hd h61 h10, if_pos rfl]
     rw [hk]
     rw [hl] at L
     rw [hd] at D
     have t1 : ((c.toNat : Int) == 61) = false := by simp; omega
     have t2 : ((c.toNat : Int) == 10) = false := by simp; omega
     clear hk hl hd h61 h10
     go_enter Tryz.func120, Tryz.ntmps120
     go_upto_region 2 with (fail)
     rw [HW.out]
     go_wp2_with (first
     | (go_at_call 139; (with_reducible refine (L.out _).mono ?_); rintro e w' ⟨rfl, rfl⟩)
     | (go_at_call 140; (with_reducible refine (D.out _).mono ?_); rintro e w' ⟨rfl, rfl⟩))
     have R := T4.whole (y := ⟨0, 0, [], 0⟩)
     exact bodyPost_ret (v := tkV ⟨0, 0, [], 0⟩) (results_tok rfl _ _ _ _ rfl R) rfl ⟨rfl, below_whole B1 (Nat.le_refl _) _ _ _ _⟩
  ·have hkc := kind_dgt hl hd
   have hk : oneT i c (s.data.toList.drop (i + 1)) = tkOf i c (s.data.toList.drop (i + 1)) := by rw [oneT, hkc, if_neg (by omega)]
   rw [hk]
   have hdig := tkOf_digits (i := i) (r := s.data.toList.drop (i + 1)) hkc
   generalize hx : tkOf i c (s.data.toList.drop (i + 1)) = x at *
   have hxl : x.k = 2 ∧ x.at' = i ∧ x.t = c :: (s.data.toList.drop (i + 1)).take (runLen 2 (s.data.toList.drop (i + 1))) ∧ x.n = numOf x.t := by
    subst hx
    refine ⟨hkc, rfl, by simp only [tkOf, hkc], by simp [tkOf, hkc]⟩
   have HX := Lib.hid hxl
   have HG := Lib.hid hdig
   rw [hl] at L
   rw [hd] at D
   clear hk hx hxl hkc hl hd hdig
   go_enter Tryz.func120, Tryz.ntmps120
   go_upto_region 2 with (fail)
   rw [HW.out]
   go_wp2_with (first
    | (go_at_call 139; (with_reducible refine (L.out _).mono ?_); rintro e w' ⟨rfl, rfl⟩)
    | (go_at_call 140; (with_reducible refine (D.out _).mono ?_); rintro e w' ⟨rfl, rfl⟩))
   obtain ⟨W2, hW2, T4', T5', B2⟩ : ∃ W2, W1.setCell ⟨w.heap.size + 1, 0, none⟩ (.int .i64 2) = W2 ∧ TB W2 w.heap.size ⟨0, 0, [], 0⟩ ∧ TB W2 (w.heap.size + 1) ⟨2, i, [], 0⟩ ∧ Below w.heap.size w W2 :=
    ⟨_, rfl, T4.other _ _ (by simp), T5.kind' (k' := 2), B1.setCell (p := ⟨w.heap.size + 1, 0, none⟩) (Nat.le_succ _) _⟩
   rw [hW2]
   clear hW2 T4 T5 B1 f5 c0 c1 c2 c3 g4 q0 q1 q2 q3 L D HW
   have T4 := T4'
   have T5 := T5'
   clear T4' T5'
   go_loop [6] (fun e => ∃ j : Nat, i + 1 ≤ j ∧ j ≤ s.size ∧ e = .int .i64 j ∧ Hid (runLen 2 (s.data.toList.drop (i + 1)) = (j - (i + 1)) + runLen 2 (s.data.toList.drop j))) (fun e => s.size - (intOf e).toNat)
   case atStart => exact ⟨i + 1, Nat.le_refl _, by omega, by go_num, Lib.hid (by omega)⟩
   case round =>
    obtain ⟨j, hj1, hj2, rfl, hr⟩ := hrel
    by_cases hlt : j < s.size
    ·obtain ⟨d, hd⟩ : ∃ d, s[j] = d := ⟨_, rfl⟩
     have hr2 := hr.out
     rw [drop_get s j hlt, hd, runLen] at hr2
     have hdk : decide ((j : Int) < (s.size : Int)) = true := decide_eq_true (by omega)
     have hd256 := d.toNat_lt
     have D := Lib.hid (fun w => rdigit_any d w)
     clear hr
     cases hd2 : dgt d
     ·have hg : goes 2 d = false := by rw [goes_2, hd2]
      rw [hg, if_neg (by simp)] at hr2
      have HD := Lib.hid hr2
      rw [hd2] at D
      clear hr2 hg hd2
      go_wp2_with (go_at_call 140; (with_reducible refine (D.out _).mono ?_); rintro e w' ⟨rfl, rfl⟩)
      have hx : s.extract i j = bs x.t := by rw [extract_tok s i j hi hj1, C.out, HX.out.2.2.1]; congr 3; have := HD.out; omega
      have hsl := fun w => slice_run s i j (by omega) hj2 w
      rw [hx] at hsl
      have HSL := Lib.hid hsl
      clear HD hdk hsl
      go_loopw [10] (fun a wr => ∃ m : Nat, i ≤ m ∧ m ≤ j ∧ a = .int .i64 m ∧ TB wr w.heap.size ⟨0, 0, [], 0⟩ ∧ TB wr (w.heap.size + 1) ⟨2, i, [], numOf (x.t.take (m - i))⟩ ∧ Below w.heap.size w wr) (fun a _ => j - (intOf a).toNat)
      case atStart => exact ⟨i, Nat.le_refl _, by omega, rfl, T4, by rw [Nat.sub_self]; exact T5, B2⟩
      case round =>
       clear T4 T5 B2
       obtain ⟨m, hm1, hm2, rfl, T4, T5, B2⟩ := hrel
       by_cases hmj : m < j
       ·obtain ⟨g1, g2, g3⟩ := extract_get s i j m hm1 hmj hj2 x.t hx
        have hdg := HG.out x.t[m - i] (List.getElem_mem g2)
        have hsn := take_snoc x.t (m - i) g2
        rw [g3] at hdg hsn
        generalize hu : s[m] = u at *
        have hub : 48 ≤ u.toNat ∧ u.toNat ≤ 57 := by simpa [dgt] using hdg
        obtain ⟨hu1, hu2⟩ := hub
        have hN := numOf_snoc (x.t.take (m - i)) u
        rw [← hsn, show m - i + 1 = m + 1 - i by omega] at hN
        have hNle := numOf_le (x.t.take (m - i))
        have H1 := Lib.hid hN
        clear hN hsn hdg g3 g2 hx
        generalize numOf (x.t.take (m - i)) = y at *
        have c3 := T5.c3
        have f5 := T5.frozen
        have hmd : decide ((m : Int) < (j : Int)) = true := decide_eq_true (by omega)
        go_wp2
        go_region
        all_goals go_wp2
        have he : min ((y : Int) * 10 + ((u.toNat : Int) - 48)) 1099511627776 = ((numOf (x.t.take (m + 1 - i)) : Nat) : Int) := by rw [H1.out]; omega
        rw [he]
        exact ⟨⟨m + 1, by omega, by omega, by go_num, ⟨(T4.other ⟨w.heap.size + 1, 3, none⟩ _ (by simp)).is⟩, ⟨(T5.num (n' := numOf (x.t.take (m + 1 - i)))).is⟩, (B2.setCell (p := ⟨w.heap.size + 1, 3, none⟩) (Nat.le_succ _) _).drew⟩, by simp [intOf]; omega⟩
       ·obtain rfl : m = j := by omega
        have hmd : decide ((m : Int) < (m : Int)) = false := decide_eq_false (by omega)
        have hfull : x.t.take (m - i) = x.t := by
         refine List.take_of_length_le ?_
         have e := congrArg ByteArray.size hx
         rw [bs_size] at e
         rw [← e]; simp; omega
        rw [hfull] at T5
        have hsl := HSL.out
        have c0 := T5.c0
        have c1 := T5.c1
        have c2 := T5.c2
        have c3 := T5.c3
        have f5 := T5.frozen
        have g4 := T4.frozen
        have q0 := T4.c0
        have q1 := T4.c1
        have q2 := T4.c2
        have q3 := T4.c3
        clear hfull hx
        go_wp2
        have R := (T4.other ⟨w.heap.size + 1, 2, none⟩ (.string (bs x.t)) (by simp)).whole (y := ⟨2, i, x.t, numOf x.t⟩)
        exact bodyPost_ret (v := tkV ⟨2, i, x.t, numOf x.t⟩) (results_tok rfl _ _ _ _ rfl R) rfl ⟨congrArg Ending.returned (tk_eq HX.out.1 HX.out.2.1 HX.out.2.2.2), below_whole (B2.setCell (p := ⟨w.heap.size + 1, 2, none⟩) (Nat.le_succ _) _) (Nat.le_refl _) _ _ _ _⟩
     ·have hg : goes 2 d = true := by rw [goes_2, hd2]
      rw [hg, if_pos rfl] at hr2
      have HD := Lib.hid hr2
      rw [hd2] at D
      clear hr2 hg hd2
      go_wp2_with (go_at_call 140; (with_reducible refine (D.out _).mono ?_); rintro e w' ⟨rfl, rfl⟩)
      go_round
      case rel => exact ⟨j + 1, by omega, by omega, by go_num, Lib.hid (by have := HD.out; omega)⟩
      case measure => simp [intOf]; omega
    ·have HD : Hid (runLen 2 (s.data.toList.drop (i + 1)) = j - (i + 1) + 0) := by
      have hr2 := hr.out
      rw [show s.data.toList.drop j = [] from List.drop_of_length_le (by rw [← Lib.size_eq]; omega)] at hr2
      exact Lib.hid hr2
     have hdk : decide ((j : Int) < (s.size : Int)) = false := decide_eq_false (by omega)
     clear hr
     go_wp2
     have hx : s.extract i j = bs x.t := by rw [extract_tok s i j hi hj1, C.out, HX.out.2.2.1]; congr 3; have := HD.out; omega
     have hsl := fun w => slice_run s i j (by omega) hj2 w
     rw [hx] at hsl
     have HSL := Lib.hid hsl
     clear HD hdk hsl
     go_loopw [10] (fun a wr => ∃ m : Nat, i ≤ m ∧ m ≤ j ∧ a = .int .i64 m ∧ TB wr w.heap.size ⟨0, 0, [], 0⟩ ∧ TB wr (w.heap.size + 1) ⟨2, i, [], numOf (x.t.take (m - i))⟩ ∧ Below w.heap.size w wr) (fun a _ => j - (intOf a).toNat)
     case atStart => exact ⟨i, Nat.le_refl _, by omega, rfl, T4, by rw [Nat.sub_self]; exact T5, B2⟩
     case round =>
      clear T4 T5 B2
      obtain ⟨m, hm1, hm2, rfl, T4, T5, B2⟩ := hrel
      by_cases hmj : m < j
      ·obtain ⟨g1, g2, g3⟩ := extract_get s i j m hm1 hmj hj2 x.t hx
       have hdg := HG.out x.t[m - i] (List.getElem_mem g2)
       have hsn := take_snoc x.t (m - i) g2
       rw [g3] at hdg hsn
       generalize hu : s[m] = u at *
       have hub : 48 ≤ u.toNat ∧ u.toNat ≤ 57 := by simpa [dgt] using hdg
       obtain ⟨hu1, hu2⟩ := hub
       have hN := numOf_snoc (x.t.take (m - i)) u
       rw [← hsn, show m - i + 1 = m + 1 - i by omega] at hN
       have hNle := numOf_le (x.t.take (m - i))
       have H1 := Lib.hid hN
       clear hN hsn hdg g3 g2 hx
       generalize numOf (x.t.take (m - i)) = y at *
       have c3 := T5.c3
       have f5 := T5.frozen
       have hmd : decide ((m : Int) < (j : Int)) = true := decide_eq_true (by omega)
       go_wp2
       go_region
       all_goals go_wp2
       have he : min ((y : Int) * 10 + ((u.toNat : Int) - 48)) 1099511627776 = ((numOf (x.t.take (m + 1 - i)) : Nat) : Int) := by rw [H1.out]; omega
       rw [he]
       exact ⟨⟨m + 1, by omega, by omega, by go_num, ⟨(T4.other ⟨w.heap.size + 1, 3, none⟩ _ (by simp)).is⟩, ⟨(T5.num (n' := numOf (x.t.take (m + 1 - i)))).is⟩, (B2.setCell (p := ⟨w.heap.size + 1, 3, none⟩) (Nat.le_succ _) _).drew⟩, by simp [intOf]; omega⟩
      ·obtain rfl : m = j := by omega
       have hmd : decide ((m : Int) < (m : Int)) = false := decide_eq_false (by omega)
       have hfull : x.t.take (m - i) = x.t := by
        refine List.take_of_length_le ?_
        have e := congrArg ByteArray.size hx
        rw [bs_size] at e
        rw [← e]; simp; omega
       rw [hfull] at T5
       have hsl := HSL.out
       have c0 := T5.c0
       have c1 := T5.c1
       have c2 := T5.c2
       have c3 := T5.c3
       have f5 := T5.frozen
       have g4 := T4.frozen
       have q0 := T4.c0
       have q1 := T4.c1
       have q2 := T4.c2
       have q3 := T4.c3
       clear hfull hx
       go_wp2
       have R := (T4.other ⟨w.heap.size + 1, 2, none⟩ (.string (bs x.t)) (by simp)).whole (y := ⟨2, i, x.t, numOf x.t⟩)
       exact bodyPost_ret (v := tkV ⟨2, i, x.t, numOf x.t⟩) (results_tok rfl _ _ _ _ rfl R) rfl ⟨congrArg Ending.returned (tk_eq HX.out.1 HX.out.2.1 HX.out.2.2.2), below_whole (B2.setCell (p := ⟨w.heap.size + 1, 2, none⟩) (Nat.le_succ _) _) (Nat.le_refl _) _ _ _ _⟩
 ·have hkc := kind_ltr hl
  have hk : oneT i c (s.data.toList.drop (i + 1)) = tkOf i c (s.data.toList.drop (i + 1)) := by rw [oneT, hkc, if_neg (by omega)]
  rw [hk]
  generalize hx : tkOf i c (s.data.toList.drop (i + 1)) = x
  have hxl : x.k = 1 ∧ x.at' = i ∧ x.t = c :: (s.data.toList.drop (i + 1)).take (runLen 1 (s.data.toList.drop (i + 1))) ∧ x.n = 0 := by
   subst hx
   refine ⟨hkc, rfl, by simp only [tkOf, hkc], by simp [tkOf, hkc]⟩
  have HX := Lib.hid hxl
  rw [hl] at L
  clear hk hx hxl hkc hl
  generalize dgt c = dc at *
  go_enter Tryz.func120, Tryz.ntmps120
  go_upto_region 2 with (fail)
  rw [HW.out]
  go_wp2_with (first
   | (go_at_call 139; (with_reducible refine (L.out _).mono ?_); rintro e w' ⟨rfl, rfl⟩)
   | (go_at_call 140; (with_reducible refine (D.out _).mono ?_); rintro e w' ⟨rfl, rfl⟩))
  obtain ⟨W2, hW2, T4', T5', B2⟩ : ∃ W2, W1.setCell ⟨w.heap.size + 1, 0, none⟩ (.int .i64 1) = W2 ∧ TB W2 w.heap.size ⟨0, 0, [], 0⟩ ∧ TB W2 (w.heap.size + 1) ⟨1, i, [], 0⟩ ∧ Below w.heap.size w W2 :=
   ⟨_, rfl, T4.other _ _ (by simp), T5.kind' (k' := 1), B1.setCell (p := ⟨w.heap.size + 1, 0, none⟩) (Nat.le_succ _) _⟩
  rw [hW2]
  clear hW2 T4 T5 B1 f5 c0 c1 c2 c3 g4 q0 q1 q2 q3 L D HW
  have T4 := T4'
  have T5 := T5'
  clear T4' T5'
  go_loop [6] (fun e => ∃ j : Nat, i + 1 ≤ j ∧ j ≤ s.size ∧ e = .int .i64 j ∧ Hid (runLen 1 (s.data.toList.drop (i + 1)) = (j - (i + 1)) + runLen 1 (s.data.toList.drop j))) (fun e => s.size - (intOf e).toNat)
  case atStart => exact ⟨i + 1, Nat.le_refl _, by omega, by go_num, Lib.hid (by omega)⟩
  case round =>
   obtain ⟨j, hj1, hj2, rfl, hr⟩ := hrel
   by_cases hlt : j < s.size
   ·obtain ⟨d, hd⟩ : ∃ d, s[j] = d := ⟨_, rfl⟩
    have hr2 := hr.out
    rw [drop_get s j hlt, hd, runLen] at hr2
    have hdk : decide ((j : Int) < (s.size : Int)) = true := decide_eq_true (by omega)
    have hd256 := d.toNat_lt
    have L := Lib.hid (fun w => rletter_any d w)
    have D := Lib.hid (fun w => rdigit_any d w)
    clear hr
    cases hl : ltr d
    ·cases hd2 : dgt d
     ·by_cases h46 : d.toNat = 46
      ·have hg : goes 1 d = true := by simp [goes, hl, hd2, h46]
       rw [hg, if_pos rfl] at hr2
       have HD := Lib.hid hr2
       rw [hl] at L
       rw [hd2] at D
       have t46 : ((d.toNat : Int) == 46) = true := by simp; omega
       have T46 := Lib.hid h46
       clear hr2 hg hl hd2 h46
       go_wp2_with (first
        | (go_at_call 139; (with_reducible refine (L.out _).mono ?_); rintro e w' ⟨rfl, rfl⟩)
        | (go_at_call 140; (with_reducible refine (D.out _).mono ?_); rintro e w' ⟨rfl, rfl⟩))
       go_round
       case rel => exact ⟨j + 1, by omega, by omega, by go_num, Lib.hid (by have := HD.out; omega)⟩
       case measure => simp [intOf]; omega
      ·by_cases h45 : d.toNat = 45
       ·have hg : goes 1 d = true := by simp [goes, hl, hd2, h45]
        rw [hg, if_pos rfl] at hr2
        have HD := Lib.hid hr2
        rw [hl] at L
        rw [hd2] at D
        have t46 : ((d.toNat : Int) == 46) = false := by simp; omega
        have t45 : ((d.toNat : Int) == 45) = true := by simp; omega
        have T45 := Lib.hid h45
        clear hr2 hg hl hd2 h46 h45
        go_wp2_with (first
         | (go_at_call 139; (with_reducible refine (L.out _).mono ?_); rintro e w' ⟨rfl, rfl⟩)
         | (go_at_call 140; (with_reducible refine (D.out _).mono ?_); rintro e w' ⟨rfl, rfl⟩))
        go_round
        case rel => exact ⟨j + 1, by omega, by omega, by go_num, Lib.hid (by have := HD.out; omega)⟩
        case measure => simp [intOf]; omega
       ·have hg : goes 1 d = false := by simp [goes, hl, hd2, h45, h46]
        rw [hg, if_neg (by simp)] at hr2
        have HD := Lib.hid hr2
        rw [hl] at L
        rw [hd2] at D
        have t46 : ((d.toNat : Int) == 46) = false := by simp; omega
        have t45 : ((d.toNat : Int) == 45) = false := by simp; omega
        clear hr2 hg hl hd2 h46 h45
        have hx : s.extract i j = bs x.t := by rw [extract_tok s i j hi hj1, C.out, HX.out.2.2.1]; congr 3; have := HD.out; omega
        have hsl := fun w => slice_run s i j (by omega) hj2 w
        rw [hx] at hsl
        have c1 := T5.c1
        have c2 := T5.c2
        have c3 := T5.c3
        have f5 := T5.frozen
        have g4 := T4.frozen
        have q0 := T4.c0
        have q1 := T4.c1
        have q2 := T4.c2
        have q3 := T4.c3
        have c0 := T5.c0
        clear HD
        go_wp2_with (first
         | (go_at_call 139; (with_reducible refine (L.out _).mono ?_); rintro e w' ⟨rfl, rfl⟩)
         | (go_at_call 140; (with_reducible refine (D.out _).mono ?_); rintro e w' ⟨rfl, rfl⟩))
        have R := (T4.other ⟨w.heap.size + 1, 2, none⟩ (.string (bs x.t)) (by simp)).whole (y := ⟨1, i, x.t, 0⟩)
        exact bodyPost_ret (v := tkV ⟨1, i, x.t, 0⟩) (results_tok rfl _ _ _ _ rfl R) rfl ⟨congrArg Ending.returned (tk_eq HX.out.1 HX.out.2.1 HX.out.2.2.2), below_whole (B2.setCell (p := ⟨w.heap.size + 1, 2, none⟩) (Nat.le_succ _) _) (Nat.le_refl _) _ _ _ _⟩
     ·have hg : goes 1 d = true := by simp [goes, hl, hd2]
      rw [hg, if_pos rfl] at hr2
      have HD := Lib.hid hr2
      rw [hl] at L
      rw [hd2] at D
      clear hr2 hg hl hd2
      go_wp2_with (first
       | (go_at_call 139; (with_reducible refine (L.out _).mono ?_); rintro e w' ⟨rfl, rfl⟩)
       | (go_at_call 140; (with_reducible refine (D.out _).mono ?_); rintro e w' ⟨rfl, rfl⟩))
      go_round
      case rel => exact ⟨j + 1, by omega, by omega, by go_num, Lib.hid (by have := HD.out; omega)⟩
      case measure => simp [intOf]; omega
    ·have hg : goes 1 d = true := by simp [goes, hl]
     rw [hg, if_pos rfl] at hr2
     have HD := Lib.hid hr2
     rw [hl] at L
     clear hr2 hg hl
     go_wp2_with (first
      | (go_at_call 139; (with_reducible refine (L.out _).mono ?_); rintro e w' ⟨rfl, rfl⟩)
      | (go_at_call 140; (with_reducible refine (D.out _).mono ?_); rintro e w' ⟨rfl, rfl⟩))
     go_round
     case rel => exact ⟨j + 1, by omega, by omega, by go_num, Lib.hid (by have := HD.out; omega)⟩
     case measure => simp [intOf]; omega
   ·have HD : Hid (runLen 1 (s.data.toList.drop (i + 1)) = j - (i + 1) + 0) := by
     have hr2 := hr.out
     rw [show s.data.toList.drop j = [] from List.drop_of_length_le (by rw [← Lib.size_eq]; omega)] at hr2
     exact Lib.hid hr2
    have hdk : decide ((j : Int) < (s.size : Int)) = false := decide_eq_false (by omega)
    clear hr
    have hx : s.extract i j = bs x.t := by rw [extract_tok s i j hi hj1, C.out, HX.out.2.2.1]; congr 3; have := HD.out; omega
    have hsl := fun w => slice_run s i j (by omega) hj2 w
    rw [hx] at hsl
    have c1 := T5.c1
    have c2 := T5.c2
    have c3 := T5.c3
    have f5 := T5.frozen
    have g4 := T4.frozen
    have q0 := T4.c0
    have q1 := T4.c1
    have q2 := T4.c2
    have q3 := T4.c3
    have c0 := T5.c0
    clear HD
    go_wp2
    have R := (T4.other ⟨w.heap.size + 1, 2, none⟩ (.string (bs x.t)) (by simp)).whole (y := ⟨1, i, x.t, 0⟩)
    exact bodyPost_ret (v := tkV ⟨1, i, x.t, 0⟩) (results_tok rfl _ _ _ _ rfl R) rfl ⟨congrArg Ending.returned (tk_eq HX.out.1 HX.out.2.1 HX.out.2.2.2), below_whole (B2.setCell (p := ⟨w.heap.size + 1, 2, none⟩) (Nat.le_succ _) _) (Nat.le_refl _) _ _ _ _⟩
end
section
open Go.RowKit
theorem wordB_nil {s : ByteArray} (h : s.data.toList = []) : wordB s = false := by simp [wordB, tokL, pieceL, h, pcs_nil, toksOf]
theorem oneT_text {c : UInt8} {r : List UInt8} (h : (oneT 0 c r).k ≠ 0) : (oneT 0 c r).t <+: c :: r := by
 unfold oneT at *
 by_cases hk : kind c = 0
 ·rw [if_pos hk] at h; exact absurd rfl h
 ·rw [if_neg hk]; exact (List.cons_prefix_cons).2 ⟨rfl, List.take_prefix _ _⟩
theorem text_eq {x : List UInt8} {s : ByteArray} (h : x <+: s.data.toList) : ((bs x).toList == s.toList) = decide (x.length = s.size) := by
 rw [Lib.toList_data, Lib.toList_data, bs_toList, Bool.eq_iff_iff]
 simp only [beq_iff_eq, decide_eq_true_eq]
 constructor
 ·intro e; rw [e, Lib.size_eq]
 ·intro e; exact h.eq_of_length (by rw [e, Lib.size_eq])
theorem rword_any (s : ByteArray) (w : World) (hs : s.size ≤ 9223372036854775807) : Calls Tryz.prog 101 #[.string s] w fun e w' => e = .returned (.bool (wordB s)) ∧ Below w.heap.size w w' := by
 by_cases h0 : s.size = 0
 ·have he : s.data.toList = [] := List.eq_nil_of_length_eq_zero (by rw [← Lib.size_eq]; exact h0)
  have hs0 : s = ByteArray.empty := by
   apply ByteArray.ext
   apply Array.toList_inj.1
   exact he
  rw [wordB_nil he]
  subst hs0
  clear he
  go_enter Tryz.func101, Tryz.ntmps101
  go_wp2
  go_ret
  exact ⟨rfl, Below.refl _ _⟩
 ·obtain ⟨c, hc⟩ : ∃ c, s[0]'(by omega) = c := ⟨_, rfl⟩
  have hd := drop_get s 0 (by omega)
  rw [List.drop_zero, hc, Nat.zero_add] at hd
  have o : ∀ w, Calls Tryz.prog 120 #[.string s, .int .i64 0] w fun e w' => e = .returned (tkV (oneT 0 c (s.data.toList.drop 1))) ∧ Below w.heap.size w w' := fun w => by
   have := one_any s 0 w (by omega) hs
   rw [hc, Nat.zero_add] at this
   exact this
  have hne : s.toList ≠ [] := by rw [Lib.toList_data, hd]; simp
  have hne2 : (s.toList == []) = false := by simpa using hne
  rw [wordB_cons hd]
  have htx := fun h => oneT_text (c := c) (r := s.data.toList.drop 1) h
  rw [← hd] at htx
  generalize oneT 0 c (s.data.toList.drop 1) = x at *
  have O := Lib.hid o
  have HT := Lib.hid htx
  clear o htx hd hc
  by_cases hk : x.k = 1
  ·have t0 : ((x.k : Int) == 1) = true := by simp; omega
   have HK := Lib.hid hk
   clear hk
   go_enter Tryz.func101, Tryz.ntmps101
   go_upto_region 4 with (go_at_call 120; (with_reducible refine (O.out _).mono ?_); rintro e' w2 ⟨rfl, h2⟩)
   obtain ⟨W3, hW3, T3, B3⟩ : ∃ W3, w2.alloc (.cells #[.int .i64 (x.k : Int), .int .i64 (x.at' : Int), .string (bs x.t), .int .i64 (x.n : Int)] 173) = W3 ∧ TB W3 w2.heap.size x ∧ Below w.heap.size w W3 := ⟨_, rfl, TB.new w2 x, h2.trans ((Below.refl _ _).alloc h2.size _)⟩
   rw [hW3]
   clear hW3 h2
   have c0 := T3.c0
   have c2 := T3.c2
   go_wp2
   go_ret
   exact ⟨by rw [text_eq (HT.out (by rw [HK.out]; decide)), HK.out]; simp, B3⟩
  ·have t0 : ((x.k : Int) == 1) = false := by simp; omega
   have HK := Lib.hid hk
   clear hk
   go_enter Tryz.func101, Tryz.ntmps101
   go_upto_region 4 with (go_at_call 120; (with_reducible refine (O.out _).mono ?_); rintro e' w2 ⟨rfl, h2⟩)
   obtain ⟨W3, hW3, T3, B3⟩ : ∃ W3, w2.alloc (.cells #[.int .i64 (x.k : Int), .int .i64 (x.at' : Int), .string (bs x.t), .int .i64 (x.n : Int)] 173) = W3 ∧ TB W3 w2.heap.size x ∧ Below w.heap.size w W3 := ⟨_, rfl, TB.new w2 x, h2.trans ((Below.refl _ _).alloc h2.size _)⟩
   rw [hW3]
   clear hW3 h2
   have c0 := T3.c0
   go_wp2
   go_ret
   exact ⟨by simp [HK.out], B3⟩
end
section
open Go.RowKit
theorem in_any (n lo hi : Int) (w : World) : Calls Tryz.prog 102 #[.int .i64 n, .int .i64 lo, .int .i64 hi] w fun e w' => e = .returned (.bool (inB n lo hi)) ∧ w = w' := by
 unfold inB
 go_enter Tryz.func102, Tryz.ntmps102
 by_cases h1 : lo ≤ n <;> by_cases h2 : n ≤ hi <;> (go_wp2; go_ret; simp [*])
theorem ret_i {a b : Int} (h : a = b) : Ending.returned (.int .i64 a) = .returned (.int .i64 b) := by rw [h]
theorem checkE_no {x : Ts} (h : (namedB x && rangedB x) = false) : checkE x = 11 := by rw [checkE, h]; rfl
theorem checkE_yes {x : Ts} (h : (namedB x && rangedB x) = true) : checkE x = if overB x then 12 else 0 := by rw [checkE, h]; rfl
theorem rcheck_any (x : Ts) (w : World) (hx : TsW x) : Calls Tryz.prog 80 #[tsV x] w fun e w' => e = .returned (.int .i64 (checkE x)) ∧ Below w.heap.size w w' := by
 have b0 : Below w.heap.size w (w.alloc (.cells #[.string x.n, .int .i64 x.c, .int .i64 x.t, .int .i64 x.d, .int .i64 x.j, .int .i64 x.q, .int .i64 x.p] 26)) := (Below.refl _ _).alloc (Nat.le_refl _) _
 have W := Lib.hid (fun w => rword_any x.n w hx.n)
 have I := Lib.hid in_any
 have hn : namedB x = (decide (x.n.size ≤ 32) && wordB x.n) := rfl
 have hr : rangedB x = (inB x.c 1 2147483647 && (inB x.t 1 2147483647 && (inB x.d 1 2147483647 && (inB x.q 1 2147483647 && (inB x.j 0 2147483647 && inB x.p 1 1048576))))) := rfl
 have hno := @checkE_no x
 have hyes := @checkE_yes x
 have hpa := @rangedB_parts x
 rw [hn, hr] at hno hyes
 rw [hr] at hpa
 clear hn hr
 generalize checkE x = r at *
 cases hw : wordB x.n
 ·have HE : Hid (Ending.returned (.int .i64 11) = .returned (.int .i64 r)) := Lib.hid (ret_i (hno (by rw [hw]; simp)).symm)
  rw [hw] at W
  clear hw hno hyes hpa
  go_enter Tryz.func80, Tryz.ntmps80
  go_wp2_with (first
   | (go_at_call 101; (with_reducible refine (W.out _).mono ?_); rintro e w2 ⟨rfl, h2⟩; obtain ⟨hc2, hf2⟩ := bcell h2)
   | (go_at_call 102; (with_reducible refine (I.out _ _ _ _).mono ?_); rintro e w3 ⟨rfl, rfl⟩))
  go_ret
  exact ⟨HE.out, b0.trans (h2.mono b0.size)⟩
 ·rw [hw] at W hno hyes
  clear hw
  by_cases hl : x.n.size ≤ 32
  ·have hl' : decide ((x.n.size : Int) > 32) = false := decide_eq_false (by omega)
   have hl'' : decide (32 < x.n.size) = false := decide_eq_false (by omega)
   rw [decide_eq_true hl] at hno hyes
   cases ec : inB x.c 1 2147483647
   ·have HE : Hid (Ending.returned (.int .i64 11) = .returned (.int .i64 r)) := Lib.hid (ret_i (hno (by rw [ec]; simp)).symm)
    clear hno hyes hpa
    go_enter Tryz.func80, Tryz.ntmps80
    go_wp2_with (first
     | (go_at_call 101; (with_reducible refine (W.out _).mono ?_); rintro e w2 ⟨rfl, h2⟩; obtain ⟨hc2, hf2⟩ := bcell h2)
     | (go_at_call 102; (with_reducible refine (I.out _ _ _ _).mono ?_); rintro e w3 ⟨rfl, rfl⟩))
    go_ret
    exact ⟨HE.out, b0.trans (h2.mono b0.size)⟩
   ·rw [ec] at hno hyes hpa
    cases et : inB x.t 1 2147483647
    ·have HE : Hid (Ending.returned (.int .i64 11) = .returned (.int .i64 r)) := Lib.hid (ret_i (hno (by rw [et]; simp)).symm)
     clear hno hyes hpa
     go_enter Tryz.func80, Tryz.ntmps80
     go_wp2_with (first
      | (go_at_call 101; (with_reducible refine (W.out _).mono ?_); rintro e w2 ⟨rfl, h2⟩; obtain ⟨hc2, hf2⟩ := bcell h2)
      | (go_at_call 102; (with_reducible refine (I.out _ _ _ _).mono ?_); rintro e w3 ⟨rfl, rfl⟩))
     go_ret
     exact ⟨HE.out, b0.trans (h2.mono b0.size)⟩
    ·rw [et] at hno hyes hpa
     cases ed : inB x.d 1 2147483647
     ·have HE : Hid (Ending.returned (.int .i64 11) = .returned (.int .i64 r)) := Lib.hid (ret_i (hno (by rw [ed]; simp)).symm)
      clear hno hyes hpa
      go_enter Tryz.func80, Tryz.ntmps80
      go_wp2_with (first
       | (go_at_call 101; (with_reducible refine (W.out _).mono ?_); rintro e w2 ⟨rfl, h2⟩; obtain ⟨hc2, hf2⟩ := bcell h2)
       | (go_at_call 102; (with_reducible refine (I.out _ _ _ _).mono ?_); rintro e w3 ⟨rfl, rfl⟩))
      go_ret
      exact ⟨HE.out, b0.trans (h2.mono b0.size)⟩
     ·rw [ed] at hno hyes hpa
      cases eq : inB x.q 1 2147483647
      ·have HE : Hid (Ending.returned (.int .i64 11) = .returned (.int .i64 r)) := Lib.hid (ret_i (hno (by rw [eq]; simp)).symm)
       clear hno hyes hpa
       go_enter Tryz.func80, Tryz.ntmps80
       go_wp2_with (first
        | (go_at_call 101; (with_reducible refine (W.out _).mono ?_); rintro e w2 ⟨rfl, h2⟩; obtain ⟨hc2, hf2⟩ := bcell h2)
        | (go_at_call 102; (with_reducible refine (I.out _ _ _ _).mono ?_); rintro e w3 ⟨rfl, rfl⟩))
       go_ret
       exact ⟨HE.out, b0.trans (h2.mono b0.size)⟩
      ·rw [eq] at hno hyes hpa
       cases ej : inB x.j 0 2147483647
       ·have HE : Hid (Ending.returned (.int .i64 11) = .returned (.int .i64 r)) := Lib.hid (ret_i (hno (by rw [ej]; simp)).symm)
        clear hno hyes hpa
        go_enter Tryz.func80, Tryz.ntmps80
        go_wp2_with (first
         | (go_at_call 101; (with_reducible refine (W.out _).mono ?_); rintro e w2 ⟨rfl, h2⟩; obtain ⟨hc2, hf2⟩ := bcell h2)
         | (go_at_call 102; (with_reducible refine (I.out _ _ _ _).mono ?_); rintro e w3 ⟨rfl, rfl⟩))
        go_ret
        exact ⟨HE.out, b0.trans (h2.mono b0.size)⟩
       ·rw [ej] at hno hyes hpa
        by_cases p1 : 1 ≤ x.p
        ·by_cases p2 : x.p ≤ 1048576
         ·have ep := inB_yes ⟨p1, p2⟩
          rw [ep] at hno hyes hpa
          obtain ⟨⟨c1, c2⟩, ⟨t1, t2⟩, ⟨d1, d2⟩, ⟨q1, q2⟩, ⟨j1, j2⟩, -⟩ := hpa rfl
          have hy := hyes rfl
          clear hno hyes hpa ep
          have p1' : decide (x.p < 1) = false := decide_eq_false (by omega)
          have p2' : decide (x.p > 1048576) = false := decide_eq_false (by omega)
          have p2'' : decide (1048576 < x.p) = false := decide_eq_false (by omega)
          by_cases g1 : x.q > x.c
          ·have HE : Hid (Ending.returned (.int .i64 12) = .returned (.int .i64 r)) := Lib.hid (ret_i (by rw [hy, if_pos (by simp [overB, g1])]))
           clear hy
           go_enter Tryz.func80, Tryz.ntmps80
           go_wp2_with (first
            | (go_at_call 101; (with_reducible refine (W.out _).mono ?_); rintro e w2 ⟨rfl, h2⟩; obtain ⟨hc2, hf2⟩ := bcell h2)
            | (go_at_call 102; (with_reducible refine (I.out _ _ _ _).mono ?_); rintro e w3 ⟨rfl, rfl⟩))
           go_ret
           exact ⟨HE.out, b0.trans (h2.mono b0.size)⟩
          ·have g1' : decide (x.q > x.c) = false := decide_eq_false g1
           have g1'' : decide (x.c < x.q) = false := decide_eq_false g1
           by_cases g2 : x.c + x.j > x.d
           ·have HE : Hid (Ending.returned (.int .i64 12) = .returned (.int .i64 r)) := Lib.hid (ret_i (by rw [hy, if_pos (by simp [overB, g2])]))
            clear hy
            go_enter Tryz.func80, Tryz.ntmps80
            go_wp2_with (first
             | (go_at_call 101; (with_reducible refine (W.out _).mono ?_); rintro e w2 ⟨rfl, h2⟩; obtain ⟨hc2, hf2⟩ := bcell h2)
             | (go_at_call 102; (with_reducible refine (I.out _ _ _ _).mono ?_); rintro e w3 ⟨rfl, rfl⟩))
            go_ret
            exact ⟨HE.out, b0.trans (h2.mono b0.size)⟩
           ·have g2' : decide (x.c + x.j > x.d) = false := decide_eq_false g2
            have g2'' : decide (x.d < x.c + x.j) = false := decide_eq_false g2
            by_cases g3 : x.d > x.t
            ·have HE : Hid (Ending.returned (.int .i64 12) = .returned (.int .i64 r)) := Lib.hid (ret_i (by rw [hy, if_pos (by simp [overB, g3])]))
             clear hy
             go_enter Tryz.func80, Tryz.ntmps80
             go_wp2_with (first
              | (go_at_call 101; (with_reducible refine (W.out _).mono ?_); rintro e w2 ⟨rfl, h2⟩; obtain ⟨hc2, hf2⟩ := bcell h2)
              | (go_at_call 102; (with_reducible refine (I.out _ _ _ _).mono ?_); rintro e w3 ⟨rfl, rfl⟩))
             go_ret
             exact ⟨HE.out, b0.trans (h2.mono b0.size)⟩
            ·have g3' : decide (x.d > x.t) = false := decide_eq_false g3
             have g3'' : decide (x.t < x.d) = false := decide_eq_false g3
             have HE : Hid (Ending.returned (.int .i64 0) = .returned (.int .i64 r)) := Lib.hid (ret_i (by rw [hy, if_neg (by simp [overB]; omega)]))
             clear hy
             go_enter Tryz.func80, Tryz.ntmps80
             go_wp2_with (first
              | (go_at_call 101; (with_reducible refine (W.out _).mono ?_); rintro e w2 ⟨rfl, h2⟩; obtain ⟨hc2, hf2⟩ := bcell h2)
              | (go_at_call 102; (with_reducible refine (I.out _ _ _ _).mono ?_); rintro e w3 ⟨rfl, rfl⟩))
             go_ret
             exact ⟨HE.out, b0.trans (h2.mono b0.size)⟩
         ·have HE : Hid (Ending.returned (.int .i64 11) = .returned (.int .i64 r)) := Lib.hid (ret_i (hno (by rw [inB_no (n := x.p) (by omega)]; simp)).symm)
          clear hno hyes hpa
          have p1' : decide (x.p < 1) = false := decide_eq_false (by omega)
          go_enter Tryz.func80, Tryz.ntmps80
          go_wp2_with (first
           | (go_at_call 101; (with_reducible refine (W.out _).mono ?_); rintro e w2 ⟨rfl, h2⟩; obtain ⟨hc2, hf2⟩ := bcell h2)
           | (go_at_call 102; (with_reducible refine (I.out _ _ _ _).mono ?_); rintro e w3 ⟨rfl, rfl⟩))
          go_ret
          exact ⟨HE.out, b0.trans (h2.mono b0.size)⟩
        ·have HE : Hid (Ending.returned (.int .i64 11) = .returned (.int .i64 r)) := Lib.hid (ret_i (hno (by rw [inB_no (n := x.p) (by omega)]; simp)).symm)
         clear hno hyes hpa
         have p1' : x.p < 1 := by omega
         go_enter Tryz.func80, Tryz.ntmps80
         go_wp2_with (first
          | (go_at_call 101; (with_reducible refine (W.out _).mono ?_); rintro e w2 ⟨rfl, h2⟩; obtain ⟨hc2, hf2⟩ := bcell h2)
          | (go_at_call 102; (with_reducible refine (I.out _ _ _ _).mono ?_); rintro e w3 ⟨rfl, rfl⟩))
         go_ret
         exact ⟨HE.out, b0.trans (h2.mono b0.size)⟩
  ·have HE : Hid (Ending.returned (.int .i64 11) = .returned (.int .i64 r)) := Lib.hid (ret_i (hno (by rw [decide_eq_false hl]; simp)).symm)
   clear hno hyes hpa
   have hl' : (x.n.size : Int) > 32 := by omega
   go_enter Tryz.func80, Tryz.ntmps80
   go_wp2_with (first
    | (go_at_call 101; (with_reducible refine (W.out _).mono ?_); rintro e w2 ⟨rfl, h2⟩; obtain ⟨hc2, hf2⟩ := bcell h2)
    | (go_at_call 102; (with_reducible refine (I.out _ _ _ _).mono ?_); rintro e w3 ⟨rfl, rfl⟩))
   go_ret
   exact ⟨HE.out, b0.trans (h2.mono b0.size)⟩
end
section
open Go.RowKit
theorem name_eq (a b : ByteArray) : (a.toList == b.toList) = decide (a = b) := by
 rw [Lib.toList_data, Lib.toList_data, Bool.eq_iff_iff]
 simp only [beq_iff_eq, decide_eq_true_eq]
 constructor
 ·intro h
  apply ByteArray.ext
  exact Array.toList_inj.1 h
 ·intro h; rw [h]
end
section
open Go.RowKit
structure GB (w : World) (b : Nat) (a e : Int) : Prop where
 is : w.heap[b]? = some (.cells #[.int .i64 a, .int .i64 e] 103 (0, 0))
theorem GB.lt {W : World} {b : Nat} {a e : Int} (h : GB W b a e) : b < W.heap.size := (Array.getElem?_eq_some_iff.1 h.is).1
theorem GB.c0 {W : World} {b : Nat} {a e : Int} (h : GB W b a e) : W.cell? ⟨b, 0, none⟩ = some (.int .i64 a) := by rw [cell_of_row W b 0 _ _ _ h.is]; rfl
theorem GB.c1 {W : World} {b : Nat} {a e : Int} (h : GB W b a e) : W.cell? ⟨b, 1, none⟩ = some (.int .i64 e) := by rw [cell_of_row W b 1 _ _ _ h.is]; rfl
theorem GB.frozen {W : World} {b : Nat} {a e : Int} (h : GB W b a e) (i : Nat) : W.frozen? ⟨b, i, none⟩ = false := frozen_of_row W b i _ _ h.is
theorem GB.later {W W' : World} {b : Nat} {a e : Int} (h : GB W b a e) (hb : Below W.heap.size W W') : GB W' b a e := ⟨(hb.block b h.lt).trans h.is⟩
theorem GB.set0 {W : World} {b : Nat} {a e : Int} (h : GB W b a e) (a' : Int) : GB (W.setCell ⟨b, 0, none⟩ (.int .i64 a')) b a' e := ⟨heap_setCell_same _ b 0 _ _ (.int .i64 a') h.is⟩
theorem GB.set1 {W : World} {b : Nat} {a e : Int} (h : GB W b a e) (e' : Int) : GB (W.setCell ⟨b, 1, none⟩ (.int .i64 e')) b a e' := ⟨heap_setCell_same _ b 1 _ _ (.int .i64 e') h.is⟩
theorem GB.new (w : World) (a e : Int) : GB (w.alloc (.cells #[.int .i64 a, .int .i64 e] 103)) w.heap.size a e := ⟨heap_alloc_new w _⟩
theorem infoG : (Tryz.prog.info? 103).map (·.size) = some 2 := by kernel_rfl
theorem results_got {fn : Func} {p : Tmp} (h : fn.results = #[.cell p 103]) (tmps : Array Value) (w : World) (b : Nat) (a e : Int) (hp : tmps.getD p undef = .pointer (some ⟨b, 0, none⟩)) (hb : GB w b a e) :
  (results fn tmps).run Tryz.prog w = .ok (.agg #[.int .i64 a, .int .i64 e]) w :=
 results_cell_row h tmps w b _ _ _ _ hp hb.is Tryz.underlying103 rfl infoG
theorem nameIn_none {l : List Ts} {k : Nat} {x : Ts} (h : ∀ (i : Nat) (y : Ts), i < k → l[i]? = some y → y.n ≠ x.n) : nameIn (l.take k) x = false := by
 rw [nameIn, List.any_eq_false]
 intro y hy
 obtain ⟨i, hi, he⟩ := List.getElem_of_mem hy
 have hk : i < k := by rw [List.length_take] at hi; omega
 have hy2 : (l.take k)[i]? = some y := by rw [List.getElem?_eq_getElem hi, he]
 rw [List.getElem?_take_of_lt hk] at hy2
 simpa using h i y hk hy2
theorem prioIn_none {l : List Ts} {k : Nat} {x : Ts} (h : ∀ (i : Nat) (y : Ts), i < k → l[i]? = some y → y.p ≠ x.p) : prioIn (l.take k) x = false := by
 rw [prioIn, List.any_eq_false]
 intro y hy
 obtain ⟨i, hi, he⟩ := List.getElem_of_mem hy
 have hk : i < k := by rw [List.length_take] at hi; omega
 have hy2 : (l.take k)[i]? = some y := by rw [List.getElem?_eq_getElem hi, he]
 rw [List.getElem?_take_of_lt hk] at hy2
 simpa using h i y hk hy2
theorem dup_hit {l : List Ts} {k i : Nat} {x y : Ts} (hi : i < k) (hy : l[i]? = some y) (h : y.n = x.n ∨ y.p = x.p) : (nameIn (l.take k) x || prioIn (l.take k) x) = true := by
 have hm : y ∈ l.take k := List.mem_of_getElem? (i := i) (by rw [List.getElem?_take_of_lt hi]; exact hy)
 rcases h with h | h
 ·have : nameIn (l.take k) x = true := by rw [nameIn, List.any_eq_true]; exact ⟨y, hm, by simpa using h⟩
  rw [this]; rfl
 ·have : prioIn (l.take k) x = true := by rw [prioIn, List.any_eq_true]; exact ⟨y, hm, by simpa using h⟩
  rw [this]; simp
theorem rcheckAll_any (A : Option Addr) (cap : Nat) (l : List Ts) (w : World) (hR : Row w A cap l) :
  Calls Tryz.prog 49 #[.slice A l.length cap] w fun e w' => e = .returned (.agg #[.int .i64 ((chkAll l).1 : Int), .int .i64 (chkAll l).2]) ∧ Below w.heap.size w w' := by
 have hle := hR.le
 have hmx := hR.mx
 obtain ⟨a, e, he⟩ : ∃ a e, chkAll l = (a, e) := ⟨_, _, rfl⟩
 rw [he]
 have HE := Lib.hid he
 have ROW := Lib.hid hR
 obtain ⟨W1, hW1, G1, B1⟩ : ∃ W1, w.alloc (.cells #[.int .i64 0, .int .i64 0] 103) = W1 ∧ GB W1 w.heap.size 0 0 ∧ Below w.heap.size w W1 := ⟨_, rfl, GB.new w 0 0, (Below.refl _ _).alloc (Nat.le_refl _) _⟩
 have HW1 := Lib.hid hW1
 clear hR he hW1
 have d0 := G1.c0
 have d1 := G1.c1
 have e0 := G1.frozen 0
 have e1 := G1.frozen 1
 have hfin : ∀ (a' e' : Int) (wr : World), Lt W1 wr → GB ((wr.setCell ⟨w.heap.size, 0, none⟩ (.int .i64 a')).setCell ⟨w.heap.size, 1, none⟩ (.int .i64 e')) w.heap.size a' e' ∧ Below w.heap.size w ((wr.setCell ⟨w.heap.size, 0, none⟩ (.int .i64 a')).setCell ⟨w.heap.size, 1, none⟩ (.int .i64 e')) := fun a' e' wr hL =>
  ⟨((G1.later hL).set0 a').set1 e', ((B1.trans (Below.mono hL B1.size)).setCell (p := ⟨w.heap.size, 0, none⟩) (Nat.le_refl _) _).setCell (p := ⟨w.heap.size, 1, none⟩) (Nat.le_refl _) _⟩
 have HF := Lib.hid hfin
 clear hfin
 by_cases hbad : l.length = 0 ∨ 1024 < l.length
 ·obtain ⟨rfl, rfl⟩ : 0 = a ∧ (14 : Int) = e := by
   have := HE.out
   rw [chkAll, if_pos hbad] at this
   exact ⟨congrArg Prod.fst this, congrArg Prod.snd this⟩
  clear G1 B1
  by_cases h0 : l.length = 0
  ·have t0 : ((l.length : Int) == 0) = true := by rw [h0]; rfl
   have H0 := Lib.hid h0
   clear h0 hbad
   go_enter Tryz.func49, Tryz.ntmps49
   go_upto_region 1 with (fail)
   rw [HW1.out]
   go_wp2
   obtain ⟨R, hB⟩ := HF.out 0 14 _ (Below.refl _ _)
   exact bodyPost_ret (v := .agg #[.int .i64 0, .int .i64 14]) (results_got rfl _ _ _ _ _ rfl R) rfl ⟨rfl, hB⟩
  ·have t0 : ((l.length : Int) == 0) = false := by rw [beq_eq_false_iff_ne]; omega
   have t1 : decide ((l.length : Int) > 1024) = true := decide_eq_true (by omega)
   have t2 : 1024 < (l.length : Int) := by omega
   clear h0 hbad
   go_enter Tryz.func49, Tryz.ntmps49
   go_upto_region 1 with (fail)
   rw [HW1.out]
   go_wp2
   obtain ⟨R, hB⟩ := HF.out 0 14 _ (Below.refl _ _)
   exact bodyPost_ret (v := .agg #[.int .i64 0, .int .i64 14]) (results_got rfl _ _ _ _ _ rfl R) rfl ⟨rfl, hB⟩
 ·have t0 : ((l.length : Int) == 0) = false := by rw [beq_eq_false_iff_ne]; omega
  have t1 : decide ((l.length : Int) > 1024) = false := decide_eq_false (by omega)
  have t2 : decide (1024 < l.length) = false := decide_eq_false (by omega)
  have HS := Lib.hid (chk_start (l := l) (by omega) (by omega))
  have hl : l.length ≤ 1024 := by omega
  have G1 := Lib.hid G1
  have B1 := Lib.hid B1
  clear hbad
  go_enter Tryz.func49, Tryz.ntmps49
  go_upto_region 1 with (fail)
  rw [HW1.out]
  clear HW1
  go_wp2
  go_loopw [3] (fun i wr => ∃ k : Nat, k ≤ l.length ∧ i = .int .i64 k ∧ Lt W1 wr ∧ Hid (chkAll l = chkFrom (l.take k) (l.drop k))) (fun i _ => l.length - (intOf i).toNat)
  case atStart => exact ⟨0, Nat.zero_le _, rfl, Below.refl _ _, HS⟩
  case round =>
   obtain ⟨k, hk, rfl, hL, hq⟩ := hrel
   have g0 := (G1.out.later hL).c0
   have g1 := (G1.out.later hL).c1
   have f0 := (G1.out.later hL).frozen 0
   have f1 := (G1.out.later hL).frozen 1
   clear d0 d1 e0 e1 t0 t1 t2
   have HL := Lib.hid hL
   clear hL
   by_cases hlt : k < l.length
   ·obtain ⟨b, o, x, rfl, hx, hw, hbl, hT⟩ := ROW.out.get hlt
    have hTr := (hT.later B1.out).later HL.out
    have c0 := hTr.c0
    have c1 := hTr.c1
    have c2 := hTr.c2
    have c3 := hTr.c3
    have c4 := hTr.c4
    have c5 := hTr.c5
    have c6 := hTr.c6
    have hi0 : (0 : Int) ≤ (k : Int) := by omega
    have hi1 : (k : Int) < (l.length : Int) := by omega
    have HX := Lib.hid hx
    have HT := Lib.hid hTr
    have K0 := Lib.hid (fun W => rcheck_any x W hw)
    clear hT hTr hx hw
    by_cases he0 : checkE x = 0
    ·rw [he0] at K0
     have HE0 := Lib.hid he0
     clear he0
     go_wp2_with (go_at_call 80; (with_reducible refine (K0.out _).mono ?_); rintro e2 w2 ⟨rfl, h2⟩; have HL2 : Hid (Lt W1 w2) := Lib.hid (lt_step _ _ HL.out h2); have HT2 := Lib.hid (HT.out.later h2); clear h2)
     clear c0 c1 c2 c3 c4 c5 c6 g0 g1 f0 f1
     go_loopw [5] (fun i wr2 => ∃ j : Nat, j ≤ k ∧ i = .int .i64 j ∧ Lt w2 wr2 ∧ Hid (∀ (i : Nat) (y : Ts), i < j → l[i]? = some y → y.n ≠ x.n ∧ y.p ≠ x.p)) (fun i _ => k - (intOf i).toNat)
     case atStart => exact ⟨0, Nat.zero_le _, rfl, Below.refl _ _, Lib.hid (fun i y h => absurd h (by omega))⟩
     case round =>
      obtain ⟨j, hj, rfl, hL2, hno⟩ := hrel
      have HL3 : Hid (Lt W1 wr) := Lib.hid (Below.trans HL2.out (Below.mono hL2 (Below.size HL2.out)))
      have hTX := HT2.out.later hL2
      have a0 := hTX.c0
      have a6 := hTX.c6
      have g0 := (G1.out.later HL3.out).c0
      have g1 := (G1.out.later HL3.out).c1
      have f0 := (G1.out.later HL3.out).frozen 0
      have f1 := (G1.out.later HL3.out).frozen 1
      have hL2' := Lib.hid hL2
      clear hTX hL2
      by_cases hjk : j < k
      ·obtain ⟨y, hy⟩ : ∃ y, l[j]? = some y := ⟨l[j], List.getElem?_eq_getElem (by omega)⟩
       have hTy := ((ROW.out.at2 hy).later B1.out).later HL3.out
       have b0 := hTy.c0
       have b6 := hTy.c6
       have hj0 : (0 : Int) ≤ (j : Int) := by omega
       have hj1 : (j : Int) < (l.length : Int) := by omega
       have HY := Lib.hid hy
       clear hTy hy
       by_cases hn : y.n = x.n
       ·have t1 : (y.n.toList == x.n.toList) = true := by rw [name_eq, decide_eq_true hn]
        obtain ⟨rfl, rfl⟩ := Prod.mk.inj (HE.out.symm.trans (chk_dup hq.out HX.out HE0.out (dup_hit hjk HY.out (.inl hn))))
        clear hn hq hno
        go_wp2
        go_quiet (fail)
        go_wp2
        obtain ⟨R, hB⟩ := HF.out _ 13 _ (below_drewN HL3.out _)
        exact bodyPost_ret (v := .agg #[.int .i64 _, .int .i64 13]) (results_got rfl _ _ _ _ _ rfl R) rfl ⟨rfl, hB⟩
       ·have t1 : (y.n.toList == x.n.toList) = false := by rw [name_eq, decide_eq_false hn]
        have HN := Lib.hid hn
        clear hn
        by_cases hp : y.p = x.p
        ·have t2 : (y.p == x.p) = true := by simpa using hp
         obtain ⟨rfl, rfl⟩ := Prod.mk.inj (HE.out.symm.trans (chk_dup hq.out HX.out HE0.out (dup_hit hjk HY.out (.inr hp))))
         clear hp hq hno
         go_wp2
         go_quiet (fail)
         go_wp2
         obtain ⟨R, hB⟩ := HF.out _ 13 _ (below_drewN HL3.out _)
         exact bodyPost_ret (v := .agg #[.int .i64 _, .int .i64 13]) (results_got rfl _ _ _ _ _ rfl R) rfl ⟨rfl, hB⟩
        ·have t2 : (y.p == x.p) = false := by simpa using hp
         have HP := Lib.hid hp
         clear hp
         go_wp2
         go_quiet (fail)
         go_wp2
         refine ⟨⟨j + 1, by omega, by go_num, below_drewN hL2'.out _, Lib.hid (fun i z hi hz => ?_)⟩, by simp [intOf]; omega⟩
         by_cases hij : i = j
         ·subst hij
          obtain rfl : y = z := Option.some.inj (HY.out.symm.trans hz)
          exact ⟨HN.out, HP.out⟩
         ·exact hno.out i z (by omega) hz
      ·obtain rfl : j = k := by omega
       have HQ := Lib.hid (chk_next hq.out HX.out HE0.out (nameIn_none fun i y hi hy => (hno.out i y hi hy).1) (prioIn_none fun i y hi hy => (hno.out i y hi hy).2))
       clear hq hno
       go_wp2
       go_roundw
       case rel => exact ⟨j + 1, by omega, by go_num, HL3.out, HQ⟩
       case measure => simp [intOf]; omega
    ·have HQ := Lib.hid (HE.out.symm.trans (chk_bad hq.out HX.out he0))
     have t5 : (checkE x != 0) = true := by simpa using he0
     generalize checkE x = ce at *
     clear he0 hq
     go_wp2_with (go_at_call 80; (with_reducible refine (K0.out _).mono ?_); rintro e2 w2 ⟨rfl, h2⟩; have HL2 : Hid (Lt W1 w2) := Lib.hid (lt_step _ _ HL.out h2); have g0' := (G1.out.later HL2.out).c0; have g1' := (G1.out.later HL2.out).c1; have f0' := (G1.out.later HL2.out).frozen 0; have f1' := (G1.out.later HL2.out).frozen 1; clear h2)
     obtain ⟨R, hB⟩ := HF.out (k : Int) ce _ HL2.out
     exact bodyPost_ret (v := .agg #[.int .i64 (k : Int), .int .i64 ce]) (results_got rfl _ _ _ _ _ rfl R) rfl ⟨by obtain ⟨rfl, rfl⟩ := Prod.mk.inj HQ.out; rfl, hB⟩
   ·obtain rfl : k = l.length := by omega
    obtain ⟨rfl, rfl⟩ := Prod.mk.inj (HE.out.symm.trans (chk_end hq.out))
    clear hq
    go_wp2
    obtain ⟨R, hB⟩ := HF.out (l.length : Int) 0 _ HL.out
    exact bodyPost_ret (v := .agg #[.int .i64 (l.length : Int), .int .i64 0]) (results_got rfl _ _ _ _ _ rfl R) rfl ⟨rfl, hB⟩
end
end Go.Proofs.YthfkbbiaemmndaaGreatDoor
