/- places: its walk. -/
import Derived.Test.YtlelnoalajeihaaPlc
namespace Go.Proofs.Ytlelnoalajeihaa
open Go.RowKit
set_option linter.unusedVariables false
set_option linter.unusedSimpArgs false

theorem knat {a c : Nat} : (((a : Int) == (c : Int)) = decide (a = c)) := by
  by_cases h : a = c
  · subst h; simp
  · rw [decide_eq_false h, beq_eq_false_iff_ne]; omega
set_option maxRecDepth 100000 in
set_option maxHeartbeats 8000000 in
theorem places_any (s : ByteArray) (w : World) (hs : s.size ≤ 100000) : Calls Try.prog 15 #[.string s] w (OkB w) := by
  have K := Lib.hid (fun W => read_any s W hs)
  have L := Lib.hid (fun W => reach_any s W hs)
  have K2 : Hid (∀ (u : ByteArray) (W : World), u.size ≤ 100000 → Calls Try.prog 14 #[.string u] W (ReadPost u W)) := Lib.hid (fun u W h => read_any u W h)
  have P := places_pure s
  have LN := Lib.hid (fun ln (h : LnOk (tokL s) (readS s).2.1 ln) (ha : (readS s).2.1 ≤ s.size) => ln_le h ha)
  unfold ReadPost at K
  rcases hr : readS s with ⟨l, at', er⟩
  rw [hr] at P K LN
  simp only at P K LN
  clear hr
  rcases P with ⟨rfl, rfl⟩ | ⟨rfl, rfl, hat, hen, hbad, hgood⟩
  · clear L K2 LN
    go_enter Try.func15, Try.ntmps15
    go_upto_region 2 with (go_at_call 14; (with_reducible refine (K.out _).mono ?_); rintro e W1 ⟨A1, c1, rfl, -, hB1⟩)
    have HB := Lib.hid hB1
    clear hB1
    go_wp2
    go_ret
    exact ⟨rfl, HB.out⟩
  · generalize endP s = en at *
    generalize tokL s = ts at *
    have HBD := Lib.hid hbad
    have HGD := Lib.hid hgood
    clear hbad hgood
    have a0 : (0 : Int) ≤ (at' : Int) := by omega
    have a1 : decide ((at' : Int) < 0) = false := decide_eq_false (by omega)
    have a2 : decide ((s.size : Int) < (at' : Int)) = false := decide_eq_false (by omega)
    have a3 : decide (s.size < at') = false := decide_eq_false (by omega)
    have a4 : decide ((at' : Int) > (s.size : Int)) = false := decide_eq_false (by omega)
    have q1 : ((at' : Int) == (s.size : Int)) = decide (at' = s.size) := knat
    have q2 : ((at' : Int) == (en : Int)) = decide (at' = en) := knat
    obtain ⟨st0, hst0⟩ : ∃ b, (decide (at' = s.size) || decide (at' = en)) = b := ⟨_, rfl⟩
    have HST := Lib.hid hst0
    go_enter Try.func15, Try.ntmps15
    go_upto_region 2 with (go_at_call 14; (with_reducible refine (K.out _).mono ?_); rintro e W1 ⟨A1, c1, rfl, hR1, hB1⟩)
    have hmx1 := hR1.mx
    have HB1 := Lib.hid hB1
    clear hB1 hR1 K
    go_upto_region 7 with (go_at_call 25; (with_reducible refine (L.out _).mono ?_); rintro e W2 ⟨v, rfl, hT, hB2⟩; obtain ⟨A2, cap2, rfl, hTk, -⟩ := tks_of hT)
    obtain ⟨W3, hW3, c0, c1, TK, HB3, hlt3⟩ : ∃ W3, W2.alloc (.cells #[.slice A2 ts.length cap2, .int .i64 (en : Int)] 58) = W3 ∧ W3.cell? ⟨W2.heap.size, 0, none⟩ = some (.slice A2 ts.length cap2) ∧ W3.cell? ⟨W2.heap.size, 1, none⟩ = some (.int .i64 (en : Int)) ∧ Tks W3 A2 cap2 ts ∧ Below w.heap.size w W3 ∧ W2.heap.size < W3.heap.size := by
      have hbl := HB1.out.trans (hB2.mono HB1.out.size)
      refine ⟨_, rfl, ?_, ?_, hTk.kept (Kept.of [] ((Below.refl _ _).alloc (Nat.le_refl _) _)) (by simp), hbl.alloc hbl.size _, by simp⟩
      · rw [cell_of_row _ _ 0 _ _ _ (heap_alloc_new W2 _)]; rfl
      · rw [cell_of_row _ _ 1 _ _ _ (heap_alloc_new W2 _)]; rfl
    rw [hW3]
    have HTK := Lib.hid TK
    have HB3 := Lib.hid HB3
    have hle := TK.le
    have hmx := TK.mx
    generalize W2.heap.size = bg at *
    clear hW3 TK hTk hT hB2 HB1 L
    have HS1 : Hid (en < s.size → st0 = true) := Lib.hid (fun h => by rw [← hst0, HBD.out h]; simp)
    have HS2 : Hid (at' = s.size → st0 = true) := Lib.hid (fun h => by rw [← hst0, h]; simp)
    by_cases g1 : at' = s.size
    · rw [decide_eq_true g1] at q1
      obtain rfl : st0 = true := HS2.out g1
      clear hst0 HST q2 g1
      go_wp2
      go_loopw [7, 8, 9] (fun st ln i wr => ∃ (k n : Nat) (b : Bool), k ≤ ts.length ∧ st = .bool b ∧ ln = .int .i64 n ∧ i = .int .i64 k ∧ (true = true → b = true) ∧ Hid (b = true ∨ ∀ z ∈ ts.take k, z.at' ≠ at') ∧ Hid (LnOk ts at' n) ∧ wr = W3) (fun _ _ i _ => ts.length - (intOf i).toNat)
      case atStart => exact ⟨0, 0, true, Nat.zero_le _, rfl, rfl, rfl, fun h => h, Lib.hid (.inr (by simp)), Lib.hid (.inl rfl), rfl⟩
      case round =>
        obtain ⟨k, n, b, hk, rfl, rfl, rfl, hb0, hbk, hln, rfl⟩ := hrel
        by_cases hlt : k < ts.length
        · obtain ⟨x, hx⟩ : ∃ x, ts[k]? = some x := ⟨ts[k], List.getElem?_eq_getElem hlt⟩
          obtain ⟨g, rfl, hT⟩ := HTK.out.at_ k x hx
          have t0 := hT.c0
          have t1 := hT.c1
          have hm : x ∈ ts := List.mem_of_getElem? hx
          have htk : ts.take (k + 1) = ts.take k ++ [x] := by rw [List.take_add_one, hx]; rfl
          have hi0 : (0 : Int) ≤ (k : Int) := by omega
          have hi1 : (k : Int) < (ts.length : Int) := by omega
          have k2 : decide (k < ts.length) = true := decide_eq_true hlt
          have HM := Lib.hid hm
          have HT := Lib.hid htk
          have u1 : ((x.at' : Int) == (at' : Int)) = decide (x.at' = at') := knat
          have u4 : ((x.k : Int) == 4) = decide (x.k = 4) := knat (c := 4)
          clear hT hx hm htk
          by_cases e1 : x.at' = at'
          · rw [decide_eq_true e1] at u1
            have e2 : decide ((x.at' : Int) < (at' : Int)) = false := decide_eq_false (by omega)
            have e3 : decide (x.at' < at') = false := decide_eq_false (by omega)
            clear u4
            go_wp2
            exact ⟨⟨k + 1, n, true, by omega, rfl, rfl, by go_num, fun _ => rfl, Lib.hid (.inl rfl), hln, (by first | rfl | trivial)⟩, by simp [intOf]; omega⟩
          · rw [decide_eq_false e1] at u1
            have HB2 : Hid (b = true ∨ ∀ z ∈ ts.take (k + 1), z.at' ≠ at') := Lib.hid (by
              rcases hbk.out with h | h
              · exact .inl h
              · refine .inr fun z hz => ?_
                rw [HT.out] at hz
                rcases List.mem_append.1 hz with hz | hz
                · exact h z hz
                · obtain rfl := List.mem_singleton.1 hz
                  exact e1)
            by_cases e2 : x.at' < at'
            · have f1 : decide ((x.at' : Int) < (at' : Int)) = true := decide_eq_true (by omega)
              have f2 : decide (x.at' < at') = true := decide_eq_true e2
              by_cases e4 : x.k = 4
              · rw [decide_eq_true e4] at u4
                have HL := Lib.hid (show LnOk ts at' (x.at' + 1) from .inr ⟨x, HM.out, e4, e2, rfl⟩)
                have hw : IntKind.i64.wrap ((x.at' : Int) + 1) = (x.at' : Int) + 1 := IntWalk.i64_in _ (by omega)
                clear e4
                go_wp2
                exact ⟨⟨k + 1, x.at' + 1, b, by omega, rfl, by go_num, by go_num, (fun _ => hb0 rfl), HB2, HL, (by first | rfl | trivial)⟩, by simp [intOf]; omega⟩
              · rw [decide_eq_false e4] at u4
                go_wp2
                exact ⟨⟨k + 1, n, b, by omega, rfl, rfl, by go_num, (fun _ => hb0 rfl), HB2, hln, (by first | rfl | trivial)⟩, by simp [intOf]; omega⟩
            · have f1 : decide ((x.at' : Int) < (at' : Int)) = false := decide_eq_false (by omega)
              have f2 : decide (x.at' < at') = false := decide_eq_false e2
              clear u4
              go_wp2
              exact ⟨⟨k + 1, n, b, by omega, rfl, rfl, by go_num, (fun _ => hb0 rfl), HB2, hln, (by first | rfl | trivial)⟩, by simp [intOf]; omega⟩
        · obtain rfl : k = ts.length := by omega
          have k2 : decide ((ts.length : Int) < (ts.length : Int)) = false := decide_eq_false (by omega)
          by_cases he : en < s.size
          · obtain rfl : b = true := hb0 rfl
            have e1 : decide ((en : Int) < (s.size : Int)) = true := decide_eq_true (by omega)
            have e2 : decide (en < s.size) = true := decide_eq_true he
            obtain rfl : at' = en := HBD.out he
            go_wp2
            go_ret
            exact ⟨rfl, HB3.out⟩
          · have e1 : decide ((en : Int) < (s.size : Int)) = false := decide_eq_false (by omega)
            have e2 : decide (en < s.size) = false := decide_eq_false he
            obtain ⟨h1, h2⟩ := HGD.out he
            obtain rfl : b = true := by
              rcases h1 with h1 | ⟨z, hz, h1⟩
              · exact hb0 rfl
              · rcases hbk.out with h | h
                · exact h
                · exact absurd h1 (h z (by rw [List.take_length]; exact hz))
            have h3 := h2 n hln.out
            have hn := LN.out n hln.out hat
            have R := fun W => K2.out (s.extract 0 n) W (by simp; omega)
            unfold ReadPost at R
            rw [h3] at R
            generalize (readS (s.extract 0 n)).1 = l2 at *
            generalize (readS (s.extract 0 n)).2.1 = p2 at *
            have R := Lib.hid R
            have n0 : (0 : Int) ≤ (n : Int) := by omega
            have n1 : (n : Int) ≤ (s.size : Int) := by omega
            clear h1 h2 h3 hbk hln
            go_wp2_with (go_at_call 14; (with_reducible refine (R.out _).mono ?_); rintro e W4 ⟨A4, c4, rfl, -, hB4⟩; have HB4 := Lib.hid (HB3.out.trans (hB4.mono HB3.out.size)); clear hB4)
            go_ret
            exact ⟨rfl, HB4.out⟩
    · rw [decide_eq_false g1] at q1
      rw [decide_eq_false g1, Bool.false_or] at hst0
      rw [hst0] at q2
      clear hst0 HST g1
      go_wp2
      go_loopw [7, 8, 9] (fun st ln i wr => ∃ (k n : Nat) (b : Bool), k ≤ ts.length ∧ st = .bool b ∧ ln = .int .i64 n ∧ i = .int .i64 k ∧ (st0 = true → b = true) ∧ Hid (b = true ∨ ∀ z ∈ ts.take k, z.at' ≠ at') ∧ Hid (LnOk ts at' n) ∧ wr = W3) (fun _ _ i _ => ts.length - (intOf i).toNat)
      case atStart => exact ⟨0, 0, st0, Nat.zero_le _, rfl, rfl, rfl, fun h => h, Lib.hid (.inr (by simp)), Lib.hid (.inl rfl), rfl⟩
      case round =>
        obtain ⟨k, n, b, hk, rfl, rfl, rfl, hb0, hbk, hln, rfl⟩ := hrel
        by_cases hlt : k < ts.length
        · obtain ⟨x, hx⟩ : ∃ x, ts[k]? = some x := ⟨ts[k], List.getElem?_eq_getElem hlt⟩
          obtain ⟨g, rfl, hT⟩ := HTK.out.at_ k x hx
          have t0 := hT.c0
          have t1 := hT.c1
          have hm : x ∈ ts := List.mem_of_getElem? hx
          have htk : ts.take (k + 1) = ts.take k ++ [x] := by rw [List.take_add_one, hx]; rfl
          have hi0 : (0 : Int) ≤ (k : Int) := by omega
          have hi1 : (k : Int) < (ts.length : Int) := by omega
          have k2 : decide (k < ts.length) = true := decide_eq_true hlt
          have HM := Lib.hid hm
          have HT := Lib.hid htk
          have u1 : ((x.at' : Int) == (at' : Int)) = decide (x.at' = at') := knat
          have u4 : ((x.k : Int) == 4) = decide (x.k = 4) := knat (c := 4)
          clear hT hx hm htk
          by_cases e1 : x.at' = at'
          · rw [decide_eq_true e1] at u1
            have e2 : decide ((x.at' : Int) < (at' : Int)) = false := decide_eq_false (by omega)
            have e3 : decide (x.at' < at') = false := decide_eq_false (by omega)
            clear u4
            go_wp2
            exact ⟨⟨k + 1, n, true, by omega, rfl, rfl, by go_num, fun _ => rfl, Lib.hid (.inl rfl), hln, (by first | rfl | trivial)⟩, by simp [intOf]; omega⟩
          · rw [decide_eq_false e1] at u1
            have HB2 : Hid (b = true ∨ ∀ z ∈ ts.take (k + 1), z.at' ≠ at') := Lib.hid (by
              rcases hbk.out with h | h
              · exact .inl h
              · refine .inr fun z hz => ?_
                rw [HT.out] at hz
                rcases List.mem_append.1 hz with hz | hz
                · exact h z hz
                · obtain rfl := List.mem_singleton.1 hz
                  exact e1)
            by_cases e2 : x.at' < at'
            · have f1 : decide ((x.at' : Int) < (at' : Int)) = true := decide_eq_true (by omega)
              have f2 : decide (x.at' < at') = true := decide_eq_true e2
              by_cases e4 : x.k = 4
              · rw [decide_eq_true e4] at u4
                have HL := Lib.hid (show LnOk ts at' (x.at' + 1) from .inr ⟨x, HM.out, e4, e2, rfl⟩)
                have hw : IntKind.i64.wrap ((x.at' : Int) + 1) = (x.at' : Int) + 1 := IntWalk.i64_in _ (by omega)
                clear e4
                go_wp2
                exact ⟨⟨k + 1, x.at' + 1, b, by omega, rfl, by go_num, by go_num, hb0, HB2, HL, (by first | rfl | trivial)⟩, by simp [intOf]; omega⟩
              · rw [decide_eq_false e4] at u4
                go_wp2
                exact ⟨⟨k + 1, n, b, by omega, rfl, rfl, by go_num, hb0, HB2, hln, (by first | rfl | trivial)⟩, by simp [intOf]; omega⟩
            · have f1 : decide ((x.at' : Int) < (at' : Int)) = false := decide_eq_false (by omega)
              have f2 : decide (x.at' < at') = false := decide_eq_false e2
              clear u4
              go_wp2
              exact ⟨⟨k + 1, n, b, by omega, rfl, rfl, by go_num, hb0, HB2, hln, (by first | rfl | trivial)⟩, by simp [intOf]; omega⟩
        · obtain rfl : k = ts.length := by omega
          have k2 : decide ((ts.length : Int) < (ts.length : Int)) = false := decide_eq_false (by omega)
          by_cases he : en < s.size
          · obtain rfl : b = true := hb0 (HS1.out he)
            have e1 : decide ((en : Int) < (s.size : Int)) = true := decide_eq_true (by omega)
            have e2 : decide (en < s.size) = true := decide_eq_true he
            obtain rfl : at' = en := HBD.out he
            go_wp2
            go_ret
            exact ⟨rfl, HB3.out⟩
          · have e1 : decide ((en : Int) < (s.size : Int)) = false := decide_eq_false (by omega)
            have e2 : decide (en < s.size) = false := decide_eq_false he
            obtain ⟨h1, h2⟩ := HGD.out he
            obtain rfl : b = true := by
              rcases h1 with h1 | ⟨z, hz, h1⟩
              · exact hb0 (HS2.out h1)
              · rcases hbk.out with h | h
                · exact h
                · exact absurd h1 (h z (by rw [List.take_length]; exact hz))
            have h3 := h2 n hln.out
            have hn := LN.out n hln.out hat
            have R := fun W => K2.out (s.extract 0 n) W (by simp; omega)
            unfold ReadPost at R
            rw [h3] at R
            generalize (readS (s.extract 0 n)).1 = l2 at *
            generalize (readS (s.extract 0 n)).2.1 = p2 at *
            have R := Lib.hid R
            have n0 : (0 : Int) ≤ (n : Int) := by omega
            have n1 : (n : Int) ≤ (s.size : Int) := by omega
            clear h1 h2 h3 hbk hln
            go_wp2_with (go_at_call 14; (with_reducible refine (R.out _).mono ?_); rintro e W4 ⟨A4, c4, rfl, -, hB4⟩; have HB4 := Lib.hid (HB3.out.trans (hB4.mono HB3.out.size)); clear hB4)
            go_ret
            exact ⟨rfl, HB4.out⟩
end Go.Proofs.Ytlelnoalajeihaa
