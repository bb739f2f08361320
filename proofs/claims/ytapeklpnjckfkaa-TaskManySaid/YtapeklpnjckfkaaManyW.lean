/- TaskMany: the walk itself. -/
import Derived.Test.YtapeklpnjckfkaaMany
namespace Go.Proofs.Ytapeklpnjckfkaa
open Go.RowKit
set_option linter.unusedVariables false
set_option linter.unusedSimpArgs false

theorem arr3 {w w1 : World} {t : TypeId} {v0 v1 v2 : Value} (h : Below (w.alloc (.cells #[v0, v1, v2] t)).heap.size (w.alloc (.cells #[v0, v1, v2] t)) w1) :
    (w1.cell? ⟨w.heap.size, 0, none⟩ = some v0 ∧ w1.cell? ⟨w.heap.size, 1, none⟩ = some v1 ∧ w1.cell? ⟨w.heap.size, 2, none⟩ = some v2) ∧ Below w.heap.size w w1 ∧ w.heap.size < w1.heap.size := by
  have hs := h.size
  simp only [World.size_alloc] at hs
  have hc : ∀ i, w1.cell? ⟨w.heap.size, i, none⟩ = (#[v0, v1, v2] : Array Value)[i]? := fun i => by
    rw [h.cell (p := ⟨w.heap.size, i, none⟩) (by simp), cell_of_row _ _ i _ _ _ (heap_alloc_new w _)]
  exact ⟨⟨hc 0, hc 1, hc 2⟩, ((Below.refl w.heap.size w).alloc (Nat.le_refl _) _).trans (h.mono (by simp)), by omega⟩
theorem checkAll_n (A : Option Addr) (cap : Nat) (l : List Ts) (n : Nat) (hn : l.length = n) (a : Nat) (e : Int) (he : chkAll l = (a, e)) (w : World) (hR : Row w A cap l) :
    Calls Try.prog 24 #[.slice A n cap] w fun e' w' => e' = .returned (.tuple #[.int .i64 (a : Int), .int .i64 e]) ∧ Below w.heap.size w w' := by
  subst hn
  have := checkAll_any A cap l w hR
  rw [he] at this
  exact this
theorem and1 (q : Int) : bits .and .i64 q 1 = q % 2 := i64_and_pow q 1 1 (by decide) (by decide)

set_option maxRecDepth 100000 in
set_option maxHeartbeats 8000000 in
theorem many_walk (m q0 q1 q2 : Int) (w : World) (hm : in64 m) (hq0 : in64 q0) (hq1 : in64 q1) (hq2 : in64 q2) :
    Calls Try.prog 8 #[.int .i64 m, .agg #[.int .i64 q0, .int .i64 q1, .int .i64 q2]] w fun e w' => e = .returned (.bool true) ∧ Below w.heap.size w w' := by
  obtain ⟨i0, hi, hz0, hz1, hz2⟩ := info_parts infoTs
  have r0 := fun w => rest_any m 11 w hm (by omega) (by omega)
  obtain ⟨b1, b2⟩ := restI_bd m 11 (by omega) (by omega)
  obtain ⟨n, hn⟩ : ∃ n : Nat, 1020 + restI m 11 = (n : Int) := ⟨(1020 + restI m 11).toNat, by omega⟩
  have n1 : 1020 ≤ n := by omega
  have n2 : n ≤ 1030 := by omega
  generalize restI m 11 = c at *
  have RM := Lib.hid r0
  have ra := fun w => rest_any q0 n w hq0 (by omega) (by omega)
  have rb := fun w => rest_any q1 n w hq1 (by omega) (by omega)
  obtain ⟨a1, a2⟩ := restI_bd q0 n (by omega) (by omega)
  obtain ⟨a3, a4⟩ := restI_bd q1 n (by omega) (by omega)
  obtain ⟨a, ha⟩ : ∃ a : Nat, restI q0 n = (a : Int) := ⟨(restI q0 n).toNat, by omega⟩
  obtain ⟨b, hb⟩ : ∃ a : Nat, restI q1 n = (a : Int) := ⟨(restI q1 n).toNat, by omega⟩
  rw [ha] at ra a1 a2
  rw [hb] at rb a3 a4
  have RA := Lib.hid ra
  have RB := Lib.hid rb
  have HQ := Lib.hid (and1 q2)
  clear r0 ra rb ha hb hm hq0 hq1 hq2
  go_enter Try.func8, Try.ntmps8
  go_upto_region 2 with (go_at_call 9; (with_reducible refine (awake_any _).mono ?_); rintro e w1 ⟨rfl, h1⟩)
  obtain ⟨⟨k0, k1, k2⟩, hB1, hlt1⟩ := arr3 h1
  clear h1
  have B1 := Lib.hid hB1
  clear hB1
  go_wp2_with (go_at_call 13; (with_reducible refine (RM.out _).mono ?_); rintro e w' ⟨rfl, rfl⟩)
  go_loopw [7, 8] (fun v i wr => ∃ (k : Nat) (ts : List Ts), k ≤ n ∧ i = .int .i64 k ∧ SetIn w1.heap.size wr v k ts ∧ Hid (ts = tks n k) ∧ Lt w1 wr) (fun _ i _ => n - (intOf i).toNat)
  case atStart => exact ⟨0, [], Nat.zero_le _, rfl, SetIn.nil _ _, Lib.hid rfl, Below.refl _ _⟩
  case round =>
    obtain ⟨k, ts, hk, rfl, hI, hts, hL⟩ := hrel
    have HI := Lib.hid hI
    have HL := Lib.hid hL
    clear hI hL
    by_cases hlt : k < n
    · have t1 : decide ((k : Int) < (n : Int)) = true := decide_eq_true (by omega)
      have p0 : (0 : Int) ≤ (k : Int) % 26 := by omega
      have p1 : (k : Int) % 26 ≤ 25 := by omega
      have p2 : (0 : Int) ≤ (k : Int) / 26 := by omega
      have p3 : (k : Int) / 26 ≤ 39 := by omega
      have p4 : (0 : Int) ≤ (k : Int) / 26 % 26 := by omega
      have p5 : (k : Int) / 26 % 26 ≤ 25 := by omega
      have p6 : (0 : Int) ≤ (k : Int) / 676 := by omega
      have p7 : (k : Int) / 676 ≤ 1 := by omega
      have k1n : (k : Int) ≤ 1029 := by omega
      have hw1 : IntKind.u8.wrap (97 + (k : Int) % 26) = 97 + (k : Int) % 26 := by rw [IntKind.wrap_u8]; omega
      have hw2 : IntKind.u8.wrap (97 + (k : Int) / 26 % 26) = 97 + (k : Int) / 26 % 26 := by rw [IntKind.wrap_u8]; omega
      have hw3 : IntKind.u8.wrap (97 + (k : Int) / 676) = 97 + (k : Int) / 676 := by rw [IntKind.wrap_u8]; omega
      have hcv := fun W => conv3 W (97 + (k : Int) % 26) (97 + (k : Int) / 26 % 26) (97 + (k : Int) / 676) (by omega) (by omega) (by omega)
      have hnm : ({ data := #[110] } : ByteArray) ++ b3 (97 + (k : Int) % 26) (97 + (k : Int) / 26 % 26) (97 + (k : Int) / 676) = nmT k := rfl
      have hseven := seven_new (wr.alloc (.cells #[.int .u8 (97 + (k : Int) % 26), .int .u8 (97 + (k : Int) / 26 % 26), .int .u8 (97 + (k : Int) / 676)] 5)) (tk n k)
      rw [World.size_alloc] at hseven
      have H7 := Lib.hid hseven
      clear hseven k0 k1 k2
      go_wp2_with (at_builtin; refine wpList_append_own _ rfl _ _ 22 rfl w1.heap.size 33 i0 _ 7 64 Try.underlying22 hi hz0 hz1 hz2 rfl (by decide) _ _ _ rfl ((HI.out.row.alloc _).alloc _) ⟨wr.heap.size + 1, 0, none⟩ 1 1 (tsL (tk n k)) rfl rfl H7.out (tsL_one _) (by unfold maxLen; omega) (by omega) (by have := Below.size HL.out; simp; omega) ?_; intro v' w4 hown' hgrow hnil')
      go_roundw
      case rel =>
        have hb0 := Below.size HL.out
        refine ⟨k + 1, ts ++ [tk n k], by omega, by go_num, ⟨by simp [HI.out.len], fun y hy => ?_, by rw [tsCells_snoc]; exact hown'⟩, Lib.hid (by rw [hts.out, tks_snoc]), ?_⟩
        · rcases List.mem_append.1 hy with hy | hy
          · exact HI.out.wf y hy
          · obtain rfl := List.mem_singleton.1 hy
            exact tk_wf (by omega) (by omega)
        · exact ((((Below.refl w1.heap.size w1).trans HL.out).alloc hb0 _).alloc (by simp; omega) _).grown hgrow (by simp; omega) (fun q hq => (HI.out.row.lt q hq).1)
      case measure => simp [intOf]; omega
    · obtain rfl : k = n := by omega
      have t1 : decide ((k : Int) < (k : Int)) = false := decide_eq_false (by omega)
      obtain ⟨g, cap, rfl, hO⟩ := HI.out.own (by omega)
      obtain rfl : ts = tks k k := hts.out
      have HO := Lib.hid hO
      have hlen := tks_length k k
      have HLEN := Lib.hid hlen
      have hle : k ≤ cap := by have := hO.le; omega
      have hmx := hO.mx
      have e0 := (Below.cell HL.out (p := ⟨w.heap.size, 0, none⟩) hlt1).trans k0
      have e1 := (Below.cell HL.out (p := ⟨w.heap.size, 1, none⟩) hlt1).trans k1
      have e2 := (Below.cell HL.out (p := ⟨w.heap.size, 2, none⟩) hlt1).trans k2
      clear hO hlen hts HI
      by_cases hbig : 1024 < k
      · have t2 : decide ((k : Int) > 1024) = true := decide_eq_true (by omega)
        have t3 : 1024 < (k : Int) := by omega
        clear e0 e1 e2 k0 k1 k2
        go_wp2_with (go_at_call 24; (with_reducible refine (checkAll_n _ _ _ _ HLEN.out 0 14 (tks_many hbig) _ HO.out.row).mono ?_); rintro e w5 ⟨rfl, h5⟩; have hBf := Lib.hid (Below.trans B1.out (Below.mono (Below.trans HL.out (h5.mono (Below.size HL.out))) (Below.size B1.out))); clear h5)
        go_ret
        exact ⟨rfl, hBf.out⟩
      · have t2 : decide ((k : Int) > 1024) = false := decide_eq_false (by omega)
        have t3 : decide (1024 < k) = false := decide_eq_false (by omega)
        have hk4 : k ≤ 1024 := by omega
        clear hbig
        go_upto_region 11 with (go_at_call 24; (with_reducible refine (checkAll_n _ _ _ _ HLEN.out k 0 (tks_all (by omega) hk4) _ HO.out.row).mono ?_); rintro e w5 ⟨rfl, h5⟩)
        obtain ⟨hi', hhi⟩ : ∃ hi' : Nat, max a b = hi' := ⟨_, rfl⟩
        obtain ⟨lo, hlo⟩ : ∃ lo : Nat, min a b = lo := ⟨_, rfl⟩
        have hmax : max (a : Int) (b : Int) = (hi' : Int) := by omega
        have hmin : min (a : Int) (b : Int) = (lo : Int) := by omega
        have HO5 : OwnT w1.heap.size w5 g cap (tks k k) := ⟨HO.out.hB, Nat.lt_of_lt_of_le HO.out.lt h5.size, fun i => by rw [h5.frozen (p := ⟨g, i, none⟩) HO.out.lt]; exact HO.out.fz i, HO.out.le, HO.out.mx, HO.out.wf, fun i x hx => (HO.out.at_ i x hx).later h5⟩
        have j0 := (h5.cell (p := ⟨w.heap.size, 0, none⟩) (Nat.lt_of_lt_of_le hlt1 (Below.size HL.out))).trans e0
        have j1 := (h5.cell (p := ⟨w.heap.size, 1, none⟩) (Nat.lt_of_lt_of_le hlt1 (Below.size HL.out))).trans e1
        have j2 := (h5.cell (p := ⟨w.heap.size, 2, none⟩) (Nat.lt_of_lt_of_le hlt1 (Below.size HL.out))).trans e2
        have HL5 : Hid (Below w1.heap.size w1 w5) := Lib.hid (Below.trans HL.out (h5.mono (Below.size HL.out)))
        have hhk : hi' < k := by omega
        have hlk : lo < k := by omega
        have Thi := HO5.at_ hi' _ (tks_get hhk)
        have Tlo := HO5.at_ lo _ (tks_get hlk)
        have c0 := Thi.c0
        have c6 := Thi.c6
        have d0 := Tlo.c0
        have d6 := Tlo.c6
        have f0 := HO5.fz (hi' * 7)
        have f6 := HO5.fz (hi' * 7 + 6)
        have i0' : (0 : Int) ≤ (hi' : Int) := by omega
        have i1' : (hi' : Int) < (k : Int) := by omega
        have i2' : (0 : Int) ≤ (lo : Int) := by omega
        have i3' : (lo : Int) < (k : Int) := by omega
        have HO5 := Lib.hid HO5
        have HHI := Lib.hid hhi
        have HLO := Lib.hid hlo
        clear Thi Tlo h5 e0 e1 e2 k0 k1 k2 hhi hlo HO
        have hodd : q2 % 2 = 0 ∨ q2 % 2 = 1 := by omega
        rcases hodd with hodd | hodd
        · have hbit : bits .and .i64 q2 1 = 0 := HQ.out.trans hodd
          clear hodd HQ
          have HO6 : Hid (OwnT w1.heap.size (w5.setCell ⟨g, hi' * 7 + 6, none⟩ (.int .i64 (tk k lo).p)) g cap ((tks k k).set hi' { tk k hi' with p := (k : Int) - (lo : Int) })) := Lib.hid (HO5.out.setF (tks_get hhk) { tk k hi' with p := (k : Int) - (lo : Int) } 6 (by omega) (.int .i64 (tk k lo).p) rfl ⟨(tk_wf (n := k) (k := hi') (by omega) (by omega)).n, (tk_wf (n := k) (k := hi') (by omega) (by omega)).c, (tk_wf (n := k) (k := hi') (by omega) (by omega)).t, (tk_wf (n := k) (k := hi') (by omega) (by omega)).d, (tk_wf (n := k) (k := hi') (by omega) (by omega)).j, (tk_wf (n := k) (k := hi') (by omega) (by omega)).q, ⟨by show _ ≤ (k : Int) - (lo : Int); omega, by show (k : Int) - (lo : Int) ≤ _; omega⟩⟩)
          have HL6 : Hid (Below w1.heap.size w1 (w5.setCell ⟨g, hi' * 7 + 6, none⟩ (.int .i64 (tk k lo).p))) := Lib.hid (setCell_own (i := hi' * 7 + 6) HL5.out HO5.out.hB (.int .i64 (tk k lo).p))
          have hl6 : ((tks k k).set hi' { tk k hi' with p := (k : Int) - (lo : Int) }).length = k := by rw [List.length_set, tks_length]
          have HLE6 := Lib.hid hl6
          clear hl6
          by_cases hab : a = b
          · have hll : lo = hi' := by have := HHI.out; have := HLO.out; omega
            have tab : ((a : Int) == (b : Int)) = true := by simp; omega
            have HE6 : Hid (chkAll ((tks k k).set hi' { tk k hi' with p := (k : Int) - (lo : Int) }) = (k, 0)) := Lib.hid (by rw [tks_same hhk (by rw [hll]; rfl)]; exact tks_all (by omega) hk4)
            clear hll hab
            go_wp2_with (first
              | (go_at_call 13; (with_reducible refine (RA.out _).mono ?_); rintro e w' ⟨rfl, rfl⟩)
              | (go_at_call 13; (with_reducible refine (RB.out _).mono ?_); rintro e w' ⟨rfl, rfl⟩)
              | (go_at_call 24; (with_reducible refine (checkAll_n _ _ _ _ HLE6.out k 0 HE6.out _ HO6.out.row).mono ?_); rintro e w7 ⟨rfl, h7⟩; have hBf := Lib.hid (Below.trans B1.out (Below.mono (Below.trans HL6.out (h7.mono (Below.size HL6.out))) (Below.size B1.out))); clear h7))
            go_ret
            exact ⟨rfl, hBf.out⟩
          · have hll : lo < hi' := by have := HHI.out; have := HLO.out; omega
            have tab : ((a : Int) == (b : Int)) = false := by simp; omega
            have HE6 : Hid (chkAll ((tks k k).set hi' { tk k hi' with p := (k : Int) - (lo : Int) }) = (hi', 13)) := Lib.hid (tks_dup hk4 hll hhk _ (ok_of (s := nmT hi') (p := (k : Int) - (lo : Int)) (by rw [nmT_size hi' (by omega)]; omega) (nmT_word hi' (by omega)) (by omega) (by omega)) (.inr rfl))
            clear hll hab
            go_wp2_with (first
              | (go_at_call 13; (with_reducible refine (RA.out _).mono ?_); rintro e w' ⟨rfl, rfl⟩)
              | (go_at_call 13; (with_reducible refine (RB.out _).mono ?_); rintro e w' ⟨rfl, rfl⟩)
              | (go_at_call 24; (with_reducible refine (checkAll_n _ _ _ _ HLE6.out hi' 13 HE6.out _ HO6.out.row).mono ?_); rintro e w7 ⟨rfl, h7⟩; have hBf := Lib.hid (Below.trans B1.out (Below.mono (Below.trans HL6.out (h7.mono (Below.size HL6.out))) (Below.size B1.out))); clear h7))
            go_ret
            exact ⟨rfl, hBf.out⟩
        · have hbit : bits .and .i64 q2 1 = 1 := HQ.out.trans hodd
          clear hodd HQ
          have HO6 : Hid (OwnT w1.heap.size (w5.setCell ⟨g, hi' * 7, none⟩ (.string (tk k lo).n)) g cap ((tks k k).set hi' { tk k hi' with n := nmT lo })) := Lib.hid (HO5.out.setF (tks_get hhk) { tk k hi' with n := nmT lo } 0 (by omega) (.string (tk k lo).n) rfl ⟨(tk_wf (n := k) (k := lo) (by omega) (by omega)).n, (tk_wf (n := k) (k := hi') (by omega) (by omega)).c, (tk_wf (n := k) (k := hi') (by omega) (by omega)).t, (tk_wf (n := k) (k := hi') (by omega) (by omega)).d, (tk_wf (n := k) (k := hi') (by omega) (by omega)).j, (tk_wf (n := k) (k := hi') (by omega) (by omega)).q, (tk_wf (n := k) (k := hi') (by omega) (by omega)).p⟩)
          have HL6 : Hid (Below w1.heap.size w1 (w5.setCell ⟨g, hi' * 7, none⟩ (.string (tk k lo).n))) := Lib.hid (setCell_own (i := hi' * 7 + 0) HL5.out HO5.out.hB (.string (tk k lo).n))
          have hl6 : ((tks k k).set hi' { tk k hi' with n := nmT lo }).length = k := by rw [List.length_set, tks_length]
          have HLE6 := Lib.hid hl6
          clear hl6
          by_cases hab : a = b
          · have hll : lo = hi' := by have := HHI.out; have := HLO.out; omega
            have tab : ((a : Int) == (b : Int)) = true := by simp; omega
            have HE6 : Hid (chkAll ((tks k k).set hi' { tk k hi' with n := nmT lo }) = (k, 0)) := Lib.hid (by rw [tks_same hhk (by rw [hll]; rfl)]; exact tks_all (by omega) hk4)
            clear hll hab
            go_wp2_with (first
              | (go_at_call 13; (with_reducible refine (RA.out _).mono ?_); rintro e w' ⟨rfl, rfl⟩)
              | (go_at_call 13; (with_reducible refine (RB.out _).mono ?_); rintro e w' ⟨rfl, rfl⟩)
              | (go_at_call 24; (with_reducible refine (checkAll_n _ _ _ _ HLE6.out k 0 HE6.out _ HO6.out.row).mono ?_); rintro e w7 ⟨rfl, h7⟩; have hBf := Lib.hid (Below.trans B1.out (Below.mono (Below.trans HL6.out (h7.mono (Below.size HL6.out))) (Below.size B1.out))); clear h7))
            go_ret
            exact ⟨rfl, hBf.out⟩
          · have hll : lo < hi' := by have := HHI.out; have := HLO.out; omega
            have tab : ((a : Int) == (b : Int)) = false := by simp; omega
            have HE6 : Hid (chkAll ((tks k k).set hi' { tk k hi' with n := nmT lo }) = (hi', 13)) := Lib.hid (tks_dup hk4 hll hhk _ (ok_of (s := nmT lo) (p := (k : Int) - (hi' : Int)) (by rw [nmT_size lo (by omega)]; omega) (nmT_word lo (by omega)) (by omega) (by omega)) (.inl rfl))
            clear hll hab
            go_wp2_with (first
              | (go_at_call 13; (with_reducible refine (RA.out _).mono ?_); rintro e w' ⟨rfl, rfl⟩)
              | (go_at_call 13; (with_reducible refine (RB.out _).mono ?_); rintro e w' ⟨rfl, rfl⟩)
              | (go_at_call 24; (with_reducible refine (checkAll_n _ _ _ _ HLE6.out hi' 13 HE6.out _ HO6.out.row).mono ?_); rintro e w7 ⟨rfl, h7⟩; have hBf := Lib.hid (Below.trans B1.out (Below.mono (Below.trans HL6.out (h7.mono (Below.size HL6.out))) (Below.size B1.out))); clear h7))
            go_ret
            exact ⟨rfl, hBf.out⟩
end Go.Proofs.Ytapeklpnjckfkaa
