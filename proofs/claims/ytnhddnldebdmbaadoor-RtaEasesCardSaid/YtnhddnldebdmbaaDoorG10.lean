/- Texts about the program, one after the other: RSet, ROwn, REas, REch, RInt, RCon, RAwk, RTls. -/
import Derived.Test.YtnhddnldebdmbaaDoorG4
import Derived.Test.YtnhddnldebdmbaaDoorG5
import Derived.Test.YtnhddnldebdmbaaDoorG8
import Derived.Test.YtnhddnldebdmbaaDoorG9
import Derived.Laws.AppendOwn
import Derived.Maps.AppendAt
/- The document's Set: a row that may be stored to. -/
namespace Go.Proofs.YtnhddnldebdmbaaDoor
open Go.RowKit
set_option linter.unusedVariables false
set_option linter.unusedSimpArgs false
theorem OwnT.low {B B' : Nat} {w : World} {g cap : Nat} {ts : List Ts} (h : OwnT B w g cap ts) (hB : B' ≤ B) : OwnT B' w g cap ts := ⟨Nat.le_trans hB h.hB, h.lt, h.fz, h.le, h.mx, h.wf, h.at_⟩
def SetPostO (M : Int) (w : World) (e : Ending) (w' : World) : Prop := ∃ g cap ts, e = .returned (.slice (some ⟨g, 0, none⟩) ts.length cap) ∧ OwnT w.heap.size w' g cap ts ∧ 1 ≤ ts.length ∧ (ts.length : Int) ≤ M ∧ Dist ts ∧ SFs ts ∧ (∀ (i : Nat) (x : Ts), ts[i]? = some x → 1 ≤ x.p ∧ x.p ≤ 8) ∧ Below w.heap.size w w'

set_option maxRecDepth 100000 in
set_option maxHeartbeats 8000000 in
theorem seto_some (M : Int) (hM1 : 1 ≤ M) (hM8 : M ≤ 8) (A : Option Addr) (cap : Nat) (l : List Sp) (turn : Int) (w : World) (hR : SRow w A cap l) (ht : in64 turn) (h0 : l.length ≠ 0) :
    Calls Tryd.prog 9 #[.slice A l.length cap, .int .i64 M, .int .i64 turn] w (SetPostO M w) := by
  obtain ⟨i0, hi, hz0, hz1, hz2⟩ := info_parts infoTs
  have hmx := hR.mx
  have hle := hR.le
  have t0 : ((l.length : Int) == 0) = false := by rw [beq_eq_false_iff_ne]; omega
  have ROW := Lib.hid hR
  have HB : Hid (Below w.heap.size w w) := Lib.hid (Below.refl _ _)
  clear hR
  go_enter Tryd.func9, Tryd.ntmps9
  go_wp2
  go_loopw [7, 8] (fun v i wr => ∃ (k : Nat) (ts : List Ts), k ≤ l.length ∧ (k : Int) ≤ M ∧ i = .int .i64 k ∧ SetIn w.heap.size wr v k ts ∧ Hid (SFs ts) ∧ Lt w wr) (fun _ i _ => 8 - (intOf i).toNat)
  case atStart => exact ⟨0, [], Nat.zero_le _, by omega, rfl, SetIn.nil _ _, Lib.hid (fun i x h => by simp at h), Below.refl _ _⟩
  case round =>
    obtain ⟨k, ts, hk, hkM, rfl, hI, hsf, hL⟩ := hrel
    have hk8 : k ≤ 8 := by omega
    by_cases hgo : k < l.length ∧ (k : Int) < M
    · obtain ⟨hlt, h8⟩ := hgo
      obtain ⟨b, o, x, rfl, hx, hxw, hbl, hT⟩ := ROW.out.get hlt
      have hTr := hT.later hL
      have s0 := hTr.c0
      have s1 := hTr.c1
      have s2 := hTr.c2
      have s3 := hTr.c3
      have s4 := hTr.c4
      have hi0 : (0 : Int) ≤ (k : Int) := by omega
      have hi1 : (k : Int) < ((l.length : Nat) : Int) := by omega
      have HXW := Lib.hid hxw
      clear hT hTr hx hxw hbl
      go_upto_region 8 with (go_at_call 19; refine (rrest_ex _ _ _ HXW.out.c (by omega) (by omega)).mono ?_; rintro e w' ⟨rc, rfl, rc0, rc1, rfl⟩)
      go_upto_region 9 with (go_at_call 19; refine (rrest_ex _ _ _ HXW.out.d (by omega) (by omega)).mono ?_; rintro e w' ⟨rd, rfl, rd0, rd1, rfl⟩)
      go_upto_region 10 with (go_at_call 19; refine (rrest_ex _ _ _ HXW.out.j (by omega) (by omega)).mono ?_; rintro e w' ⟨rj, rfl, rj0, rj1, rfl⟩)
      go_upto_region 11 with (go_at_call 19; refine (rrest_ex _ _ _ HXW.out.t (by omega) (by omega)).mono ?_; rintro e w' ⟨rt, rfl, rt0, rt1, rfl⟩)
      go_upto_region 12 with (go_at_call 19; refine (rrest_ex _ _ _ HXW.out.q (by omega) (by omega)).mono ?_; rintro e w' ⟨rq, rfl, rq0, rq1, rfl⟩)
      have hcv := fun W => conv_n W (97 + (k : Int)) (by omega) (by omega)
      have hwr : IntKind.u8.wrap (97 + (k : Int)) = 97 + (k : Int) := by rw [IntKind.wrap_u8]; omega
      obtain ⟨nm, hnm, hnms⟩ : ∃ nm, ({ data := #[116] } : ByteArray) ++ chr (97 + (k : Int)) = nm ∧ nm.size ≤ 10 := ⟨_, rfl, by rw [ByteArray.size_append, chr_size]; decide⟩
      have hnk := Lib.hid (hnm.symm.trans (name_of k))
      have hseven := seven_new (wr.alloc (.cells #[.int .u8 (97 + (k : Int))] 5)) ⟨nm, 1 + rc, 1 + rc + rd + rt, 1 + rc + rd, rj, 1 + rq, 0⟩
      rw [World.size_alloc] at hseven
      have HI := Lib.hid hI
      have HL := Lib.hid hL
      have H7 := Lib.hid hseven
      clear hseven hI hL s0 s1 s2 s3 s4
      go_wp2_with (at_builtin; refine wpList_append_own _ rfl _ _ 23 rfl w.heap.size 35 i0 _ 7 64 Tryd.underlying23 hi hz0 hz1 hz2 rfl (by decide) _ _ _ rfl ((HI.out.row.alloc _).alloc _) ⟨wr.heap.size + 1, 0, none⟩ 1 1 (tsL ⟨nm, 1 + rc, 1 + rc + rd + rt, 1 + rc + rd, rj, 1 + rq, 0⟩) rfl rfl H7.out (tsL_one _) (by unfold maxLen; omega) (by omega) (by have := Below.size HL.out; simp; omega) ?_; intro v' w4 hown' hgrow hnil')
      go_roundw
      case rel =>
        have hb0 := Below.size HL.out
        refine ⟨k + 1, ts ++ [⟨nm, 1 + rc, 1 + rc + rd + rt, 1 + rc + rd, rj, 1 + rq, 0⟩], by omega, by omega, by go_num, ⟨by simp [HI.out.len], fun y hy => ?_, by rw [tsCells_snoc]; exact hown'⟩, Lib.hid (hsf.out.snoc HI.out.len ⟨hnk.out, by show 1 ≤ 1 + rc; omega, by show 1 + rc ≤ 4; omega, by show 1 + rc + rj ≤ 1 + rc + rd; omega, by show 1 + rc + rd ≤ 14; omega, by show 0 ≤ rj; omega, by show 1 + rc + rd ≤ 1 + rc + rd + rt; omega, by show 1 + rc + rd + rt ≤ 20; omega, by show 1 ≤ 1 + rq; omega, by show 1 + rq ≤ 1 + rc; omega⟩), ?_⟩
        · rcases List.mem_append.1 hy with hy | hy
          · exact HI.out.wf y hy
          · obtain rfl := List.mem_singleton.1 hy
            exact ⟨by show nm.size ≤ _; omega, ⟨by show _ ≤ 1 + rc; omega, by show 1 + rc ≤ _; omega⟩, ⟨by show _ ≤ 1 + rc + rd + rt; omega, by show 1 + rc + rd + rt ≤ _; omega⟩, ⟨by show _ ≤ 1 + rc + rd; omega, by show 1 + rc + rd ≤ _; omega⟩, ⟨by show _ ≤ rj; omega, by show rj ≤ _; omega⟩, ⟨by show _ ≤ 1 + rq; omega, by show 1 + rq ≤ _; omega⟩, by show in64 0; unfold in64; omega⟩
        · exact ((((Below.refl w.heap.size w).trans HL.out).alloc hb0 _).alloc (by simp; omega) _).grown hgrow (by simp; omega) (fun q hq => (HI.out.row.lt q hq).1)
      case measure => simp [intOf]; omega
    · have hk1 : 1 ≤ k := by omega
      have HSF := hsf
      clear hsf
      obtain ⟨g, cap2, rfl, hO⟩ := hI.own (by omega)
      have TN := Lib.hid (fun w => turns_any k turn w ht hk1 hk8)
      have RN := fun w => rrest_any turn k w ht (by omega) (by omega)
      obtain ⟨r0, r1⟩ := restI_bd turn k (by omega) (by omega)
      have hti := turnsI_is k turn hk1
      obtain ⟨r, hr⟩ : ∃ r : Nat, restI turn k = (r : Int) := ⟨(restI turn k).toNat, by omega⟩
      rw [hr] at RN r0 r1
      have RN := Lib.hid RN
      generalize turnsI k turn = τ at *
      have hτ : τ ≤ 8 := by omega
      have HTI := Lib.hid hti
      have HLEN := Lib.hid hI.len
      have HO0 := Lib.hid hO
      have HL0 := Lib.hid hL
      clear hr hti hI hO hL
      by_cases hl : k < l.length
      · have g1 : decide ((k : Int) < ((l.length : Nat) : Int)) = true := decide_eq_true (by omega)
        have g2 : decide ((k : Int) < M) = false := decide_eq_false (by omega)
        clear hgo
        go_wp2
        go_loopw [15] (fun i wr2 => ∃ (m : Nat) (ts2 : List Ts), m ≤ k ∧ i = .int .i64 m ∧ OwnT w.heap.size wr2 g cap2 ts2 ∧ ts2.length = k ∧ Hid (SFs ts2) ∧ Hid (∀ (i : Nat) (x : Ts), ts2[i]? = some x → i < m → x.p = 1 + ((i : Int) * (τ : Int) + (r : Int)) % ((k : Nat) : Int)) ∧ Lt w wr2) (fun i _ => k - (intOf i).toNat)
        case atStart => exact ⟨0, ts, Nat.zero_le _, rfl, HO0.out, HLEN.out, HSF, Lib.hid (fun i x _ h => absurd h (by omega)), HL0.out⟩
        case round =>
          obtain ⟨m, ts2, hm, rfl, hO2, hl2, hsf2, hq, hL2⟩ := hrel
          by_cases hmk : m < k
          · obtain ⟨x, hx⟩ : ∃ x, ts2[m]? = some x := ⟨ts2[m], List.getElem?_eq_getElem (by omega)⟩
            have c6 := (hO2.at_ m x hx).c6
            have fz := hO2.fz (m * 7 + 6)
            have hi0 : (0 : Int) ≤ (m : Int) := by omega
            have hi1 : (m : Int) < ((k : Nat) : Int) := by omega
            have hkz : (0 : Int) < ((k : Nat) : Int) := by omega
            have hmul : ((m * τ : Nat) : Int) = (m : Int) * (τ : Int) := Int.natCast_mul m τ
            have hmm : m * τ ≤ 8 * 8 := Nat.mul_le_mul (by omega) hτ
            have hm0 : (0 : Int) ≤ (m : Int) * (τ : Int) := by rw [← hmul]; omega
            have hm1 : (m : Int) * (τ : Int) ≤ 64 := by rw [← hmul]; omega
            have hp0 : 0 ≤ ((m : Int) * (τ : Int) + (r : Int)) % ((k : Nat) : Int) := Int.emod_nonneg _ (by omega)
            have hp1 : ((m : Int) * (τ : Int) + (r : Int)) % ((k : Nat) : Int) < ((k : Nat) : Int) := Int.emod_lt_of_pos _ hkz
            have HX := Lib.hid hx
            have HO2 := Lib.hid hO2
            have HL2 := Lib.hid hL2
            have HLL := Lib.hid hl2
            clear hmul hmm hx hO2 hL2 hl2 hp0 hp1
            go_wp2_with (first
              | (go_at_call 20; (with_reducible refine (TN.out _).mono ?_); rintro e w' ⟨rfl, rfl⟩)
              | (go_at_call 19; (with_reducible refine (RN.out _).mono ?_); rintro e w' ⟨rfl, rfl⟩))
            go_roundw
            case rel =>
              have hp0 : 0 ≤ ((m : Int) * (τ : Int) + (r : Int)) % ((k : Nat) : Int) := Int.emod_nonneg _ (by omega)
              have hp1 : ((m : Int) * (τ : Int) + (r : Int)) % ((k : Nat) : Int) < ((k : Nat) : Int) := Int.emod_lt_of_pos _ (by omega)
              refine ⟨m + 1, ts2.set m { x with p := 1 + ((m : Int) * (τ : Int) + (r : Int)) % ((k : Nat) : Int) }, by omega, by go_num, (by rw [wrap_p _ hp0 hp1 hk8]; exact HO2.out.setP HX.out _ (in64_p _ hp0 hp1 hk8)), by rw [List.length_set]; exact HLL.out, Lib.hid (hsf2.out.setP HX.out _), Lib.hid (fun i y hy hi => ?_), setCell_own HL2.out HO2.out.hB _⟩
              by_cases e : m = i
              · subst e
                rw [List.getElem?_set_self (by rw [HLL.out]; omega)] at hy
                cases hy
                rfl
              · rw [List.getElem?_set_ne e] at hy
                exact hq.out i y hy (by omega)
            case measure => simp [intOf]; omega
          · obtain rfl : m = k := by omega
            have HL2 := Lib.hid hL2
            have HO2 := Lib.hid hO2
            have HLL := Lib.hid hl2
            clear hL2 hO2 hl2
            go_wp2
            go_ret
            refine ⟨_, cap2, ts2, by rw [HLL.out]; rfl, HO2.out.low (Below.size HB.out), by rw [HLL.out]; omega, by rw [HLL.out]; omega, ?_, hsf2.out, ?_, Below.trans HB.out (Below.mono HL2.out (Below.size HB.out))⟩
            · exact dist_of (by omega) hk8 (by omega) HTI.out HLL.out (fun i x hx => hq.out i x hx (by have := (List.getElem?_eq_some_iff.1 hx).1; rw [HLL.out] at this; exact this))
            · exact p_bd (by omega) hk8 (fun i x hx => hq.out i x hx (by have := (List.getElem?_eq_some_iff.1 hx).1; rw [HLL.out] at this; exact this))
      · have g1 : decide ((k : Int) < ((l.length : Nat) : Int)) = false := decide_eq_false (by omega)
        clear hgo
        go_wp2
        go_loopw [15] (fun i wr2 => ∃ (m : Nat) (ts2 : List Ts), m ≤ k ∧ i = .int .i64 m ∧ OwnT w.heap.size wr2 g cap2 ts2 ∧ ts2.length = k ∧ Hid (SFs ts2) ∧ Hid (∀ (i : Nat) (x : Ts), ts2[i]? = some x → i < m → x.p = 1 + ((i : Int) * (τ : Int) + (r : Int)) % ((k : Nat) : Int)) ∧ Lt w wr2) (fun i _ => k - (intOf i).toNat)
        case atStart => exact ⟨0, ts, Nat.zero_le _, rfl, HO0.out, HLEN.out, HSF, Lib.hid (fun i x _ h => absurd h (by omega)), HL0.out⟩
        case round =>
          obtain ⟨m, ts2, hm, rfl, hO2, hl2, hsf2, hq, hL2⟩ := hrel
          by_cases hmk : m < k
          · obtain ⟨x, hx⟩ : ∃ x, ts2[m]? = some x := ⟨ts2[m], List.getElem?_eq_getElem (by omega)⟩
            have c6 := (hO2.at_ m x hx).c6
            have fz := hO2.fz (m * 7 + 6)
            have hi0 : (0 : Int) ≤ (m : Int) := by omega
            have hi1 : (m : Int) < ((k : Nat) : Int) := by omega
            have hkz : (0 : Int) < ((k : Nat) : Int) := by omega
            have hmul : ((m * τ : Nat) : Int) = (m : Int) * (τ : Int) := Int.natCast_mul m τ
            have hmm : m * τ ≤ 8 * 8 := Nat.mul_le_mul (by omega) hτ
            have hm0 : (0 : Int) ≤ (m : Int) * (τ : Int) := by rw [← hmul]; omega
            have hm1 : (m : Int) * (τ : Int) ≤ 64 := by rw [← hmul]; omega
            have hp0 : 0 ≤ ((m : Int) * (τ : Int) + (r : Int)) % ((k : Nat) : Int) := Int.emod_nonneg _ (by omega)
            have hp1 : ((m : Int) * (τ : Int) + (r : Int)) % ((k : Nat) : Int) < ((k : Nat) : Int) := Int.emod_lt_of_pos _ hkz
            have HX := Lib.hid hx
            have HO2 := Lib.hid hO2
            have HL2 := Lib.hid hL2
            have HLL := Lib.hid hl2
            clear hmul hmm hx hO2 hL2 hl2 hp0 hp1
            go_wp2_with (first
              | (go_at_call 20; (with_reducible refine (TN.out _).mono ?_); rintro e w' ⟨rfl, rfl⟩)
              | (go_at_call 19; (with_reducible refine (RN.out _).mono ?_); rintro e w' ⟨rfl, rfl⟩))
            go_roundw
            case rel =>
              have hp0 : 0 ≤ ((m : Int) * (τ : Int) + (r : Int)) % ((k : Nat) : Int) := Int.emod_nonneg _ (by omega)
              have hp1 : ((m : Int) * (τ : Int) + (r : Int)) % ((k : Nat) : Int) < ((k : Nat) : Int) := Int.emod_lt_of_pos _ (by omega)
              refine ⟨m + 1, ts2.set m { x with p := 1 + ((m : Int) * (τ : Int) + (r : Int)) % ((k : Nat) : Int) }, by omega, by go_num, (by rw [wrap_p _ hp0 hp1 hk8]; exact HO2.out.setP HX.out _ (in64_p _ hp0 hp1 hk8)), by rw [List.length_set]; exact HLL.out, Lib.hid (hsf2.out.setP HX.out _), Lib.hid (fun i y hy hi => ?_), setCell_own HL2.out HO2.out.hB _⟩
              by_cases e : m = i
              · subst e
                rw [List.getElem?_set_self (by rw [HLL.out]; omega)] at hy
                cases hy
                rfl
              · rw [List.getElem?_set_ne e] at hy
                exact hq.out i y hy (by omega)
            case measure => simp [intOf]; omega
          · obtain rfl : m = k := by omega
            have HL2 := Lib.hid hL2
            have HO2 := Lib.hid hO2
            have HLL := Lib.hid hl2
            clear hL2 hO2 hl2
            go_wp2
            go_ret
            refine ⟨_, cap2, ts2, by rw [HLL.out]; rfl, HO2.out.low (Below.size HB.out), by rw [HLL.out]; omega, by rw [HLL.out]; omega, ?_, hsf2.out, ?_, Below.trans HB.out (Below.mono HL2.out (Below.size HB.out))⟩
            · exact dist_of (by omega) hk8 (by omega) HTI.out HLL.out (fun i x hx => hq.out i x hx (by have := (List.getElem?_eq_some_iff.1 hx).1; rw [HLL.out] at this; exact this))
            · exact p_bd (by omega) hk8 (fun i x hx => hq.out i x hx (by have := (List.getElem?_eq_some_iff.1 hx).1; rw [HLL.out] at this; exact this))

set_option maxRecDepth 100000 in
set_option maxHeartbeats 8000000 in
theorem seto_none (M : Int) (hM1 : 1 ≤ M) (hM8 : M ≤ 8) (A : Option Addr) (cap : Nat) (turn : Int) (w : World) (ht : in64 turn) :
    Calls Tryd.prog 9 #[.slice A 0 cap, .int .i64 M, .int .i64 turn] w (SetPostO M w) := by
  obtain ⟨i0, hi, hz0, hz1, hz2⟩ := info_parts infoTs
  obtain ⟨W0, hW0, hR, hB⟩ : ∃ W0, w.alloc (.cells #[.int .i64 turn, .int .i64 0, .int .i64 0, .int .i64 0, .int .i64 0] 47) = W0 ∧ SRow W0 (some ⟨w.heap.size, 0, none⟩) 1 [⟨turn, 0, 0, 0, 0⟩] ∧ Below w.heap.size w W0 := by
    refine ⟨_, rfl, ⟨by simp, by omega, fun x hx => ?_, fun i x hx => ?_⟩, (Below.refl _ _).alloc (Nat.le_refl _) _⟩
    · obtain rfl := List.mem_singleton.1 hx
      exact ⟨ht, by show in64 0; unfold in64; omega, by show in64 0; unfold in64; omega, by show in64 0; unfold in64; omega, by show in64 0; unfold in64; omega⟩
    · have hi : i = 0 := by
        have := (List.getElem?_eq_some_iff.1 hx).1
        simp at this
        exact this
      subst hi
      obtain rfl : (⟨turn, 0, 0, 0, 0⟩ : Sp) = x := by simpa using hx
      refine ⟨_, _, rfl, ⟨fun j v hv => ?_⟩⟩
      rw [cell_of_row _ _ _ _ _ _ (heap_alloc_new w _)]
      simpa [spL] using hv
  have HW := Lib.hid hW0
  have ROW := Lib.hid hR
  have HB := Lib.hid hB
  clear hW0 hR hB
  go_enter Tryd.func9, Tryd.ntmps9
  go_upto_region 4 with (fail)
  rw [HW.out]
  generalize (some ⟨w.heap.size, 0, none⟩ : Option Addr) = A2 at *
  have hmx : 1 ≤ 9223372036854775807 := by omega
  go_wp2
  go_loopw [7, 8] (fun v i wr => ∃ (k : Nat) (ts : List Ts), k ≤ 1 ∧ (k : Int) ≤ M ∧ i = .int .i64 k ∧ SetIn W0.heap.size wr v k ts ∧ Hid (SFs ts) ∧ Lt W0 wr) (fun _ i _ => 8 - (intOf i).toNat)
  case atStart => exact ⟨0, [], Nat.zero_le _, by omega, rfl, SetIn.nil _ _, Lib.hid (fun i x h => by simp at h), Below.refl _ _⟩
  case round =>
    obtain ⟨k, ts, hk, hkM, rfl, hI, hsf, hL⟩ := hrel
    have hk8 : k ≤ 8 := by omega
    by_cases hgo : k < 1 ∧ (k : Int) < M
    · obtain ⟨hlt, h8⟩ := hgo
      obtain ⟨b, o, x, rfl, hx, hxw, hbl, hT⟩ := ROW.out.get hlt
      have hTr := hT.later hL
      have s0 := hTr.c0
      have s1 := hTr.c1
      have s2 := hTr.c2
      have s3 := hTr.c3
      have s4 := hTr.c4
      have hi0 : (0 : Int) ≤ (k : Int) := by omega
      have hi1 : (k : Int) < ((1 : Nat) : Int) := by omega
      have HXW := Lib.hid hxw
      clear hT hTr hx hxw hbl
      go_upto_region 8 with (go_at_call 19; refine (rrest_ex _ _ _ HXW.out.c (by omega) (by omega)).mono ?_; rintro e w' ⟨rc, rfl, rc0, rc1, rfl⟩)
      go_upto_region 9 with (go_at_call 19; refine (rrest_ex _ _ _ HXW.out.d (by omega) (by omega)).mono ?_; rintro e w' ⟨rd, rfl, rd0, rd1, rfl⟩)
      go_upto_region 10 with (go_at_call 19; refine (rrest_ex _ _ _ HXW.out.j (by omega) (by omega)).mono ?_; rintro e w' ⟨rj, rfl, rj0, rj1, rfl⟩)
      go_upto_region 11 with (go_at_call 19; refine (rrest_ex _ _ _ HXW.out.t (by omega) (by omega)).mono ?_; rintro e w' ⟨rt, rfl, rt0, rt1, rfl⟩)
      go_upto_region 12 with (go_at_call 19; refine (rrest_ex _ _ _ HXW.out.q (by omega) (by omega)).mono ?_; rintro e w' ⟨rq, rfl, rq0, rq1, rfl⟩)
      have hcv := fun W => conv_n W (97 + (k : Int)) (by omega) (by omega)
      have hwr : IntKind.u8.wrap (97 + (k : Int)) = 97 + (k : Int) := by rw [IntKind.wrap_u8]; omega
      obtain ⟨nm, hnm, hnms⟩ : ∃ nm, ({ data := #[116] } : ByteArray) ++ chr (97 + (k : Int)) = nm ∧ nm.size ≤ 10 := ⟨_, rfl, by rw [ByteArray.size_append, chr_size]; decide⟩
      have hnk := Lib.hid (hnm.symm.trans (name_of k))
      have hseven := seven_new (wr.alloc (.cells #[.int .u8 (97 + (k : Int))] 5)) ⟨nm, 1 + rc, 1 + rc + rd + rt, 1 + rc + rd, rj, 1 + rq, 0⟩
      rw [World.size_alloc] at hseven
      have HI := Lib.hid hI
      have HL := Lib.hid hL
      have H7 := Lib.hid hseven
      clear hseven hI hL s0 s1 s2 s3 s4
      go_wp2_with (at_builtin; refine wpList_append_own _ rfl _ _ 23 rfl W0.heap.size 35 i0 _ 7 64 Tryd.underlying23 hi hz0 hz1 hz2 rfl (by decide) _ _ _ rfl ((HI.out.row.alloc _).alloc _) ⟨wr.heap.size + 1, 0, none⟩ 1 1 (tsL ⟨nm, 1 + rc, 1 + rc + rd + rt, 1 + rc + rd, rj, 1 + rq, 0⟩) rfl rfl H7.out (tsL_one _) (by unfold maxLen; omega) (by omega) (by have := Below.size HL.out; simp; omega) ?_; intro v' w4 hown' hgrow hnil')
      go_roundw
      case rel =>
        have hb0 := Below.size HL.out
        refine ⟨k + 1, ts ++ [⟨nm, 1 + rc, 1 + rc + rd + rt, 1 + rc + rd, rj, 1 + rq, 0⟩], by omega, by omega, by go_num, ⟨by simp [HI.out.len], fun y hy => ?_, by rw [tsCells_snoc]; exact hown'⟩, Lib.hid (hsf.out.snoc HI.out.len ⟨hnk.out, by show 1 ≤ 1 + rc; omega, by show 1 + rc ≤ 4; omega, by show 1 + rc + rj ≤ 1 + rc + rd; omega, by show 1 + rc + rd ≤ 14; omega, by show 0 ≤ rj; omega, by show 1 + rc + rd ≤ 1 + rc + rd + rt; omega, by show 1 + rc + rd + rt ≤ 20; omega, by show 1 ≤ 1 + rq; omega, by show 1 + rq ≤ 1 + rc; omega⟩), ?_⟩
        · rcases List.mem_append.1 hy with hy | hy
          · exact HI.out.wf y hy
          · obtain rfl := List.mem_singleton.1 hy
            exact ⟨by show nm.size ≤ _; omega, ⟨by show _ ≤ 1 + rc; omega, by show 1 + rc ≤ _; omega⟩, ⟨by show _ ≤ 1 + rc + rd + rt; omega, by show 1 + rc + rd + rt ≤ _; omega⟩, ⟨by show _ ≤ 1 + rc + rd; omega, by show 1 + rc + rd ≤ _; omega⟩, ⟨by show _ ≤ rj; omega, by show rj ≤ _; omega⟩, ⟨by show _ ≤ 1 + rq; omega, by show 1 + rq ≤ _; omega⟩, by show in64 0; unfold in64; omega⟩
        · exact ((((Below.refl W0.heap.size W0).trans HL.out).alloc hb0 _).alloc (by simp; omega) _).grown hgrow (by simp; omega) (fun q hq => (HI.out.row.lt q hq).1)
      case measure => simp [intOf]; omega
    · have hk1 : 1 ≤ k := by omega
      have HSF := hsf
      clear hsf
      obtain ⟨g, cap2, rfl, hO⟩ := hI.own (by omega)
      have TN := Lib.hid (fun w => turns_any k turn w ht hk1 hk8)
      have RN := fun w => rrest_any turn k w ht (by omega) (by omega)
      obtain ⟨r0, r1⟩ := restI_bd turn k (by omega) (by omega)
      have hti := turnsI_is k turn hk1
      obtain ⟨r, hr⟩ : ∃ r : Nat, restI turn k = (r : Int) := ⟨(restI turn k).toNat, by omega⟩
      rw [hr] at RN r0 r1
      have RN := Lib.hid RN
      generalize turnsI k turn = τ at *
      have hτ : τ ≤ 8 := by omega
      have HTI := Lib.hid hti
      have HLEN := Lib.hid hI.len
      have HO0 := Lib.hid hO
      have HL0 := Lib.hid hL
      clear hr hti hI hO hL
      have hl : ¬ k < 1 := by omega
      · have g1 : decide ((k : Int) < ((1 : Nat) : Int)) = false := decide_eq_false (by omega)
        clear hgo
        go_wp2
        go_loopw [15] (fun i wr2 => ∃ (m : Nat) (ts2 : List Ts), m ≤ k ∧ i = .int .i64 m ∧ OwnT W0.heap.size wr2 g cap2 ts2 ∧ ts2.length = k ∧ Hid (SFs ts2) ∧ Hid (∀ (i : Nat) (x : Ts), ts2[i]? = some x → i < m → x.p = 1 + ((i : Int) * (τ : Int) + (r : Int)) % ((k : Nat) : Int)) ∧ Lt W0 wr2) (fun i _ => k - (intOf i).toNat)
        case atStart => exact ⟨0, ts, Nat.zero_le _, rfl, HO0.out, HLEN.out, HSF, Lib.hid (fun i x _ h => absurd h (by omega)), HL0.out⟩
        case round =>
          obtain ⟨m, ts2, hm, rfl, hO2, hl2, hsf2, hq, hL2⟩ := hrel
          by_cases hmk : m < k
          · obtain ⟨x, hx⟩ : ∃ x, ts2[m]? = some x := ⟨ts2[m], List.getElem?_eq_getElem (by omega)⟩
            have c6 := (hO2.at_ m x hx).c6
            have fz := hO2.fz (m * 7 + 6)
            have hi0 : (0 : Int) ≤ (m : Int) := by omega
            have hi1 : (m : Int) < ((k : Nat) : Int) := by omega
            have hkz : (0 : Int) < ((k : Nat) : Int) := by omega
            have hmul : ((m * τ : Nat) : Int) = (m : Int) * (τ : Int) := Int.natCast_mul m τ
            have hmm : m * τ ≤ 8 * 8 := Nat.mul_le_mul (by omega) hτ
            have hm0 : (0 : Int) ≤ (m : Int) * (τ : Int) := by rw [← hmul]; omega
            have hm1 : (m : Int) * (τ : Int) ≤ 64 := by rw [← hmul]; omega
            have hp0 : 0 ≤ ((m : Int) * (τ : Int) + (r : Int)) % ((k : Nat) : Int) := Int.emod_nonneg _ (by omega)
            have hp1 : ((m : Int) * (τ : Int) + (r : Int)) % ((k : Nat) : Int) < ((k : Nat) : Int) := Int.emod_lt_of_pos _ hkz
            have HX := Lib.hid hx
            have HO2 := Lib.hid hO2
            have HL2 := Lib.hid hL2
            have HLL := Lib.hid hl2
            clear hmul hmm hx hO2 hL2 hl2 hp0 hp1
            go_wp2_with (first
              | (go_at_call 20; (with_reducible refine (TN.out _).mono ?_); rintro e w' ⟨rfl, rfl⟩)
              | (go_at_call 19; (with_reducible refine (RN.out _).mono ?_); rintro e w' ⟨rfl, rfl⟩))
            go_roundw
            case rel =>
              have hp0 : 0 ≤ ((m : Int) * (τ : Int) + (r : Int)) % ((k : Nat) : Int) := Int.emod_nonneg _ (by omega)
              have hp1 : ((m : Int) * (τ : Int) + (r : Int)) % ((k : Nat) : Int) < ((k : Nat) : Int) := Int.emod_lt_of_pos _ (by omega)
              refine ⟨m + 1, ts2.set m { x with p := 1 + ((m : Int) * (τ : Int) + (r : Int)) % ((k : Nat) : Int) }, by omega, by go_num, (by rw [wrap_p _ hp0 hp1 hk8]; exact HO2.out.setP HX.out _ (in64_p _ hp0 hp1 hk8)), by rw [List.length_set]; exact HLL.out, Lib.hid (hsf2.out.setP HX.out _), Lib.hid (fun i y hy hi => ?_), setCell_own HL2.out HO2.out.hB _⟩
              by_cases e : m = i
              · subst e
                rw [List.getElem?_set_self (by rw [HLL.out]; omega)] at hy
                cases hy
                rfl
              · rw [List.getElem?_set_ne e] at hy
                exact hq.out i y hy (by omega)
            case measure => simp [intOf]; omega
          · obtain rfl : m = k := by omega
            have HL2 := Lib.hid hL2
            have HO2 := Lib.hid hO2
            have HLL := Lib.hid hl2
            clear hL2 hO2 hl2
            go_wp2
            go_ret
            refine ⟨_, cap2, ts2, by rw [HLL.out]; rfl, HO2.out.low (Below.size HB.out), by rw [HLL.out]; omega, by rw [HLL.out]; omega, ?_, hsf2.out, ?_, Below.trans HB.out (Below.mono HL2.out (Below.size HB.out))⟩
            · exact dist_of (by omega) hk8 (by omega) HTI.out HLL.out (fun i x hx => hq.out i x hx (by have := (List.getElem?_eq_some_iff.1 hx).1; rw [HLL.out] at this; exact this))
            · exact p_bd (by omega) hk8 (fun i x hx => hq.out i x hx (by have := (List.getElem?_eq_some_iff.1 hx).1; rw [HLL.out] at this; exact this))

theorem seto_any (M : Int) (hM1 : 1 ≤ M) (hM8 : M ≤ 8) (A : Option Addr) (cap : Nat) (l : List Sp) (turn : Int) (w : World) (hR : SRow w A cap l) (ht : in64 turn) :
    Calls Tryd.prog 9 #[.slice A l.length cap, .int .i64 M, .int .i64 turn] w (SetPostO M w) := by
  by_cases h0 : l.length = 0
  · rw [h0]; exact seto_none M hM1 hM8 A cap turn w ht
  · exact seto_some M hM1 hM8 A cap l turn w hR ht h0
end Go.Proofs.YtnhddnldebdmbaaDoor
/- A row of tasks that is stored to, one field at a time. -/
namespace Go.Proofs.YtnhddnldebdmbaaDoor
open Go.RowKit
set_option linter.unusedVariables false
set_option linter.unusedSimpArgs false
theorem OwnT.setF {B : Nat} {w : World} {g cap : Nat} {ts : List Ts} (h : OwnT B w g cap ts) {k : Nat} {x y : Ts} (hx : ts[k]? = some x) (hy : TsW y) (f : Nat) (u : Value) (hf : f < 7) (hu : tsL y = (tsL x).set f u) :
    OwnT B (w.setCell ⟨g, k * 7 + f, none⟩ u) g cap (ts.set k y) := by
  have hkl : k < ts.length := (List.getElem?_eq_some_iff.1 hx).1
  refine ⟨h.hB, by simp; exact h.lt, fun i => by simp [h.fz], by rw [List.length_set]; exact h.le, h.mx, fun z hz => ?_, fun i z hz => ⟨fun j v hv => ?_⟩⟩
  · rcases List.mem_or_eq_of_mem_set hz with hz | rfl
    · exact h.wf z hz
    · exact hy
  · have hj : j < 7 := by
      rcases Nat.lt_or_ge j 7 with h | h
      · exact h
      · rw [List.getElem?_eq_none (by simp [tsL]; omega)] at hv; cases hv
    by_cases hik : k = i
    · subst hik
      rw [List.getElem?_set_self hkl] at hz
      obtain rfl : y = z := by simpa using hz
      have hc := (h.at_ k x hx).r
      rw [hu] at hv
      by_cases hj6 : f = j
      · subst hj6
        rw [List.getElem?_set_self (by simp [tsL]; omega)] at hv
        obtain rfl : u = v := by simpa using hv
        obtain ⟨c, hcc⟩ : ∃ c, (tsL x)[f]? = some c := ⟨_, List.getElem?_eq_getElem (by simp [tsL]; omega)⟩
        exact World.cell?_setCell_same _ _ _ (hc f c hcc)
      · rw [List.getElem?_set_ne hj6] at hv
        rw [World.cell?_setCell_other _ _ _ _ (by intro e; have := congrArg Addr.off e; simp only at this; omega)]
        exact hc j v hv
    · rw [List.getElem?_set_ne hik] at hz
      rw [World.cell?_setCell_other _ _ _ _ (by intro e; have := congrArg Addr.off e; simp only at this; omega)]
      exact (h.at_ i z hz).r j v hv
theorem OwnT.later {B : Nat} {w w' : World} {g cap : Nat} {ts : List Ts} (h : OwnT B w g cap ts) (hb : Below w.heap.size w w') : OwnT B w' g cap ts :=
  ⟨h.hB, Nat.lt_of_lt_of_le h.lt hb.size, fun i => (hb.frozen (p := ⟨g, i, none⟩) h.lt).trans (h.fz i), h.le, h.mx, h.wf, fun i x hx => (h.at_ i x hx).later hb⟩
theorem OwnT.below {B D : Nat} {w w' : World} {g cap : Nat} {ts : List Ts} (h : OwnT B w g cap ts) (hb : Below D w w') (hg : g < D) : OwnT B w' g cap ts :=
  ⟨h.hB, Nat.lt_of_lt_of_le h.lt hb.size, fun i => (hb.frozen (p := ⟨g, i, none⟩) hg).trans (h.fz i), h.le, h.mx, h.wf, fun i x hx => (h.at_ i x hx).below hb hg⟩
/-- A row further up, behind a store. -/
theorem own_aside2 {W : World} {g o : Nat} (u : Value) {base e size k : Nat} {v : Value} {xs : List Value} (hr : W.ownsRow base e size v k xs) (hB : g < base) : (W.setCell ⟨g, o, none⟩ u).ownsRow base e size v k xs := by
  obtain ⟨h1, h2⟩ := hr
  refine ⟨h1, ?_⟩
  rcases h2 with h2 | ⟨g', cap, cur, hv, hg2, hh, r⟩
  · exact .inl h2
  · subst hv
    exact .inr ⟨g', cap, cur, rfl, hg2, (heap_setCell_other W ⟨g, o, none⟩ g' u (by show g' ≠ g; omega)).trans hh, r⟩
theorem SetIn.aside {B : Nat} {w : World} {v : Value} {k : Nat} {ts : List Ts} (h : SetIn B w v k ts) {g o : Nat} (u : Value) (hg : g < B) : SetIn B (w.setCell ⟨g, o, none⟩ u) v k ts := ⟨h.len, h.wf, own_aside2 u h.row hg⟩
/-! ### The first so many with Q of 1 -/
def mixQ (l : List Ts) (j : Nat) : List Ts := (l.take j).map one1 ++ l.drop j
theorem mixQ_len (l : List Ts) (j : Nat) : (mixQ l j).length = l.length := by unfold mixQ; simp; omega
theorem mixQ_zero (l : List Ts) : mixQ l 0 = l := by simp [mixQ]
theorem mixQ_full (l : List Ts) : mixQ l l.length = l.map one1 := by simp [mixQ]
theorem mixQ_at {l : List Ts} {j : Nat} {x : Ts} (h : l[j]? = some x) : (mixQ l j)[j]? = some x := by
  have hl := (List.getElem?_eq_some_iff.1 h).1
  unfold mixQ
  rw [List.getElem?_append_right (by simp; omega)]
  simp [Nat.min_eq_left (Nat.le_of_lt hl), h]
theorem mixQ_set {l : List Ts} {j : Nat} {x : Ts} (h : l[j]? = some x) : (mixQ l j).set j (one1 x) = mixQ l (j + 1) := by
  obtain ⟨hl, e⟩ := List.getElem?_eq_some_iff.1 h
  unfold mixQ
  rw [List.set_append_right _ _ (by simp; omega)]
  have h1 : j - ((l.take j).map one1).length = 0 := by simp; omega
  rw [h1, List.drop_eq_getElem_cons hl, List.set_cons_zero, List.take_succ_eq_append_getElem hl, List.map_append, e]
  simp
theorem one1_w {x : Ts} (h : TsW x) : TsW (one1 x) := ⟨h.n, h.c, h.t, h.d, h.j, ⟨by show _ ≤ (1 : Int); omega, by show (1 : Int) ≤ _; omega⟩, h.p⟩
theorem OwnT.setQ {B : Nat} {w : World} {g cap : Nat} {ts : List Ts} {j : Nat} {x : Ts} (h : OwnT B w g cap (mixQ ts j)) (hx : ts[j]? = some x) (hw : TsW x) :
    OwnT B (w.setCell ⟨g, j * 7 + 5, none⟩ (.int .i64 1)) g cap (mixQ ts (j + 1)) := by
  rw [← mixQ_set hx]
  exact h.setF (mixQ_at hx) (one1_w hw) 5 _ (by omega) rfl
theorem sclQ_step {k : Int} {l : List Ts} {i : Nat} {x : Ts} (hx : l[i]? = some x) : (l.take (i + 1)).map (sclQ k) = (l.take i).map (sclQ k) ++ [sclQ k x] := by
  obtain ⟨hk, e⟩ := List.getElem?_eq_some_iff.1 hx
  rw [List.take_succ_eq_append_getElem hk, List.map_append, e]
  rfl
end Go.Proofs.YtnhddnldebdmbaaDoor
/- RtaEases: plain words, and a copy of a row of tasks. -/
namespace Go.Proofs.YtnhddnldebdmbaaDoor
open Go.RowKit
set_option linter.unusedVariables false
set_option linter.unusedSimpArgs false
theorem tsCells_inv : ∀ (ts : List Ts) (j : Nat) (u : Value), (tsCells ts)[j]? = some u → ∃ i x r, ts[i]? = some x ∧ (tsL x)[r]? = some u ∧ j = i * 7 + r
  | [], j, u, h => by simp [tsCells] at h
  | a :: ts, j, u, h => by
    rw [tsCells, List.flatMap_cons] at h
    rcases Nat.lt_or_ge j 7 with hj | hj
    · rw [List.getElem?_append_left (by simp [tsL]; omega)] at h
      exact ⟨0, a, j, rfl, h, by omega⟩
    · rw [List.getElem?_append_right (by simp [tsL]; omega)] at h
      obtain ⟨i, x, r, h1, h2, h3⟩ := tsCells_inv ts _ u h
      exact ⟨i + 1, x, r, by simpa using h1, h2, by simp [tsL] at h3; omega⟩
theorem tsCells_len : ∀ ts : List Ts, (tsCells ts).length = ts.length * 7
  | [] => rfl
  | a :: ts => by
    have := tsCells_len ts
    rw [tsCells, List.flatMap_cons, List.length_append, List.length_cons]
    unfold tsCells at this
    rw [this]
    simp [tsL]; omega
theorem tsCells_one (ts : List Ts) : ∀ u ∈ tsCells ts, u.oneCell' = true := fun u hu => by
  obtain ⟨x, _, hx⟩ := List.mem_flatMap.1 hu
  exact tsL_one x u hx
theorem Row.cells {w : World} {b o cap : Nat} {ts : List Ts} (h : Row w (some ⟨b, o, none⟩) cap ts) : ∀ j u, (tsCells ts)[j]? = some u → w.cell? ((⟨b, o, none⟩ : Addr).add j) = some u := by
  intro j u hu
  obtain ⟨i, x, r, h1, h2, rfl⟩ := tsCells_inv ts j u hu
  rw [add_none, ← Nat.add_assoc]
  exact (h.at2 h1).r r u h2
/-- What a task may be turned to. -/
structure Eas4 (y' y : Ts) : Prop where
  e : Eas1 y' y
  d : y'.d = y.d
  n : y'.n = y.n
  chk : checkE y' = 0
theorem check_of {y y' : Ts} {i : Nat} (h : SF i y) (hi : i < 8) (h1 : 1 ≤ y.p) (h2 : y.p ≤ 8) (en : y'.n = y.n) (ep : y'.p = y.p) (c0 : 1 ≤ y'.c) (cd : y'.c + y'.j ≤ y'.d) (dt : y'.d ≤ y'.t) (t1 : y'.t ≤ 100) (j0 : 0 ≤ y'.j) (q0 : 1 ≤ y'.q) (qc : y'.q ≤ y'.c) : checkE y' = 0 := by
  have hb := sf_check h hi h1 h2
  have hn : namedB y = true := by
    by_cases hh : (namedB y && rangedB y) = true
    · simp only [Bool.and_eq_true] at hh; exact hh.1
    · rw [checkE, if_neg hh] at hb; omega
  have hn' : namedB y' = true := by unfold namedB at hn ⊢; rw [en]; exact hn
  have hr : rangedB y' = true := by
    show (inB y'.c 1 2147483647 && (inB y'.t 1 2147483647 && (inB y'.d 1 2147483647 && (inB y'.q 1 2147483647 && (inB y'.j 0 2147483647 && inB y'.p 1 1048576))))) = true
    rw [inB_yes (n := y'.c) (by omega), inB_yes (n := y'.t) (by omega), inB_yes (n := y'.d) (by omega), inB_yes (n := y'.q) (by omega), inB_yes (n := y'.j) (by omega), inB_yes (n := y'.p) (by omega)]
    rfl
  have ho : overB y' = false := by
    show decide (y'.q > y'.c ∨ y'.c + y'.j > y'.d ∨ y'.d > y'.t) = false
    exact decide_eq_false (by omega)
  rw [checkE, hn', hr, ho]
  rfl
theorem eas_c {y : Ts} {i : Nat} (h : SF i y) (hi : i < 8) (h1 : 1 ≤ y.p) (h2 : y.p ≤ 8) : Eas4 { y with c := max (y.c - 1) y.q } y := by
  have a1 := h.c0; have a2 := h.c1; have a3 := h.d0; have a4 := h.d1; have a5 := h.j0; have a6 := h.t0; have a7 := h.t1; have a8 := h.q0; have a9 := h.q1
  refine ⟨⟨rfl, ?_, Int.le_refl _, Int.le_refl _, Int.le_refl _⟩, rfl, rfl, check_of h hi h1 h2 rfl rfl ?_ ?_ a6 ?_ a5 a8 ?_⟩
  · show max (y.c - 1) y.q ≤ y.c; omega
  · show 1 ≤ max (y.c - 1) y.q; omega
  · show max (y.c - 1) y.q + y.j ≤ y.d; omega
  · show y.t ≤ 100; omega
  · show y.q ≤ max (y.c - 1) y.q; omega
theorem eas_t {y : Ts} {i : Nat} (h : SF i y) (hi : i < 8) (h1 : 1 ≤ y.p) (h2 : y.p ≤ 8) : Eas4 { y with t := y.t + 1 } y := by
  have a1 := h.c0; have a2 := h.c1; have a3 := h.d0; have a4 := h.d1; have a5 := h.j0; have a6 := h.t0; have a7 := h.t1; have a8 := h.q0; have a9 := h.q1
  refine ⟨⟨rfl, Int.le_refl _, Int.le_refl _, Int.le_refl _, ?_⟩, rfl, rfl, check_of h hi h1 h2 rfl rfl a1 a3 ?_ ?_ a5 a8 a9⟩
  · show y.t ≤ y.t + 1; omega
  · show y.d ≤ y.t + 1; omega
  · show y.t + 1 ≤ 100; omega
theorem eas_q {y : Ts} {i : Nat} (h : SF i y) (hi : i < 8) (h1 : 1 ≤ y.p) (h2 : y.p ≤ 8) : Eas4 { y with q := 1 } y := by
  have a1 := h.c0; have a2 := h.c1; have a3 := h.d0; have a4 := h.d1; have a5 := h.j0; have a6 := h.t0; have a7 := h.t1; have a8 := h.q0; have a9 := h.q1
  exact ⟨⟨rfl, Int.le_refl _, a8, Int.le_refl _, Int.le_refl _⟩, rfl, rfl, check_of h hi h1 h2 rfl rfl a1 a3 a6 (by show y.t ≤ 100; omega) a5 (Int.le_refl _) a1⟩
theorem eas_j {y : Ts} {i : Nat} (h : SF i y) (hi : i < 8) (h1 : 1 ≤ y.p) (h2 : y.p ≤ 8) : Eas4 { y with j := 0 } y := by
  have a1 := h.c0; have a2 := h.c1; have a3 := h.d0; have a4 := h.d1; have a5 := h.j0; have a6 := h.t0; have a7 := h.t1; have a8 := h.q0; have a9 := h.q1
  exact ⟨⟨rfl, Int.le_refl _, Int.le_refl _, a5, Int.le_refl _⟩, rfl, rfl, check_of h hi h1 h2 rfl rfl a1 (by show y.c + 0 ≤ y.d; omega) a6 (by show y.t ≤ 100; omega) (Int.le_refl _) a8 a9⟩
/-- What RtaEases asks. -/
theorem rea_pure {ts : List Ts} (h : St ts) {r : Nat} {y y' : Ts} (hy : ts[r]? = some y) (he : Eas4 y' y) :
    (chkAll (ts.set r y')).2 = 0 ∧ isB (ts.set r y') (r : Int) = true ∧ ∀ k : Nat, k < ts.length → 0 < (boundI ts (k : Int)).1 → 0 < (boundI (ts.set r y') (k : Int)).1 ∧ (boundI (ts.set r y') (k : Int)).1 ≤ (boundI ts (k : Int)).1 := by
  have hr := (List.getElem?_eq_some_iff.1 hy).1
  have h6 := h.n6
  have hself : (ts.set r y')[r]? = some y' := List.getElem?_set_self hr
  have hc : (chkAll (ts.set r y')).2 = 0 := by
    refine chk_alike h List.length_set (fun x hx => ?_) (fun k x' x hx' hx => ?_)
    · rcases List.mem_or_eq_of_mem_set hx with hx | rfl
      · obtain ⟨i, hi, rfl⟩ := List.getElem_of_mem hx
        have hg := List.getElem?_eq_getElem hi
        exact sf_check (h.s i _ hg) (by omega) (h.p i _ hg).1 (h.p i _ hg).2
      · exact he.chk
    · by_cases e : r = k
      · subst e
        rw [hself] at hx'
        rw [hy] at hx
        cases hx'; cases hx
        exact ⟨he.n, he.e.p⟩
      · rw [List.getElem?_set_ne e, hx] at hx'
        cases hx'
        exact ⟨rfl, rfl⟩
  refine ⟨hc, isB_at hc hself, fun k hk h0 => ?_⟩
  have hE := Easy.set he.e ts r hy
  by_cases e : r = k
  · subst e
    exact bound_easy hE h.chk hc hy hself he.e (by rw [he.d]; exact Int.le_refl _) h0
  · have hg := List.getElem?_eq_getElem (l := ts) hk
    exact bound_easy hE h.chk hc hg (by rw [List.getElem?_set_ne e]; exact hg) (Eas1.refl _) (Int.le_refl _) h0
end Go.Proofs.YtnhddnldebdmbaaDoor
/- rta.Bound, rta.Each. -/
namespace Go.Proofs.YtnhddnldebdmbaaDoor
open Go.RowKit Go.Shelf
set_option linter.unusedVariables false
set_option linter.unusedSimpArgs false
attribute [local go_sem] Oper.semAt_some
set_option maxRecDepth 100000 in
theorem rta_bound (A : Option Addr) (cap : Nat) (l : List Ts) (i : Int) (w : World) (hR : Row w A cap l) (hi : in64 i) (hT : Tab w) :
    Calls Tryd.prog 14 #[.slice A l.length cap, .int .i64 i] w fun e w' => e = .returned (.tuple #[.int .i64 (boundI l i).1, .int .i64 (boundI l i).2]) ∧ Below w.heap.size w w' := by
  have K := Lib.hid (rmay_any A cap l i w hR hi)
  cases hb : isB l i
  · rw [hb] at K
    have e : boundI l i = (0, 1) := by unfold boundI; rw [hb]; rfl
    rw [e]
    clear hb e hR
    generalize l.length = N at *
    go_enter Tryd.func14, Tryd.ntmps14
    go_wp2_with (go_at_call 26; (with_reducible refine K.out.mono ?_); rintro e w1 ⟨rfl, h⟩)
    go_ret2
    exact ⟨rfl, h⟩
  · rw [hb] at K
    obtain ⟨k, y, rfl, hk, hy⟩ := isB_get hb
    obtain ⟨b, o, x, rfl, _, _, _, _⟩ := hR.get hk
    have KB := Lib.hid (fun V (h : Below w.heap.size w V) => bound_in b o cap l k y V (hR.later h) (isB_iff hb).1 hy (hT.below h))
    obtain ⟨⟨br, be⟩, hbr⟩ : ∃ p, boundI l (k : Int) = p := ⟨_, rfl⟩
    rw [hbr] at KB ⊢
    simp only at KB ⊢
    clear hb hbr hR hT hy hk
    generalize l.length = N at *
    go_enter Tryd.func14, Tryd.ntmps14
    go_wp2_with (first
      | (go_at_call 26; (with_reducible refine K.out.mono ?_); rintro e w1 ⟨rfl, h⟩; have HL := Lib.hid h; clear h)
      | (go_at_call 27; (with_reducible refine (KB.out _ HL.out).mono ?_); rintro e w2 ⟨rfl, h⟩; have HL2 := Lib.hid (HL.out.trans (h.mono HL.out.size)); clear h)
      | fail)
    go_ret2
    exact ⟨rfl, HL2.out⟩
set_option maxRecDepth 100000 in
set_option maxHeartbeats 4000000 in
/-- A copy of a row of tasks. -/
theorem tclone_any (b o cap : Nat) (l : List Ts) (w : World) (hR : Row w (some ⟨b, o, none⟩) cap l) (h0 : 0 < l.length) (h1 : l.length ≤ 1024) :
    Calls Tryd.prog 34 #[.slice (some ⟨b, o, none⟩) l.length cap] w fun e w' => ∃ g c, e = .returned (.slice (some ⟨g, 0, none⟩) l.length c) ∧ OwnT w.heap.size w' g c l ∧ Below w.heap.size w w' := by
  obtain ⟨if0, hi, hz0, hz1, hz2⟩ := info_parts infoTs
  have hle := hR.le
  have hmx := hR.mx
  have HWT := Lib.hid hR.wf
  have HRR := Lib.hid hR
  obtain ⟨N, hN⟩ : ∃ N, l.length = N := ⟨_, rfl⟩
  have HN := Lib.hid hN
  rw [hN] at h0 h1 hle ⊢
  have hsn : ∀ (a : Addr) (n c : Nat) (w : World), (binOp .eql 23 (.slice (some a) n c) (.slice none 0 0)).run Tryd.prog w = .ok (.bool false) w := fun _ _ _ _ => rfl
  clear hR hN
  go_enter Tryd.func34, Tryd.ntmps34
  go_wp2_with (at_builtin; refine wpList_append_own _ rfl _ _ 23 rfl w.heap.size 35 if0 _ 7 64 Tryd.underlying23 hi hz0 hz1 hz2 rfl (by decide) _ 0 [] rfl (World.ownsRow_made w #[] 0 (Nat.le_refl _) (Nat.zero_le _) (by simp)) ⟨b, o, none⟩ N cap (tsCells l) rfl (by rw [tsCells_len, HN.out]) (HRR.out.later ((Below.refl _ _).alloc (Nat.le_refl _) _)).cells (tsCells_one l) (by unfold maxLen; omega) (by omega) (by simp) ?_; intro v' w4 hown' hgrow hnil')
  go_ret
  have hW4 : Below w.heap.size w w4 := ((Below.refl w.heap.size w).alloc (Nat.le_refl _) _).grown hgrow (by simp) (fun q hq => by cases hq; exact Nat.le_refl _)
  have hI : SetIn w.heap.size w4 v' N l := ⟨HN.out, HWT.out, by simpa using hown'⟩
  obtain ⟨ge, ce, rfl, hO⟩ := hI.own (by omega)
  exact ⟨ge, ce, rfl, hO, hW4⟩
/-- An iterator that tells nothing. -/
theorem none1_seq (n : Nat) (P : Nat → TypeId → Prop) (w : World) : SeqG numU n 33 #[] P [] w := by
  intro lp J Jx W hW hO hOx hY hJ
  refine callsIn_of_wp Tryd.func33 rfl trivial ?_ rfl
  simp only [Tryd.ntmps33, List.size_toArray, List.length_cons, List.length_nil, Nat.reduceAdd, Nat.reduceSub, Array.replicate_succ, Array.replicate_zero, List.push_toArray, List.append_toArray, List.nil_append, List.cons_append]
  gi_wp2
  go_end0
  exact ⟨⟨_, rfl⟩, .inl hJ⟩
def EachP (l : List Ts) (i : Int) (w : World) (e : Ending) (w' : World) : Prop := ∃ (gf : Nat) (lb : Array Value), e = .returned (.func (.func gf) #[] lb) ∧ Below w.heap.size w w' ∧ (∀ args V, (callFunc gf args).run Tryd.prog V = .ok (.enter gf args) V) ∧
  ∀ n, 6 ≤ n → ∀ (N : Nat) (V : World), w'.heap.size ≤ N → Below w'.heap.size w' V → SeqG numU n gf lb (fun k _ => k < N) (eachI l i) V
set_option maxRecDepth 100000 in
set_option maxHeartbeats 4000000 in
theorem rta_each (A : Option Addr) (cap : Nat) (l : List Ts) (i : Int) (w : World) (hR : Row w A cap l) (hi : in64 i) (hT : Tab w) :
    Calls Tryd.prog 23 #[.slice A l.length cap, .int .i64 i] w (EachP l i w) := by
  have K := Lib.hid (rmay_any A cap l i w hR hi)
  cases hb : isB l i
  · rw [hb] at K
    have e : eachI l i = [] := by unfold eachI; rw [hb]; rfl
    unfold EachP
    rw [e]
    clear hb e hR
    generalize l.length = N at *
    go_enter Tryd.func23, Tryd.ntmps23
    go_wp2_with (go_at_call 26; (with_reducible refine K.out.mono ?_); rintro e w1 ⟨rfl, h⟩)
    go_ret
    exact ⟨_, _, rfl, h, enters_of Tryd.func33 (by kernel_rfl) rfl, fun n _ N V _ _ => none1_seq n _ V⟩
  · rw [hb] at K
    obtain ⟨k, y, rfl, hk, hy⟩ := isB_get hb
    obtain ⟨b, o, x, rfl, _, _, _, _⟩ := hR.get hk
    have hc := (isB_iff hb).1
    have hv := (vs_of hc).n1
    have hm := mOf_get hc hy
    have KC := Lib.hid (fun V (h : Below w.heap.size w V) => tclone_any b o cap l V (hR.later h) (by omega) (by omega))
    have KN := Lib.hid (fun g c V (h : OwnT w.heap.size V g c l) (hT : Tab V) => need_any (some ⟨g, 0, none⟩) c l (k : Int) 0 V h.row ⟨by omega, by omega⟩ ⟨by decide, by decide⟩ hT)
    have HTB := Lib.hid (fun V (h : Below w.heap.size w V) => hT.below h)
    have hnu := need_U hc hy (v := 0) ⟨by decide, by decide⟩
    have hnl := leall_zero (need_rises hb) (y.d - y.j)
    have hE : eachI l (k : Int) = eachF (needI l (k : Int)) (y.d - y.j) (mOf l (k : Int) + 1) (needI l (k : Int) 0) := by unfold eachI; rw [hb, if_pos rfl, hm.1]
    obtain ⟨n0, hn0⟩ : ∃ n0, needI l (k : Int) 0 = n0 := ⟨_, rfl⟩
    rw [hn0] at KN hnu hnl hE
    have KNB := Lib.hid (fun A c V => numbers_any A l.length c (k : Int) n0 V)
    have FIN : Hid (∀ (g c : Nat) (W : World), Hid (OwnT w.heap.size W g c l) → Hid (Below w.heap.size w W) → EachP l (k : Int) w (.returned (.func (.func 49) #[] #[.pointer (some ⟨W.heap.size + 2, 0, none⟩), .pointer (some ⟨W.heap.size, 0, none⟩), .pointer (some ⟨W.heap.size + 1, 0, none⟩)])) (nmW (some ⟨g, 0, none⟩) l.length c (k : Int) n0 W)) := Lib.hid (fun g c W hO hB => by
      obtain ⟨m1, m2, m3, m4⟩ := nm_made (k := k) (v := n0) hO.out.row (hT.below hB.out)
      refine ⟨_, _, rfl, hB.out.trans (m3.mono hB.out.size), enters_of Tryd.func49 (by kernel_rfl) rfl, fun n hn N V hN hV => ?_⟩
      rw [hE]
      refine numbers1_seq n (by omega) (some ⟨g, 0, none⟩) c l k y n0 _ _ _ _ V (m1.later hV) (boxed_later2 m2 hV) ⟨fun _ => by omega, fun _ => by omega, fun _ => ?_, fun b' o' e _ => ?_⟩ hc hy hnu hnl _ (by have := hnu.1; omega)
      · have := hT.pos; have := hB.out.size; show _ < N; omega
      · cases e; have := hO.out.lt; show _ < N; omega)
    generalize EachP l (k : Int) w = Q at *
    clear hb hR hT hy hk hc hm hnu hnl hE hn0 hv
    generalize l.length = N at *
    go_enter Tryd.func23, Tryd.ntmps23
    go_wp2_with (first
      | (go_at_call 26; (with_reducible refine K.out.mono ?_); rintro e w1 ⟨rfl, h⟩; have HL := Lib.hid h; clear h)
      | (go_at_call 34; (with_reducible refine (KC.out _ HL.out).mono ?_); rintro e w2 ⟨g, c, rfl, hO, h⟩; have HO := Lib.hid (hO.low (Below.size HL.out)); have HL := Lib.hid (Below.trans HL.out (h.mono (Below.size HL.out))); clear h hO)
      | (go_at_call 15; (with_reducible refine (KN.out _ _ _ HO.out (HTB.out _ HL.out)).mono ?_); rintro e w3 ⟨rfl, h⟩; have HO := Lib.hid (HO.out.later h); have HL := Lib.hid (Below.trans HL.out (h.mono (Below.size HL.out))); clear h)
      | (go_at_call 35; (with_reducible refine (KNB.out _ _ _).mono ?_); rintro e w4 ⟨rfl, rfl⟩)
      | fail)
    exact FIN.out _ _ _ HO HL
end Go.Proofs.YtnhddnldebdmbaaDoor
/- Own rows of numbers read as rows of numbers. -/
namespace Go.Proofs.YtnhddnldebdmbaaDoor
open Go.RowKit
set_option linter.unusedVariables false
theorem irow_own {B : Nat} {w : World} {e : TypeId} {v : Value} {ns : List Int} (h : w.ownsRow B e 1 v ns.length (ns.map (Value.int .i64))) : ∃ A cap, v = .slice A ns.length cap ∧ IRow w A cap ns := by
  obtain ⟨A, cap, hv, hle, hm⟩ := Go.Proofs.YtnhddnldebdmbaaDoor.own_len h
  refine ⟨A, cap, hv, hle, by unfold maxLen at hm; omega, fun k z hz => ?_⟩
  have hk := (List.getElem?_eq_some_iff.1 hz).1
  rcases h.2 with ⟨_, h0⟩ | ⟨g, cap', cur, hv', hB, hh, _⟩
  · omega
  · rw [hv] at hv'
    simp only [Value.slice.injEq] at hv'
    obtain ⟨rfl, _, rfl⟩ := hv'
    have hc := h.cells (g := g) (by rw [hv]; rfl) k (.int .i64 z) (by rw [List.getElem?_map, hz]; rfl)
    rw [add_none, Nat.zero_add] at hc
    exact ⟨g, 0, rfl, (Array.getElem?_eq_some_iff.1 hh).1, by rw [Nat.zero_add]; exact hc⟩
theorem irow_snoc {B : Nat} {w : World} {e : TypeId} {v : Value} {n : Nat} {ns : List Int} {z : Int} (h : w.ownsRow B e 1 v (n + 1) (ns.map (Value.int .i64) ++ [.int .i64 z])) (hn : ns.length = n) : w.ownsRow B e 1 v (ns ++ [z]).length ((ns ++ [z]).map (Value.int .i64)) := by
  rw [List.length_append, List.length_singleton, hn, List.map_append]
  exact h
/-- The bounds, and who has none, one place further. -/
theorem bnds_step (l : List Ts) (n : Nat) : (List.range (n + 1)).map (fun k : Nat => (boundI l (k : Int)).1) = (List.range n).map (fun k : Nat => (boundI l (k : Int)).1) ++ [(boundI l (n : Int)).1] := by
  rw [List.range_succ, List.map_append]; rfl
theorem late_step (l : List Ts) (n : Nat) : ((List.range (n + 1)).filter (fun k : Nat => decide ((boundI l (k : Int)).2 ≠ 0))).map (fun k : Nat => (k : Int)) = ((List.range n).filter (fun k : Nat => decide ((boundI l (k : Int)).2 ≠ 0))).map (fun k : Nat => (k : Int)) ++ (if (boundI l (n : Int)).2 = 0 then [] else [(n : Int)]) := by
  rw [List.range_succ, List.filter_append, List.map_append]
  congr 1
  by_cases h : (boundI l (n : Int)).2 = 0
  · rw [if_pos h]; simp [h]
  · rw [if_neg h]; simp [h]
end Go.Proofs.YtnhddnldebdmbaaDoor
/- rta.All, rta.Tests. -/
namespace Go.Proofs.YtnhddnldebdmbaaDoor
open Go.RowKit
set_option linter.unusedVariables false
set_option linter.unusedSimpArgs false
theorem own_apart {w : World} {B B' : Nat} {e e' : TypeId} {s s' n n' : Nat} {v v' : Value} {xs xs' : List Value} (h : w.ownsRow B e s v n xs) (h' : w.ownsRow B' e' s' v' n' xs') (he : e ≠ e') : v.ownBlock = none ∨ v.ownBlock ≠ v'.ownBlock := by
  rcases h.2 with ⟨rfl, _⟩ | ⟨g, cap, cur, rfl, _, hh, _⟩
  · exact .inl rfl
  · refine .inr fun ee => ?_
    rcases h'.2 with ⟨rfl, _⟩ | ⟨g', cap', cur', rfl, _, hh', _⟩
    · cases ee
    · obtain rfl : g = g' := by simpa [Value.ownBlock] using ee
      rw [hh] at hh'
      cases hh'
      exact he rfl
theorem own_set {w : World} {B e size n i g : Nat} {v : Value} {xs : List Value} (h : w.ownsRow B e size v n xs) (hg : v.ownBlock = some g) (hi : i < n * size) (u : Value) : (w.setCell ⟨g, i, none⟩ u).ownsRow B e size v n (xs.set i u) := by
  obtain ⟨h1, h2⟩ := h
  rcases h2 with ⟨rfl, _⟩ | ⟨g', cap, cur, rfl, hb, hh, hn, hm, hs, ht⟩
  · simp [Value.ownBlock] at hg
  · simp only [Value.ownBlock, Option.some.injEq] at hg
    subst hg
    refine ⟨by rw [List.length_set]; exact h1, .inr ⟨g', cap, cur.setIfInBounds i u, rfl, hb, ?_, hn, hm, by simpa using hs, ?_⟩⟩
    · rw [setCell_eq_setRow w g' i cur e (0, 0) u hh]
      exact setRow_heap w g' cur _ e _ hh
    · rw [Array.toList_setIfInBounds, ← ht, List.take_set]
theorem infoL : (Tryd.prog.info? 2).map (fun i => (i.zero, i.size, i.bytes)) = some (some (.int .i64 0), 1, 8) := by kernel_rfl
theorem infoI : (Tryd.prog.info? 3).map (fun i => (i.zero, i.size, i.bytes)) = some (some (.int .i64 0), 1, 8) := by kernel_rfl
def bL (l : List Ts) (n : Nat) : List Int := (List.range n).map (fun k : Nat => (boundI l (k : Int)).1)
def mL (l : List Ts) (n : Nat) : List Int := ((List.range n).filter (fun k : Nat => decide ((boundI l (k : Int)).2 ≠ 0))).map (fun k : Nat => (k : Int))
theorem bL_len (l : List Ts) (n : Nat) : (bL l n).length = n := by simp [bL]
theorem bL_step (l : List Ts) (n : Nat) : bL l (n + 1) = bL l n ++ [(boundI l (n : Int)).1] := bnds_step l n
theorem mL_hit {l : List Ts} {n : Nat} (h : (boundI l (n : Int)).2 ≠ 0) : mL l (n + 1) = mL l n ++ [(n : Int)] := by
  have := late_step l n; rw [if_neg h] at this; exact this
theorem mL_miss {l : List Ts} {n : Nat} (h : (boundI l (n : Int)).2 = 0) : mL l (n + 1) = mL l n := by
  have := late_step l n; rw [if_pos h, List.append_nil] at this; exact this
theorem mL_le (l : List Ts) (n : Nat) : (mL l n).length ≤ n := by
  unfold mL
  rw [List.length_map]
  exact Nat.le_trans (List.length_filter_le _ _) (by simp)
/-- The bounds so far, and noughts. -/
def bR (l : List Ts) (n N : Nat) : List Int := bL l n ++ List.replicate (N - n) 0
theorem bR_len (l : List Ts) {n N : Nat} (h : n ≤ N) : (bR l n N).length = N := by simp [bR, bL_len]; omega
theorem bR_zero (l : List Ts) (N : Nat) : bR l 0 N = List.replicate N 0 := by simp [bR, bL]
theorem bR_full (l : List Ts) (N : Nat) : bR l N N = bL l N := by simp [bR]
theorem bR_step (l : List Ts) {n N : Nat} (h : n < N) : (bR l n N).set n (boundI l (n : Int)).1 = bR l (n + 1) N := by
  unfold bR
  rw [List.set_append_right _ _ (by rw [bL_len]; exact Nat.le_refl _), bL_len, Nat.sub_self, bL_step, show N - n = N - (n + 1) + 1 by omega, List.replicate_succ, List.set_cons_zero, List.append_assoc]
  rfl
structure AlI (l : List Ts) (w : World) (k N g : Nat) (v8 : Value) (wr : World) : Prop where
  b : w.heap.size ≤ wr.heap.size
  r7 : wr.ownsRow w.heap.size 2 1 (.slice (some ⟨g, 0, none⟩) N N) N ((bR l k N).map (Value.int .i64))
  r8 : wr.ownsRow w.heap.size 3 1 v8 (mL l k).length ((mL l k).map (Value.int .i64))
  bel : Lt w wr
theorem one_newI (W : World) (z : Int) (e : TypeId) : ∀ j u, ([Value.int .i64 z])[j]? = some u → (W.alloc (.cells #[.int .i64 z] e)).cell? ((⟨W.heap.size, 0, none⟩ : Addr).add j) = some u := by
  intro j u hj
  rw [add_none, Nat.zero_add, cell_of_row _ _ j _ _ _ (heap_alloc_new W _)]
  simpa using hj
theorem one_oneI (z : Int) : ∀ u ∈ [Value.int .i64 z], u.oneCell' = true := fun u hu => by
  rw [List.mem_singleton] at hu; subst hu; rfl
theorem own_laterI {B : Nat} {w w' : World} {e : TypeId} {s n : Nat} {v : Value} {xs : List Value} (h : w.ownsRow B e s v n xs) (hb : Below w.heap.size w w') : w'.ownsRow B e s v n xs := by
  obtain ⟨h1, h2⟩ := h
  refine ⟨h1, ?_⟩
  rcases h2 with h2 | ⟨g, cap, cur, hv, hg2, hh, r⟩
  · exact .inl h2
  · exact .inr ⟨g, cap, cur, hv, hg2, (hb.block g (Array.getElem?_eq_some_iff.1 hh).1).trans hh, r⟩
theorem own_setI {B B' : Nat} {w : World} {e e' : TypeId} {s n i g N : Nat} {v u : Value} {xs ys : List Value} (h : w.ownsRow B e s v n xs) (h7 : w.ownsRow B' e' 1 (.slice (some ⟨g, 0, none⟩) N N) N ys) (he : e ≠ e') : (w.setCell ⟨g, i, none⟩ u).ownsRow B e s v n xs := by
  have hne := own_apart h h7 he
  obtain ⟨h1, h2⟩ := h
  refine ⟨h1, ?_⟩
  rcases h2 with h2 | ⟨g', cap, cur, rfl, hg2, hh, r⟩
  · exact .inl h2
  · refine .inr ⟨g', cap, cur, rfl, hg2, (heap_setCell_other w ⟨g, i, none⟩ g' u (fun e => ?_)).trans hh, r⟩
    rcases hne with hne | hne
    · cases hne
    · exact hne (by rw [show g' = g from e]; rfl)
theorem AlI.later {l : List Ts} {w wr w' : World} {k N g : Nat} {v8 : Value} (h : AlI l w k N g v8 wr) (hb : Below wr.heap.size wr w') : AlI l w k N g v8 w' :=
  ⟨Nat.le_trans h.b hb.size, own_laterI h.r7 hb, own_laterI h.r8 hb, lt_step _ _ h.bel hb⟩
theorem AlI.cell {l : List Ts} {w wr : World} {k N g : Nat} {v8 : Value} (h : AlI l w k N g v8 wr) (hk : k < N) : wr.cell? ⟨g, k, none⟩ = some (.int .i64 ((bR l k N).getD k 0)) ∧ (∀ i, wr.frozen? ⟨g, i, none⟩ = false) ∧ w.heap.size ≤ g := by
  have hc := h.r7.cells (g := g) rfl k (.int .i64 ((bR l k N).getD k 0)) (by
    rw [List.getElem?_map, List.getD_eq_getElem?_getD, List.getElem?_eq_getElem (by rw [bR_len l (Nat.le_of_lt hk)]; exact hk)]; rfl)
  rw [add_none, Nat.zero_add] at hc
  rcases h.r7.2 with ⟨hv, _⟩ | ⟨g', cap, cur, hv, hg2, hh, _⟩
  · cases hv
  · simp only [Value.slice.injEq, Option.some.injEq, Addr.mk.injEq] at hv
    obtain ⟨⟨rfl, _, _⟩, _⟩ := hv
    exact ⟨hc, fun i => by simp [World.frozen?, hh], hg2⟩
/-- One bound is put down. -/
theorem AlI.put {l : List Ts} {w wr : World} {k N g : Nat} {v8 : Value} {br : Int} (h : AlI l w k N g v8 wr) (hk : k < N) (hb : (boundI l (k : Int)).1 = br) (hm : mL l (k + 1) = mL l k) : AlI l w (k + 1) N g v8 (wr.setCell ⟨g, k, none⟩ (.int .i64 br)) := by
  have hg := (h.cell hk).2.2
  refine ⟨by simpa [World.setCell] using h.b, ?_, ?_, Below.setCell h.bel hg _⟩
  · rw [← bR_step l hk, List.map_set, hb]
    exact own_set h.r7 rfl (by omega) _
  · rw [hm]
    exact own_setI h.r8 h.r7 (by decide)
/-- The same where one more is late. -/
structure AlJ (l : List Ts) (w : World) (k N g : Nat) (v8 : Value) (wr : World) : Prop where
  b : w.heap.size ≤ wr.heap.size
  r7 : wr.ownsRow w.heap.size 2 1 (.slice (some ⟨g, 0, none⟩) N N) N ((bR l k N).map (Value.int .i64))
  r8 : wr.ownsRow w.heap.size 3 1 v8 (mL l (k + 1)).length ((mL l (k + 1)).map (Value.int .i64))
  bel : Lt w wr
theorem AlJ.cell {l : List Ts} {w wr : World} {k N g : Nat} {v8 : Value} (h : AlJ l w k N g v8 wr) (hk : k < N) : wr.cell? ⟨g, k, none⟩ = some (.int .i64 ((bR l k N).getD k 0)) ∧ (∀ i, wr.frozen? ⟨g, i, none⟩ = false) ∧ w.heap.size ≤ g := by
  have hc := h.r7.cells (g := g) rfl k (.int .i64 ((bR l k N).getD k 0)) (by
    rw [List.getElem?_map, List.getD_eq_getElem?_getD, List.getElem?_eq_getElem (by rw [bR_len l (Nat.le_of_lt hk)]; exact hk)]; rfl)
  rw [add_none, Nat.zero_add] at hc
  rcases h.r7.2 with ⟨hv, _⟩ | ⟨g', cap, cur, hv, hg2, hh, _⟩
  · cases hv
  · simp only [Value.slice.injEq, Option.some.injEq, Addr.mk.injEq] at hv
    obtain ⟨⟨rfl, _, _⟩, _⟩ := hv
    exact ⟨hc, fun i => by simp [World.frozen?, hh], hg2⟩
theorem AlJ.put {l : List Ts} {w wr : World} {k N g : Nat} {v8 : Value} {br : Int} (h : AlJ l w k N g v8 wr) (hk : k < N) (hb : (boundI l (k : Int)).1 = br) : AlI l w (k + 1) N g v8 (wr.setCell ⟨g, k, none⟩ (.int .i64 br)) := by
  have hg := (h.cell hk).2.2
  refine ⟨by simpa [World.setCell] using h.b, ?_, own_setI h.r8 h.r7 (by decide), Below.setCell h.bel hg _⟩
  rw [← bR_step l hk, List.map_set, hb]
  exact own_set h.r7 rfl (by omega) _
def evL (l : List Ts) (n : Nat) : Int := if mL l n = [] then 0 else 16
theorem evL_hit {l : List Ts} {n : Nat} (h : (boundI l (n : Int)).2 ≠ 0) : evL l (n + 1) = 16 := by unfold evL; rw [mL_hit h, if_neg (by simp)]
theorem bound_late {l : List Ts} {k : Nat} (hc : (chkAll l).2 = 0) (hk : k < l.length) (h : (boundI l (k : Int)).2 ≠ 0) : (boundI l (k : Int)).2 = 16 := by
  rw [bound_at hc (List.getElem?_eq_getElem hk)] at h ⊢
  cases hl : leastF (needI l (k : Int)) (mOf l (k : Int)) with
  | none => rfl
  | some u => rw [hl] at h; exact absurd rfl h
set_option maxRecDepth 100000 in
set_option maxHeartbeats 8000000 in
theorem rta_all (A : Option Addr) (cap : Nat) (l : List Ts) (w : World) (hR : Row w A cap l) (hT : Tab w) :
    Calls Tryd.prog 16 #[.slice A l.length cap] w (AllP l w) := by
  have K := Lib.hid (rmay_any A cap l 0 w hR ⟨by decide, by decide⟩)
  have hle := hR.le
  have hmx := hR.mx
  by_cases hc : (chkAll l).2 = 0
  · have hn1 := (vs_of hc).n1
    have hn0 := (vs_of hc).n0
    have hb0 : isB l 0 = true := isB_at (k := 0) hc (List.getElem?_eq_getElem (show 0 < l.length by omega))
    rw [hb0] at K
    have hlen : l.length ≤ 1024 := by omega
    obtain ⟨b, o, _, rfl, _, _, _, _⟩ := hR.get (show 0 < l.length by omega)
    have KB := Lib.hid (fun W (h : Lt w W) (k : Nat) (hk : k < l.length) => bound_in b o cap l k l[k] W (hR.later h) hc (List.getElem?_eq_getElem hk) (hT.below h))
    have HLT := Lib.hid (fun (k : Nat) (hk : k < l.length) h => bound_late (k := k) hc hk h)
    obtain ⟨iL, hL1, hL2, hL3, hL4⟩ := info_parts infoL
    obtain ⟨iI, hI1, hI2, hI3, hI4⟩ := info_parts infoI
    have HC := Lib.hid hc
    generalize hN : l.length = N at *
    have HN := Lib.hid hN
    clear hc hR hT hN hb0 hn1 hn0
    go_enter Tryd.func16, Tryd.ntmps16
    go_upto_region 3 with (go_at_call 26; (with_reducible refine K.out.mono ?_); rintro e w1 ⟨rfl, h⟩; have HL := Lib.hid (show Lt w w1 from h); clear h)
    go_upto_region 4 with (at_make; refine wpList_make_full _ rfl _ _ 39 rfl w.heap.size 2 iL _ 1 Tryd.underlying39 hL1 hL2 hL3 .i64 .i64 _ _ N rfl rfl rfl rfl (by rw [hL4]; omega) (by unfold maxLen; omega) (Below.size HL.out) ?_; intro w3 hown hgrow; have HI := Lib.hid (show AlI l w 0 N w1.heap.size (.slice none 0 0) w3 from ⟨Nat.le_trans (Below.size HL.out) hgrow.size, (by rw [bR_zero, List.map_replicate]; rw [show (Value.int IntKind.i64 0).cells = #[Value.int IntKind.i64 0] from rfl, toList_madeCells_one, Nat.mul_one] at hown; exact hown), World.ownsRow_nil _ _ _ _, Below.grown HL.out hgrow (Below.size HL.out) (fun q hq => by cases hq)⟩); clear hown hgrow)
    obtain ⟨g, hg⟩ : ∃ g, w1.heap.size = g := ⟨_, rfl⟩
    rw [hg] at HI ⊢
    clear hg
    go_wp2
    go_loopw [6, 7, 19] (fun v6 v7 i wr => ∃ k : Nat, k ≤ N ∧ i = .int .i64 (k : Int) ∧ v7 = .int .i64 (evL l k) ∧ Hid (AlI l w k N g v6 wr)) (fun _ _ i _ => N - (intOf i).toNat)
    case atStart => exact ⟨0, Nat.zero_le _, rfl, rfl, HI⟩
    case round =>
      clear HI
      obtain ⟨k, hk, rfl, rfl, HI⟩ := hrel
      obtain ⟨A8, c8, hv8, hl8, hm8⟩ := Go.Proofs.YtnhddnldebdmbaaDoor.own_len HI.out.r8
      have hml := mL_le l k
      obtain ⟨q, hq⟩ : ∃ q, (mL l k).length = q := ⟨_, rfl⟩
      rw [hq] at hv8 hl8 hml
      have HQ := Lib.hid hq
      subst hv8
      clear hq
      by_cases hlt : k < N
      · have d1 : decide ((k : Int) < (N : Int)) = true := decide_eq_true (by omega)
        have KBk := Lib.hid (fun W h => KB.out W h k hlt)
        obtain ⟨⟨br, be⟩, hbr⟩ : ∃ p, boundI l (k : Int) = p := ⟨_, rfl⟩
        rw [hbr] at KBk
        simp only at KBk
        have HBR := Lib.hid hbr
        have HII := Lib.hid hlt
        have HWK := Lib.hid (w64 (z := (k : Int) + 1) (by omega) (by omega))
        have i0 : (0 : Int) ≤ (k : Int) := by omega
        have i1 : (k : Int) < (N : Int) := by omega
        clear hbr
        by_cases h0 : be = 0
        · subst h0
          have HM : Hid (mL l (k + 1) = mL l k) := Lib.hid (mL_miss (by rw [HBR.out]))
          go_upto_region 10 with (go_at_call 27; (with_reducible refine (KBk.out _ HI.out.bel).mono ?_); rintro e w5 ⟨rfl, h⟩; have HI := Lib.hid (HI.out.later h); clear h)
          obtain ⟨cc, cf, cg⟩ := HI.out.cell HII.out
          have cf := cf k
          generalize (bR l k N).getD k 0 = z0 at cc
          obtain ⟨hw1, hw1'⟩ := HWK.out
          go_wp2
          clear hw1 hw1'
          go_roundw
          case rel =>
            refine ⟨k + 1, by have := HII.out; omega, by go_num, by unfold evL; rw [HM.out], Lib.hid (HI.out.put HII.out (by rw [HBR.out]) HM.out)⟩
          case measure => have := HII.out; simp [intOf]; omega
        · have t0 : (be != 0) = true := by simpa using h0
          have HM : Hid (mL l (k + 1) = mL l k ++ [(k : Int)]) := Lib.hid (mL_hit (by rw [HBR.out]; exact h0))
          have hbe : be = 16 := by have := HLT.out k HII.out (by rw [HBR.out]; exact h0); rw [HBR.out] at this; exact this
          subst hbe
          have HEV : Hid (evL l (k + 1) = 16) := Lib.hid (evL_hit (by rw [HBR.out]; exact h0))
          clear h0
          go_upto_region 9 with (go_at_call 27; (with_reducible refine (KBk.out _ HI.out.bel).mono ?_); rintro e w5 ⟨rfl, h⟩; have HI := Lib.hid (HI.out.later h); clear h)
          go_upto_region 10 with (at_builtin; refine wpList_append_own _ rfl _ _ 40 rfl w.heap.size 3 iI _ 1 8 Tryd.underlying40 hI1 hI2 hI3 hI4 rfl (by decide) _ q ((mL l k).map (Value.int .i64)) rfl (by have := (HI.out.r8.alloc (.cells #[.int .i64 (k : Int)] 3)); rw [HQ.out] at this; exact this) ⟨w5.heap.size, 0, none⟩ 1 1 [.int .i64 (k : Int)] rfl rfl (one_newI _ _ _) (one_oneI _) (by unfold maxLen; omega) (by omega) (by have := HI.out.b; simp; omega) ?_; intro v8' w6 hown8 hgrow8 hnil8)
          have hb6 : Below w.heap.size w w6 := (((show Below w.heap.size w w5 from HI.out.bel).alloc HI.out.b _).grown hgrow8 (by have := HI.out.b; simp; omega) (fun q hq => (HI.out.r8.lt q hq).1))
          have h7 := HI.out.r7.alloc (.cells #[.int .i64 (k : Int)] 3)
          have HJ := Lib.hid (show AlJ l w k N g v8' w6 from ⟨hb6.size, h7.kept hgrow8 (own_apart h7 (HI.out.r8.alloc (.cells #[.int .i64 (k : Int)] 3)) (by decide)), by rw [HM.out]; exact irow_snoc hown8 HQ.out, hb6⟩)
          clear hown8 hgrow8 hnil8 hb6 h7
          obtain ⟨cc, cf, cg⟩ := HJ.out.cell HII.out
          have cf := cf k
          generalize (bR l k N).getD k 0 = z0 at cc
          obtain ⟨hw1, hw1'⟩ := HWK.out
          go_wp2
          clear hw1 hw1'
          go_roundw
          case rel =>
            refine ⟨k + 1, by have := HII.out; omega, by go_num, by rw [HEV.out], Lib.hid (HJ.out.put HII.out (by rw [HBR.out]))⟩
          case measure => have := HII.out; simp [intOf]; omega
      · obtain rfl : k = N := by omega
        have d1 : decide ((k : Int) < (k : Int)) = false := decide_eq_false (by omega)
        have R7 := HI.out.r7
        rw [bR_full] at R7
        have R7' : wr.ownsRow w.heap.size 2 1 (.slice (some ⟨g, 0, none⟩) k k) (bL l k).length ((bL l k).map (Value.int .i64)) := by rw [bL_len]; exact R7
        obtain ⟨E7, d7, e7, I7⟩ := irow_own R7'
        obtain ⟨E8, d8, e8, I8⟩ := irow_own HI.out.r8
        rw [bL_len] at e7
        rw [HQ.out] at e8
        have X1 : bndsL l = bL l k := by unfold bndsL; rw [if_pos HC.out, HN.out]; rfl
        have X2 : lateL l = mL l k := by unfold lateL; rw [if_pos HC.out, HN.out]; rfl
        have X3 : allE l = evL l k := by unfold allE; rw [if_pos HC.out, X2]; rfl
        have J1 := Lib.hid I7
        have J2 := Lib.hid I8
        obtain ⟨rfl, rfl⟩ : some ⟨g, 0, none⟩ = E7 ∧ k = d7 := by simpa using e7
        obtain ⟨rfl, rfl⟩ : A8 = E8 ∧ c8 = d8 := by simpa using e8
        have HX := Lib.hid (And.intro X1 (And.intro X2 X3))
        clear X1 X2 X3 I7 I8 e7 e8 hlt R7 R7'
        go_wp2
        go_ret3
        obtain ⟨X1, X2, X3⟩ := HX.out
        refine ⟨some ⟨g, 0, none⟩, k, A8, c8, ?_, by rw [X1]; exact J1.out, by rw [X2]; exact J2.out, HI.out.bel⟩
        rw [X1, X2, X3, bL_len, HQ.out]
        rfl
  · have X1 : bndsL l = [] := by unfold bndsL; rw [if_neg hc]
    have X2 : lateL l = [] := by unfold lateL; rw [if_neg hc]
    have X3 : allE l = 1 := by unfold allE; rw [if_neg hc]
    have hb0 : isB l 0 = false := by unfold isB; rw [decide_eq_false hc]; rfl
    rw [hb0] at K
    unfold AllP
    rw [X1, X2, X3]
    generalize l.length = N at *
    clear hc hR hT X1 X2 X3 hb0
    go_enter Tryd.func16, Tryd.ntmps16
    go_wp2_with (first
      | (go_at_call 26; (with_reducible refine K.out.mono ?_); rintro e w1 ⟨rfl, h⟩; have HL := Lib.hid (show Lt w w1 from h); clear h)
      | fail)
    go_ret3
    exact ⟨none, 0, none, 0, rfl, ⟨by simp, by omega, by simp⟩, ⟨by simp, by omega, by simp⟩, HL.out⟩
theorem rta_tests (A : Option Addr) (cap : Nat) (l : List Ts) (w : World) (hR : Row w A cap l) (hT : Tab w) :
    Calls Tryd.prog 25 #[.slice A l.length cap] w fun e w' => e = .returned (.bool (decide (allE l = 0))) ∧ Below w.heap.size w w' := by
  have K := rta_all A cap l w hR hT
  unfold AllP at K
  have he : decide (allE l = 0) = (allE l == 0) := rfl
  rw [he]
  generalize allE l = ev at *
  generalize (bndsL l).length = n1 at *
  generalize (lateL l).length = n2 at *
  generalize l.length = N at *
  have K := Lib.hid K
  clear hR hT he
  go_enter Tryd.func25, Tryd.ntmps25
  go_wp2_with (first
    | (go_at_call 16; (with_reducible refine K.out.mono ?_); rintro e w1 ⟨A1, c1, A2, c2, rfl, h1, h2, h⟩; have HL := Lib.hid (show Lt w w1 from h); clear h h1 h2)
    | fail)
  go_ret
  exact ⟨rfl, HL.out⟩
end Go.Proofs.YtnhddnldebdmbaaDoor
/- The chapter's example. -/
namespace Go.Proofs.YtnhddnldebdmbaaDoor
open Go.RowKit
set_option linter.unusedVariables false
set_option linter.unusedSimpArgs false
abbrev exT (n : UInt8) (c t j q p : Int) : Ts := ⟨{ data := #[n] }, c, t, t, j, q, p⟩
theorem exT_w (n : UInt8) (c t j q p : Int) (hc : in64 c) (ht : in64 t) (hj : in64 j) (hq : in64 q) (hp : in64 p) : TsW (exT n c t j q p) :=
  ⟨(by show (1 : Nat) ≤ _; omega), hc, ht, ht, hj, hq, hp⟩
abbrev exL : List Ts := [exT 97 1 4 0 1 1, exT 98 2 9 1 1 2, exT 99 3 20 0 3 3]
set_option maxRecDepth 100000 in
theorem ex_is : bndsL exL = [3, 7, 7] ∧ lateL exL = [] ∧ allE exL = 0 := by decide +kernel
abbrev exO : Obj := .cells #[.string { data := #[97] }, .int .i64 1, .int .i64 4, .int .i64 4, .int .i64 0, .int .i64 1, .int .i64 1, .string { data := #[98] }, .int .i64 2, .int .i64 9, .int .i64 9, .int .i64 1, .int .i64 1, .int .i64 2, .string { data := #[99] }, .int .i64 3, .int .i64 20, .int .i64 20, .int .i64 0, .int .i64 3, .int .i64 3] 35
theorem ex_row (w : World) : Row (w.alloc exO) (some ⟨w.heap.size, 0, none⟩) 3 exL := by
  have hc := fun i => cell_of_row (w.alloc exO) w.heap.size i _ _ _ (heap_alloc_new w exO)
  refine ⟨by simp, by omega, ?_, fun i x hx => ?_⟩
  · intro x hx
    simp only [List.mem_cons, List.not_mem_nil, or_false] at hx
    rcases hx with rfl | rfl | rfl
    · exact exT_w 97 1 4 0 1 1 ⟨by decide, by decide⟩ ⟨by decide, by decide⟩ ⟨by decide, by decide⟩ ⟨by decide, by decide⟩ ⟨by decide, by decide⟩
    · exact exT_w 98 2 9 1 1 2 ⟨by decide, by decide⟩ ⟨by decide, by decide⟩ ⟨by decide, by decide⟩ ⟨by decide, by decide⟩ ⟨by decide, by decide⟩
    · exact exT_w 99 3 20 0 3 3 ⟨by decide, by decide⟩ ⟨by decide, by decide⟩ ⟨by decide, by decide⟩ ⟨by decide, by decide⟩ ⟨by decide, by decide⟩
  · refine ⟨w.heap.size, 0, rfl, ⟨fun j u hu => ?_⟩⟩
    match i, hx with
    | 0, hx =>
      obtain rfl : exT 97 1 4 0 1 1 = x := by simpa using hx
      rw [hc]
      match j, hu with
      | 0, hu | 1, hu | 2, hu | 3, hu | 4, hu | 5, hu | 6, hu => simpa [tsL] using hu
      | n + 7, hu => simp [tsL] at hu
    | 1, hx =>
      obtain rfl : exT 98 2 9 1 1 2 = x := by simpa using hx
      rw [hc]
      match j, hu with
      | 0, hu | 1, hu | 2, hu | 3, hu | 4, hu | 5, hu | 6, hu => simpa [tsL] using hu
      | n + 7, hu => simp [tsL] at hu
    | 2, hx =>
      obtain rfl : exT 99 3 20 0 3 3 = x := by simpa using hx
      rw [hc]
      match j, hu with
      | 0, hu | 1, hu | 2, hu | 3, hu | 4, hu | 5, hu | 6, hu => simpa [tsL] using hu
      | n + 7, hu => simp [tsL] at hu
    | n + 3, hx => simp at hx
theorem three_any (w : World) : Calls Tryd.prog 18 #[] w fun e w' => e = .returned (.slice (some ⟨w.heap.size, 0, none⟩) 3 3) ∧ w' = w.alloc exO := by
  go_enter Tryd.func18, Tryd.ntmps18
  go_wp2
  go_ret
  exact ⟨rfl, rfl⟩
set_option maxRecDepth 100000 in
set_option maxHeartbeats 2000000 in
theorem awake_any (w : World) (hT : Tab w) : Calls Tryd.prog 8 #[] w fun e w' => e = .returned (.bool true) ∧ Below w.heap.size w w' := by
  have hb : Below w.heap.size w (w.alloc exO) := (Below.refl _ _).alloc (Nat.le_refl _) _
  have K : Calls Tryd.prog 16 #[.slice (some ⟨w.heap.size, 0, none⟩) 3 3] (w.alloc exO) (AllP exL (w.alloc exO)) := rta_all (some ⟨w.heap.size, 0, none⟩) 3 exL (w.alloc exO) (ex_row w) (hT.below hb)
  unfold AllP at K
  rw [ex_is.1, ex_is.2.1, ex_is.2.2] at K
  have K := Lib.hid K
  have HB := Lib.hid hb
  have K3 := Lib.hid (three_any w)
  clear hT hb
  go_enter Tryd.func8, Tryd.ntmps8
  go_wp2_with (first
    | (go_at_call 18; (with_reducible refine K3.out.mono ?_); rintro e w1 ⟨rfl, rfl⟩)
    | (go_at_call 16; go_loud ((with_reducible refine K.out.mono ?_); rintro e w2 ⟨A1, c1, A2, c2, rfl, h1, h2, h⟩; obtain ⟨g, o, hA, hg, k0⟩ := h1.at_ 0 3 rfl; obtain ⟨g1, o1, hA1, _, k1⟩ := h1.at_ 1 7 rfl; obtain ⟨g2, o2, hA2, _, k2⟩ := h1.at_ 2 7 rfl; subst hA; cases hA1; cases hA2; have hc1 := h1.le; have hc2 := h1.mx; have hd1 := h2.le; have hd2 := h2.mx; simp only [List.length_cons, List.length_nil, Nat.reduceAdd, Nat.add_zero] at hc1 hd1 k0; have HB2 := Lib.hid (HB.out.trans (h.mono (Below.size HB.out))); clear h h1 h2))
    | fail)
  go_ret
  exact ⟨rfl, HB2.out⟩
end Go.Proofs.YtnhddnldebdmbaaDoor
/- What the law tells of one place. -/
namespace Go.Proofs.YtnhddnldebdmbaaDoor
open Go.RowKit Go.Shelf
set_option linter.unusedVariables false
set_option linter.unusedSimpArgs false
attribute [local go_sem] Oper.semAt_some
theorem wpIn_nm {F : Fence} {n : Nat} {P : Program} {c : Code} {Q : Exit → Act → World → Prop} {a : Act} {w : World} (h : ∀ a', a' = a → Code.wpIn F n P c Q a' w) : Code.wpIn F n P c Q a w := h a rfl
/-- Small enough to be told by definition. -/
def Few20 (l : List Ts) : Prop := ∀ x ∈ l, x.d ≤ 1000 ∧ -1000 ≤ x.j
theorem mOf_small {l : List Ts} (h : Few20 l) (i : Int) : mOf l i ≤ 2000 := by
  unfold mOf dOf jOf
  rw [List.getD_eq_getElem?_getD]
  cases hx : l[i.toNat]? with
  | none => show ((1 : Int) - 0).toNat ≤ 2000; omega
  | some x =>
    obtain ⟨h1, h2⟩ := h x (List.mem_of_getElem? hx)
    show (x.d - x.j).toNat ≤ 2000
    omega
theorem eachI_len (l : List Ts) (i : Int) : (eachI l i).length ≤ mOf l i + 2 := by
  unfold eachI
  split
  · exact eachF_len _ _ _ _
  · simp
/-- What is wanted, in memory. -/
structure WaR (A : Option Addr) (n c : Nat) (ns : List Int) (N0 : Nat) (V : World) : Prop where
  len : ns.length = n
  le : n ≤ c
  mx : c ≤ 9223372036854775807
  at_ : ∀ k z, ns[k]? = some z → ∃ g, A = some ⟨g, 0, none⟩ ∧ g < N0 ∧ V.cell? ⟨g, k, none⟩ = some (.int .u64 z)
theorem WaR.of {B : Nat} {V : World} {v : Value} {ns : List Int} (h : OwnU B V v ns) : ∃ A c, v = .slice A ns.length c ∧ WaR A ns.length c ns V.heap.size V := by
  obtain ⟨A, c, hv, hl, hm⟩ := own_len h
  refine ⟨A, c, hv, rfl, hl, by unfold maxLen at hm; omega, fun k z hz => ?_⟩
  rcases h.2 with ⟨hv2, h0⟩ | ⟨g, cap, cur, hv2, hb, hh, _⟩
  · have := (List.getElem?_eq_some_iff.1 hz).1; omega
  · refine ⟨g, ?_, (Array.getElem?_eq_some_iff.1 hh).1, ?_⟩
    · rw [hv] at hv2; simp only [Value.slice.injEq] at hv2; exact hv2.1
    · have hc := h.cells (g := g) (by rw [hv2]; rfl)
      have := hc k (.int .u64 z) (by simp [cellsU, hz])
      rw [add_none, Nat.zero_add] at this
      exact this
theorem WaR.keep {A : Option Addr} {n c : Nat} {ns : List Int} {N0 : Nat} {V V' : World} (h : WaR A n c ns N0 V) (hk : KeepG (fun k _ => k < N0) V V') : WaR A n c ns N0 V' :=
  ⟨h.len, h.le, h.mx, fun k z hz => by
    obtain ⟨g, e, hg, hc⟩ := h.at_ k z hz
    exact ⟨g, e, hg, hk.cell hc (fun _ => hg)⟩⟩
theorem WaR.up {A : Option Addr} {n c : Nat} {ns : List Int} {N0 N1 : Nat} {V : World} (h : WaR A n c ns N0 V) (hN : N0 ≤ N1) : WaR A n c ns N1 V := ⟨h.len, h.le, h.mx, fun k z hz => by
  obtain ⟨g, e, hg, hc⟩ := h.at_ k z hz
  exact ⟨g, e, by omega, hc⟩⟩
/-- While the loop goes: all that lies below N0. -/
structure SwT (w : World) (A9 : Option Addr) (n9 c9 b9 : Nat) (ns : List Int) (N0 : Nat) (V : World) : Prop where
  r : Boxed V w.heap.size 4 (.bool false)
  b : Below w.heap.size w V
  x9 : Boxed V b9 52 (.slice A9 n9 c9)
  wa : WaR A9 n9 c9 ns N0 V
  lt : w.heap.size < N0 ∧ b9 < N0
section
variable {w : World} {A9 : Option Addr} {n9 c9 b9 : Nat} {ns : List Int} {N0 : Nat} {V V' : World}
theorem SwT.keep (h : SwT w A9 n9 c9 b9 ns N0 V) (hk : KeepG (fun k _ => k < N0) V V') (hb : Below w.heap.size w V') : SwT w A9 n9 c9 b9 ns N0 V' :=
  ⟨hk.boxed h.r h.lt.1, hb, hk.boxed h.x9 h.lt.2, h.wa.keep hk, h.lt⟩
theorem SwT.later (h : SwT w A9 n9 c9 b9 ns N0 V) (hb : Below V.heap.size V V') : SwT w A9 n9 c9 b9 ns N0 V' := h.keep (KeepG.below hb) (h.b.trans (hb.mono h.b.size))
theorem SwT.own {row : Option Nat} {D : Nat} (h : SwT w A9 n9 c9 b9 ns N0 V) (hg : V.grownBy V' row) (hr : ∀ r, row = some r → D ≤ r ∧ ∃ o : Obj, V.heap[r]? = some o ∧ o.isCells = false) (hB : w.heap.size ≤ D) : SwT w A9 n9 c9 b9 ns N0 V' :=
  h.keep ((keepG_grown hg (fun r e => (hr r e).2)).weak (fun _ _ _ _ _ _ => trivial)) (h.b.grown hg h.b.size (fun k e => by have := (hr k e).1; omega))
theorem keep_set {N0 B : Nat} {V : World} (u : Value) (h : N0 ≤ B) : KeepG (fun k _ => k < N0) V (V.setCell ⟨B, 0, none⟩ u) := KeepG.setCell u fun cs T fr _ hp => by
  have : B < N0 := hp
  omega
theorem SwT.set (h : SwT w A9 n9 c9 b9 ns N0 V) {B : Nat} (u : Value) (hB : N0 ≤ B) : SwT w A9 n9 c9 b9 ns N0 (V.setCell ⟨B, 0, none⟩ u) :=
  h.keep (keep_set u hB) (h.b.setCell (p := ⟨B, 0, none⟩) (by have := h.lt; show w.heap.size ≤ B; omega) _)
end
set_option maxRecDepth 100000 in
set_option maxHeartbeats 8000000 in
theorem tells_any (A : Option Addr) (cap : Nat) (l : List Ts) (i : Int) (w : World) (hR : Row w A cap l) (hi : in64 i) (hT : Tab w) (hS : Few20 l) :
    Calls Tryd.prog 10 #[.slice A l.length cap, .int .i64 i] w fun e w' => e = .returned (.bool true) ∧ Below w.heap.size w w' := by
  have hb0 : Below w.heap.size w (w.alloc (.cells #[.bool false] 4)) := (Below.refl _ _).alloc (Nat.le_refl _) _
  obtain ⟨V0, hV0, HR0, HB0⟩ : ∃ V0, w.alloc (.cells #[.bool false] 4) = V0 ∧ Hid (Boxed V0 w.heap.size 4 (.bool false)) ∧ Hid (Below w.heap.size w V0) := ⟨_, rfl, Lib.hid (Boxed.new _ _ _), Lib.hid hb0⟩
  have HV0 := Lib.hid hV0
  have hmo := mOf_small hS i
  have hel := eachI_len l i
  have KB := Lib.hid (fun W (h : Below w.heap.size w W) => rta_bound A cap l i W (hR.later h) hi (hT.below h))
  have KE := Lib.hid (fun W (h : Below w.heap.size w W) => rta_each A cap l i W (hR.later h) hi (hT.below h))
  have KRB := Lib.hid (fun W (h : Below w.heap.size w W) => rbound_any A cap l i W (hR.later h) hi)
  have KRE := Lib.hid (fun W (h : Below w.heap.size w W) => reach_any A cap l i W (hR.later h) hi (by omega))
  have hfn : ∀ (fn : Fn) (a b : Array Value) (w : World), (binOp .eql 55 (.func fn a b) .nilFunc).run Tryd.prog w = .ok (.bool false) w := fun _ _ _ _ => rfl
  have HEL := Lib.hid (show (eachI l i).length ≤ 3000 by omega)
  have HEI : Hid (∃ ns, eachI l i = ns) := Lib.hid ⟨_, rfl⟩
  obtain ⟨ns, hns⟩ := HEI.out
  have HNS := Lib.hid hns
  rw [hns] at HEL KRE
  obtain ⟨⟨br, be⟩, hbr⟩ : ∃ p, boundI l i = p := ⟨_, rfl⟩
  rw [hbr] at KB KRB
  simp only at KB KRB
  generalize l.length = N at *
  clear hR hT hi hS hmo hel hb0 hV0 hns HEI hbr
  refine (callsIn_wide (n := 8)).1 ?_
  refine callsIn_of_wp_marks Tryd.func10 rfl trivial ?_ rfl
  simp only [Tryd.ntmps10, List.size_toArray, List.length_cons, List.length_nil, Nat.reduceAdd, Nat.reduceSub, Array.replicate_succ, Array.replicate_zero, List.push_toArray, List.append_toArray, List.nil_append, List.cons_append]
  refine wpIn_wide.2 ?_
  go_upto_region 1 with (fail)
  rw [HV0.out]
  clear HV0
  go_upto_region 2 with (go_at_call 14; (with_reducible refine (KB.out _ HB0.out).mono ?_); rintro e v1 ⟨rfl, h⟩; have HR1 := Lib.hid (boxed_later2 HR0.out h); have HB1 := Lib.hid (HB0.out.trans (h.mono (Below.size HB0.out))); clear h)
  go_upto_region 3 with (go_at_call 21; (with_reducible refine (KRB.out _ HB1.out).mono ?_); rintro e v2 ⟨rfl, h⟩; have HR2 := Lib.hid (boxed_later2 HR1.out h); have HB2 := Lib.hid (HB1.out.trans (h.mono (Below.size HB1.out))); clear h)
  obtain ⟨V3, hV3, HG3, HR3, HB3⟩ : ∃ V3, v2.alloc (.cells #[.int .i64 br, .int .i64 be] 50) = V3 ∧ Hid (G4 V3 v2.heap.size br be) ∧ Hid (Boxed V3 w.heap.size 4 (.bool false)) ∧ Hid (Below w.heap.size w V3) :=
    ⟨_, rfl, Lib.hid (G4.new _ _ _), Lib.hid (Boxed.alloc HR2.out _), Lib.hid (HB2.out.alloc (Below.size HB2.out) _)⟩
  rw [hV3]
  clear hV3 HR0 HB0 HR1 HB1 HR2 HB2
  obtain ⟨b7, hb7⟩ : ∃ b7, v2.heap.size = b7 := ⟨_, rfl⟩
  rw [hb7] at HG3 ⊢
  clear hb7
  go_upto_region 4 with (go_at_call 22; (with_reducible refine (KRE.out _ HB3.out).mono ?_); rintro e v4 ⟨vv, rfl, hO, hb⟩; obtain ⟨A9, c9, rfl, hW9⟩ := WaR.of hO; have HW4 := Lib.hid hW9; have HG4 := Lib.hid (HG3.out.later hb); have HR4 := Lib.hid (boxed_later2 HR3.out hb); have HB4 := Lib.hid (HB3.out.trans (hb.mono (Below.size HB3.out))); clear hO hb hW9)
  obtain ⟨n9, hn9⟩ : ∃ n9, ns.length = n9 := ⟨_, rfl⟩
  have HN9 := Lib.hid hn9
  rw [hn9] at HW4 HEL
  rw [hn9]
  clear hn9
  obtain ⟨V5, hV5, HG5, HR5, HB5, HW5, X5⟩ : ∃ V5, v4.alloc (.cells #[.slice A9 n9 c9] 52) = V5 ∧ Hid (G4 V5 b7 br be) ∧ Hid (Boxed V5 w.heap.size 4 (.bool false)) ∧ Hid (Below w.heap.size w V5) ∧ Hid (WaR A9 n9 c9 ns v4.heap.size V5) ∧ Hid (Boxed V5 v4.heap.size 52 (.slice A9 n9 c9)) :=
    ⟨_, rfl, Lib.hid (HG4.out.later ((Below.refl _ _).alloc (Nat.le_refl _) _)), Lib.hid (Boxed.alloc HR4.out _), Lib.hid (HB4.out.alloc (Below.size HB4.out) _), Lib.hid (HW4.out.keep (KeepG.below ((Below.refl _ _).alloc (Nat.le_refl _) _))), Lib.hid (Boxed.new _ _ _)⟩
  rw [hV5]
  clear hV5 HG3 HG4 HR3 HR4 HB3 HB4 HW4
  obtain ⟨b9, hb9⟩ : ∃ b9, v4.heap.size = b9 := ⟨_, rfl⟩
  rw [hb9] at HW5 X5 ⊢
  clear hb9
  go_upto_region 5 with (go_at_call 23; (with_reducible refine (KE.out _ HB5.out).mono ?_); rintro e v6 ⟨gf, lb, rfl, hb, heg, hsq⟩; rw [HNS.out] at hsq; have HG6 := Lib.hid (HG5.out.later hb); have HF6 := Lib.hid (show SwT w A9 n9 c9 b9 ns v6.heap.size v6 from ⟨boxed_later2 HR5.out hb, HB5.out.trans (hb.mono (Below.size HB5.out)), boxed_later2 X5.out hb, (HW5.out.keep (KeepG.below hb)).up (Nat.le_trans (Nat.le_of_lt X5.out.lt) hb.size), ⟨(boxed_later2 HR5.out hb).lt, (boxed_later2 X5.out hb).lt⟩⟩); have HEG := Lib.hid heg; have HSQ := Lib.hid hsq; clear hb heg hsq)
  clear HG5 HR5 HB5 HW5 X5
  have g0 := HG6.out.c0
  have g1 := HG6.out.c1
  have n0 : (br != br) = false := by simp
  have n1 : (be != be) = false := by simp
  go_upto_region 8 with (fail)
  obtain ⟨V6, hV6, HF7, X7⟩ : ∃ V6, v6.alloc (.cells #[.int .i64 0] 3) = V6 ∧ Hid (SwT w A9 n9 c9 b9 ns v6.heap.size V6) ∧ Hid (Boxed V6 v6.heap.size 3 (.int .i64 (0 : Int))) :=
    ⟨_, rfl, Lib.hid (HF6.out.later ((Below.refl _ _).alloc (Nat.le_refl _) _)), Lib.hid (Boxed.new _ _ _)⟩
  rw [hV6]
  have HSQ2 : Hid (SeqG numU (8 - 1) gf lb (fun k _ => k < v6.heap.size) ns V6) := Lib.hid (HSQ.out (8 - 1) (by omega) v6.heap.size V6 (Nat.le_refl _) (by rw [← hV6]; exact (Below.refl _ _).alloc (Nat.le_refl _) _))
  have HV6 := Lib.hid (show V6.heap.size = v6.heap.size + 1 by rw [← hV6]; simp)
  clear hV6 HF6 HSQ g0 g1 HG6
  obtain ⟨N0, hN0⟩ : ∃ N0, v6.heap.size = N0 := ⟨_, rfl⟩
  rw [hN0] at HF7 X7 HV6 HSQ2 ⊢
  clear hN0
  go_wp2
  have HWS := Lib.hid (show w.heap.size ≤ N0 from Nat.le_of_lt HF7.out.lt.1)
  have HPL := Lib.hid (show ∀ (pre : List Int) (x : Int) (r : List Int), ns = pre ++ x :: r → pre.length < n9 from fun pre x r e => by rw [← HN9.out, e]; simp)
  have HAT := Lib.hid (show ∀ (pre : List Int) (x : Int) (r : List Int), ns = pre ++ x :: r → ns[pre.length]? = some x from fun pre x r e => by rw [e]; simp)
  refine (wpIn_wide (n := 8)).1 ?_
  refine wpIn_nm fun fr hfr => ?_
  refine rangeG (vals := numU) (gf := gf) (lb := lb) (by rw [hfr]; rfl) HEG.out
    HSQ2.out (Below.refl _ _) (fun x => rfl)
    (fun pre V => SwT w A9 n9 c9 b9 ns N0 V ∧ Boxed V N0 3 (.int .i64 (pre.length : Int))) (fun _ _ _ => False)
    (fun pre X Y row h hg hr => ⟨h.1.own hg hr (by have := HV6.out; have := HWS.out; omega), boxed_kept h.2 hg (fun r e => (hr r e).2)⟩) (fun c s X Y row h _ _ => h) ⟨HF7.out, X7.out⟩
    (fun x a' V => a' = { tmps := (fr.tmps.setIfInBounds 42 (.int .u64 x)).setIfInBounds 11 (.int .u64 x), defers := [] })
    (fun x a' _ X Y row hs hg hr => hs)
    ?assign ?body ?done ?stop
  case assign =>
    intro l2 pre x V K hi hK
    subst hfr
    clear HSQ2
    gi_wp2
    exact hK _ _ (KeepsFrom.refl _ _) (KeepG.refl _ _) hi rfl
  case body =>
    rintro l2 pre x a' V ⟨hf, hx⟩ rfl ⟨r, hr⟩
    have hlt := HPL.out pre x r hr
    obtain ⟨g, hg1, hg2, hg3⟩ := hf.wa.at_ _ _ (HAT.out pre x r hr)
    subst hg1
    have cx := hx.cell
    have fx := hx.frozen
    have c9' := hf.x9.cell
    have n80 := HEL.out
    have hle := hf.wa.le
    have hmx := hf.wa.mx
    have g0 : decide ((pre.length : Int) ≥ (n9 : Int)) = false := decide_eq_false (by omega)
    have g0' : decide ((n9 : Int) ≤ (pre.length : Int)) = false := decide_eq_false (by omega)
    have g1 : (0 : Int) ≤ (pre.length : Int) := by omega
    have g2 : (pre.length : Int) < (n9 : Int) := by omega
    have g3 : (x != x) = false := by simp
    have hle2 : (n9 : Int) ≤ (c9 : Int) := by omega
    have hmx2 : (c9 : Int) ≤ 9223372036854775807 := by omega
    obtain ⟨hw1, hw1'⟩ := w64 (z := (pre.length : Int) + 1) (by omega) (by omega)
    have HK := Lib.hid (keep_set (N0 := N0) (B := N0) (V := V) (.int .i64 ((pre.length : Int) + 1)) (Nat.le_refl _))
    have HS := Lib.hid (hf.set (B := N0) (.int .i64 ((pre.length : Int) + 1)) (Nat.le_refl _))
    have HX := Lib.hid (hx.set (.int .i64 ((pre.length : Int) + 1)))
    have HLE : Hid ((((pre ++ [x]).length : Nat) : Int) = (pre.length : Int) + 1) := Lib.hid (by simp)
    subst hfr
    clear HSQ2 hf hx hr hlt HPL HAT n80 hle hmx
    dsimp only [List.setIfInBounds_toArray, List.set_cons_succ, List.set_cons_zero]
    gi_wp2
    refine ⟨(KeepsOthers.setCell _ _ _).from _, HK.out, HS.out, ?_⟩
    rw [HLE.out]
    exact HX.out
  case done =>
    rintro D V hD ⟨hf, hx⟩ hK
    rw [HN9.out] at hx
    have cx := hx.cell
    have c9' := hf.x9.cell
    have c4 := hf.r.cell
    have f4 := hf.r.frozen
    have t1 : ((n9 : Int) == (n9 : Int)) = true := by simp
    have ZR := Lib.hid hf.r
    have ZB := Lib.hid hf.b
    have ZK := Lib.hid hK
    have ZD := Lib.hid (show w.heap.size ≤ D by have := HV6.out; have := HWS.out; omega)
    subst hfr
    clear HSQ2 hf hx hK hD HPL HAT HF7 X7
    go_wp2
    have k1 := (KeepsOthers.setCell V ⟨w.heap.size, 0, none⟩ (.bool true)).same D _ ZK.out rfl
    have hB2 := ZB.out.setCell (p := ⟨w.heap.size, 0, none⟩) (Nat.le_refl _) (.bool true)
    have h4 := ZR.out.set (.bool true)
    have hd := ZD.out
    refine ⟨by simp, .inl ⟨_, _, rfl, run_takeDeferred k1, ?_⟩⟩
    have hc := (boxed_kept h4 (grownBy_putObj' _ D (.deferred none)) (fun r e => by cases e; exact ⟨_, k1, rfl⟩)).cell
    refine ⟨.bool true, ?_, rfl, ?_⟩
    · simp [results, Tryd.f10, go_sem, hc]
    · exact hB2.trans (belowK_b (w := w) (Nat.le_refl _) _ D _ _ hd k1 rfl rfl)
  case stop =>
    rintro D c pre x V hD hr h hK
    exact h.elim
end Go.Proofs.YtnhddnldebdmbaaDoor
