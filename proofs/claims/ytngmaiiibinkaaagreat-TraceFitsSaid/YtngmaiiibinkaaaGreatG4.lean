/- Texts about the program, one after the other: Set, JBase, SPure, JPure. -/
import Derived.Test.YtngmaiiibinkaaaGreatG3
import Derived.Laws.OwnMore
/- The document's Set: of plain numbers a set that may be. -/
namespace Go.Proofs.YtngmaiiibinkaaaGreat
open Go.RowKit
set_option linter.unusedVariables false
set_option linter.unusedSimpArgs false

theorem bs_app (a b : List UInt8) : bs a ++ bs b = bs (a ++ b) := by
  apply ByteArray.ext
  simp [bs]
/-! ### Rests, turns -/
def RestPost (n : Int) (w : World) (e : Ending) (w' : World) : Prop := ∃ r, e = .returned (.int .i64 r) ∧ 0 ≤ r ∧ r < n ∧ w = w'
theorem rrest_ex (x n : Int) (w : World) (hx : in64 x) (hn : 0 < n) (hn2 : n ≤ 100000) : Calls Tryz.prog 23 #[.int .i64 x, .int .i64 n] w (RestPost n w) :=
  (rrest_any x n w hx hn hn2).mono fun e w' h => ⟨_, h.1, (restI_bd x n hn hn2).1, (restI_bd x n hn hn2).2, h.2⟩
def turnsI (n : Nat) (t : Int) : Nat := if 2 < n ∧ restI (t.tdiv n) 2 = 1 then n - 1 else 1
theorem tdiv_in (t : Int) (n : Nat) (h : in64 t) (hn : 2 < n) : in64 (t.tdiv n) := by
  obtain ⟨h1, h2⟩ := h
  have hp : (0 : Int) < n := by omega
  rcases Int.le_total 0 t with h0 | h0
  · rw [Int.tdiv_eq_ediv_of_nonneg h0]
    have a := Int.ediv_nonneg h0 (show (0 : Int) ≤ n by omega)
    have b := Int.ediv_le_self n h0
    exact ⟨by omega, by omega⟩
  · obtain ⟨m, rfl⟩ : ∃ m, t = -m := ⟨-t, by omega⟩
    have hm : 0 ≤ m := by omega
    rw [Int.neg_tdiv, Int.tdiv_eq_ediv_of_nonneg hm]
    have a := Int.ediv_nonneg hm (show (0 : Int) ≤ n by omega)
    have b : m / (n : Int) ≤ 4611686018427387904 := by
      refine Int.ediv_le_of_le_mul hp ?_
      have : (4611686018427387904 : Int) * 3 ≤ 4611686018427387904 * n := by
        apply Int.mul_le_mul_of_nonneg_left <;> omega
      omega
    exact ⟨by omega, by omega⟩
set_option maxHeartbeats 1000000 in
theorem turns_any (n : Nat) (t : Int) (w : World) (ht : in64 t) (hn : 1 ≤ n) (hn8 : n ≤ 8) : Calls Tryz.prog 24 #[.int .i64 (n : Int), .int .i64 t] w fun e w' => e = .returned (.int .i64 (turnsI n t : Int)) ∧ w = w' := by
  unfold turnsI
  by_cases h2 : 2 < n
  · have hq := tdiv_in t n ht h2
    have hb := restI_bd (t.tdiv n) 2 (by omega) (by omega)
    have R := Lib.hid (fun w => rrest_any (t.tdiv n) 2 w hq (by omega) (by omega))
    have hww : IntKind.i64.wrap (t.tdiv n) = t.tdiv n := IntWalk.i64_in _ (by obtain ⟨a, b⟩ := hq; omega)
    have hw64 : wrap64 (t.tdiv n) = t.tdiv n := IntWalk.wrap64_in _ (by obtain ⟨a, b⟩ := hq; omega)
    generalize restI (t.tdiv n) 2 = r at *
    generalize hd : t.tdiv n = d at *
    have h2i : (2 : Int) < (n : Int) := by omega
    have hnz : (n : Int) ≠ 0 := by omega
    have e1 : ((n - 1 : Nat) : Int) = (n : Int) - 1 := by omega
    by_cases hr : r = 1
    · subst hr
      rw [if_pos ⟨h2, rfl⟩, e1]
      clear e1 hb
      go_enter Tryz.func24, Tryz.ntmps24
      go_wp2_with (go_at_call 23; (with_reducible refine (R.out _).mono ?_); rintro e w' ⟨rfl, rfl⟩)
      go_ret
      exact ⟨rfl, rfl⟩
    · obtain rfl : r = 0 := by omega
      rw [if_neg (by omega)]
      clear e1 hb
      go_enter Tryz.func24, Tryz.ntmps24
      go_wp2_with (go_at_call 23; (with_reducible refine (R.out _).mono ?_); rintro e w' ⟨rfl, rfl⟩)
      go_ret
      exact ⟨rfl, rfl⟩
  · rw [if_neg (by omega)]
    have h2' : decide ((n : Int) > 2) = false := decide_eq_false (by omega)
    have h2'' : decide (2 < n) = false := decide_eq_false (by omega)
    go_enter Tryz.func24, Tryz.ntmps24
    go_wp2
    go_ret
    exact ⟨rfl, rfl⟩
theorem turnsI_is (n : Nat) (t : Int) (hn : 1 ≤ n) : turnsI n t = 1 ∨ (2 < n ∧ turnsI n t = n - 1) := by
  unfold turnsI
  by_cases h : 2 < n ∧ restI (t.tdiv n) 2 = 1
  · rw [if_pos h]; exact .inr ⟨h.1, rfl⟩
  · rw [if_neg h]; exact .inl rfl
theorem turned_ne1 : ∀ n, n < 9 → ∀ r, r < 9 → ∀ i, i < n → ∀ j, j < n → (i * 1 + r) % n = (j * 1 + r) % n → i = j := by decide +kernel
theorem turned_ne2 : ∀ n, n < 9 → ∀ r, r < 9 → ∀ i, i < n → ∀ j, j < n → (i * (n - 1) + r) % n = (j * (n - 1) + r) % n → i = j := by decide +kernel

/-- What a task of Set is, but for its urgency. -/
structure SF (i : Nat) (x : Ts) : Prop where
  n : x.n = bs [116, UInt8.ofNat (97 + i)]
  c0 : 1 ≤ x.c
  c1 : x.c ≤ 4
  d0 : x.c + x.j ≤ x.d
  d1 : x.d ≤ 14
  j0 : 0 ≤ x.j
  t0 : x.d ≤ x.t
  t1 : x.t ≤ 20
  q0 : 1 ≤ x.q
  q1 : x.q ≤ x.c
def SFs (ts : List Ts) : Prop := ∀ (i : Nat) (x : Ts), ts[i]? = some x → SF i x
theorem SFs.snoc {ts : List Ts} {x : Ts} {k : Nat} (h : SFs ts) (hk : ts.length = k) (hx : SF k x) : SFs (ts ++ [x]) := by
  intro i y hy
  subst hk
  rcases Nat.lt_or_ge i ts.length with hl | hl
  · rw [List.getElem?_append_left hl] at hy; exact h i y hy
  · rw [List.getElem?_append_right hl] at hy
    have := (List.getElem?_eq_some_iff.1 hy).1
    simp at this
    obtain rfl : i = ts.length := by omega
    simp at hy
    exact hy ▸ hx
theorem SFs.setP {ts : List Ts} {x : Ts} {k : Nat} (h : SFs ts) (hx : ts[k]? = some x) (p : Int) : SFs (ts.set k { x with p := p }) := by
  intro i y hy
  have hkl : k < ts.length := (List.getElem?_eq_some_iff.1 hx).1
  by_cases e : k = i
  · subst e
    rw [List.getElem?_set_self hkl] at hy
    have h1 := h k x hx
    obtain rfl : { x with p := p } = y := by simpa using hy
    exact ⟨h1.n, h1.c0, h1.c1, h1.d0, h1.d1, h1.j0, h1.t0, h1.t1, h1.q0, h1.q1⟩
  · rw [List.getElem?_set_ne e] at hy
    exact h i y hy
theorem name_of (k : Nat) : ({ data := #[116] } : ByteArray) ++ chr (97 + (k : Int)) = bs [116, UInt8.ofNat (97 + k)] := by
  rw [show (97 + (k : Int)) = ((97 + k : Nat) : Int) by omega, chr, Int.toNat_natCast, show ({ data := #[116] } : ByteArray) = bs [116] from rfl, bs_app]
  rfl
theorem p_bd {ts : List Ts} {n τ r : Nat} (h1 : 1 ≤ n) (h8 : n ≤ 8)
    (hp : ∀ (i : Nat) (x : Ts), ts[i]? = some x → x.p = 1 + ((i : Int) * (τ : Int) + (r : Int)) % (n : Int)) : ∀ (i : Nat) (x : Ts), ts[i]? = some x → 1 ≤ x.p ∧ x.p ≤ 8 := by
  intro i x hx
  have h := hp i x hx
  have a := Int.emod_nonneg ((i : Int) * (τ : Int) + (r : Int)) (show (n : Int) ≠ 0 by omega)
  have b := Int.emod_lt_of_pos ((i : Int) * (τ : Int) + (r : Int)) (show (0 : Int) < (n : Int) by omega)
  omega

/-- All urgencies differ. -/
def Dist (ts : List Ts) : Prop := ∀ (i j : Nat) (x y : Ts), ts[i]? = some x → ts[j]? = some y → x.p = y.p → i = j
theorem in64_p {k : Nat} (z : Int) (h0 : 0 ≤ z) (h1 : z < (k : Int)) (h8 : k ≤ 8) : in64 (1 + z) := ⟨by omega, by omega⟩
theorem wrap_p {k : Nat} (z : Int) (h0 : 0 ≤ z) (h1 : z < (k : Int)) (h8 : k ≤ 8) : wrap64 (1 + z) = 1 + z := IntWalk.wrap64_in _ (by omega)
theorem dist_of {ts : List Ts} {n τ r : Nat} (h1 : 1 ≤ n) (h8 : n ≤ 8) (hr : r < n) (hτ : τ = 1 ∨ (2 < n ∧ τ = n - 1)) (hl : ts.length = n)
    (hp : ∀ (i : Nat) (x : Ts), ts[i]? = some x → x.p = 1 + ((i : Int) * (τ : Int) + (r : Int)) % (n : Int)) : Dist ts := by
  intro i j x y hx hy he
  have hi := (List.getElem?_eq_some_iff.1 hx).1
  have hj := (List.getElem?_eq_some_iff.1 hy).1
  have e1 := hp i x hx
  have e2 := hp j y hy
  have e3 : ((i : Int) * (τ : Int) + (r : Int)) % (n : Int) = ((j : Int) * (τ : Int) + (r : Int)) % (n : Int) := by omega
  rw [← Int.natCast_mul, ← Int.natCast_mul, ← Int.natCast_add, ← Int.natCast_add, ← Int.natCast_emod, ← Int.natCast_emod] at e3
  have e4 : (i * τ + r) % n = (j * τ + r) % n := Int.ofNat.inj e3
  rcases hτ with rfl | ⟨h2, rfl⟩
  · exact turned_ne1 n (by omega) r (by omega) i (by omega) j (by omega) e4
  · exact turned_ne2 n (by omega) r (by omega) i (by omega) j (by omega) e4
def SetPost (M : Int) (w : World) (e : Ending) (w' : World) : Prop := ∃ A cap ts, e = .returned (.slice A ts.length cap) ∧ Row w' A cap ts ∧ 1 ≤ ts.length ∧ (ts.length : Int) ≤ M ∧ Dist ts ∧ SFs ts ∧ (∀ (i : Nat) (x : Ts), ts[i]? = some x → 1 ≤ x.p ∧ x.p ≤ 8) ∧ Below w.heap.size w w'

set_option maxRecDepth 100000 in
set_option maxHeartbeats 8000000 in
theorem set_some (M : Int) (hM1 : 1 ≤ M) (hM8 : M ≤ 8) (A : Option Addr) (cap : Nat) (l : List Sp) (turn : Int) (w : World) (hR : SRow w A cap l) (ht : in64 turn) (h0 : l.length ≠ 0) :
    Calls Tryz.prog 8 #[.slice A l.length cap, .int .i64 M, .int .i64 turn] w (SetPost M w) := by
  obtain ⟨i0, hi, hz0, hz1, hz2⟩ := info_parts infoTs
  have hmx := hR.mx
  have hle := hR.le
  have t0 : ((l.length : Int) == 0) = false := by rw [beq_eq_false_iff_ne]; omega
  have ROW := Lib.hid hR
  have HB : Hid (Below w.heap.size w w) := Lib.hid (Below.refl _ _)
  clear hR
  go_enter Tryz.func8, Tryz.ntmps8
  go_wp2
  go_loopw [7, 8] (fun v i wr => ∃ (k : Nat) (ts : List Ts), k ≤ l.length ∧ (k : Int) ≤ M ∧ i = .int .i64 k ∧ SetIn w.heap.size wr v k ts ∧ Hid (SFs ts) ∧ Lt w wr) (fun _ i _ => 8 - (intOf i).toNat)
  case atStart => exact ⟨0, [], Nat.zero_le _, by omega, rfl, SetIn.nil _ _, Lib.hid (fun i x h => by simp at h), Below.refl _ _⟩
  case round =>
    obtain ⟨k, ts, hk, hkM, rfl, hI, hsf, hL⟩ := hrel
    have hk8 : k ≤ 8 := by omega
    by_cases hgo : k < l.length ∧ (k : Int) < M
    · obtain ⟨hlt, h8⟩ := hgo
      obtain ⟨b, o, x, rfl, hx, hxw, hbl, hT⟩ := ROW.out.get hlt
      have hTr := hT.later hL
      have s0 := hTr.c0
      have s1 := hTr.c1
      have s2 := hTr.c2
      have s3 := hTr.c3
      have s4 := hTr.c4
      have hi0 : (0 : Int) ≤ (k : Int) := by omega
      have hi1 : (k : Int) < ((l.length : Nat) : Int) := by omega
      have HXW := Lib.hid hxw
      clear hT hTr hx hxw hbl
      go_upto_region 8 with (go_at_call 23; refine (rrest_ex _ _ _ HXW.out.c (by omega) (by omega)).mono ?_; rintro e w' ⟨rc, rfl, rc0, rc1, rfl⟩)
      go_upto_region 9 with (go_at_call 23; refine (rrest_ex _ _ _ HXW.out.d (by omega) (by omega)).mono ?_; rintro e w' ⟨rd, rfl, rd0, rd1, rfl⟩)
      go_upto_region 10 with (go_at_call 23; refine (rrest_ex _ _ _ HXW.out.j (by omega) (by omega)).mono ?_; rintro e w' ⟨rj, rfl, rj0, rj1, rfl⟩)
      go_upto_region 11 with (go_at_call 23; refine (rrest_ex _ _ _ HXW.out.t (by omega) (by omega)).mono ?_; rintro e w' ⟨rt, rfl, rt0, rt1, rfl⟩)
      go_upto_region 12 with (go_at_call 23; refine (rrest_ex _ _ _ HXW.out.q (by omega) (by omega)).mono ?_; rintro e w' ⟨rq, rfl, rq0, rq1, rfl⟩)
      have hcv := fun W => conv_n W (97 + (k : Int)) (by omega) (by omega)
      have hwr : IntKind.u8.wrap (97 + (k : Int)) = 97 + (k : Int) := by rw [IntKind.wrap_u8]; omega
      obtain ⟨nm, hnm, hnms⟩ : ∃ nm, ({ data := #[116] } : ByteArray) ++ chr (97 + (k : Int)) = nm ∧ nm.size ≤ 10 := ⟨_, rfl, by rw [ByteArray.size_append, chr_size]; decide⟩
      have hnk := Lib.hid (hnm.symm.trans (name_of k))
      have hseven := seven_new (wr.alloc (.cells #[.int .u8 (97 + (k : Int))] 5)) ⟨nm, 1 + rc, 1 + rc + rd + rt, 1 + rc + rd, rj, 1 + rq, 0⟩
      rw [World.size_alloc] at hseven
      have HI := Lib.hid hI
      have HL := Lib.hid hL
      have H7 := Lib.hid hseven
      clear hseven hI hL s0 s1 s2 s3 s4
      go_wp2_with (at_builtin; refine wpList_append_own _ rfl _ _ 25 rfl w.heap.size 45 i0 _ 7 64 Tryz.underlying25 hi hz0 hz1 hz2 rfl (by decide) _ _ _ rfl ((HI.out.row.alloc _).alloc _) ⟨wr.heap.size + 1, 0, none⟩ 1 1 (tsL ⟨nm, 1 + rc, 1 + rc + rd + rt, 1 + rc + rd, rj, 1 + rq, 0⟩) rfl rfl H7.out (tsL_one _) (by unfold maxLen; omega) (by omega) (by have := Below.size HL.out; simp; omega) ?_; intro v' w4 hown' hgrow hnil')
      go_roundw
      case rel =>
        have hb0 := Below.size HL.out
        refine ⟨k + 1, ts ++ [⟨nm, 1 + rc, 1 + rc + rd + rt, 1 + rc + rd, rj, 1 + rq, 0⟩], by omega, by omega, by go_num, ⟨by simp [HI.out.len], fun y hy => ?_, by rw [tsCells_snoc]; exact hown'⟩, Lib.hid (hsf.out.snoc HI.out.len ⟨hnk.out, by show 1 ≤ 1 + rc; omega, by show 1 + rc ≤ 4; omega, by show 1 + rc + rj ≤ 1 + rc + rd; omega, by show 1 + rc + rd ≤ 14; omega, by show 0 ≤ rj; omega, by show 1 + rc + rd ≤ 1 + rc + rd + rt; omega, by show 1 + rc + rd + rt ≤ 20; omega, by show 1 ≤ 1 + rq; omega, by show 1 + rq ≤ 1 + rc; omega⟩), ?_⟩
        · rcases List.mem_append.1 hy with hy | hy
          · exact HI.out.wf y hy
          · obtain rfl := List.mem_singleton.1 hy
            exact ⟨by show nm.size ≤ _; omega, ⟨by show _ ≤ 1 + rc; omega, by show 1 + rc ≤ _; omega⟩, ⟨by show _ ≤ 1 + rc + rd + rt; omega, by show 1 + rc + rd + rt ≤ _; omega⟩, ⟨by show _ ≤ 1 + rc + rd; omega, by show 1 + rc + rd ≤ _; omega⟩, ⟨by show _ ≤ rj; omega, by show rj ≤ _; omega⟩, ⟨by show _ ≤ 1 + rq; omega, by show 1 + rq ≤ _; omega⟩, by show in64 0; unfold in64; omega⟩
        · exact ((((Below.refl w.heap.size w).trans HL.out).alloc hb0 _).alloc (by simp; omega) _).grown hgrow (by simp; omega) (fun q hq => (HI.out.row.lt q hq).1)
      case measure => simp [intOf]; omega
    · have hk1 : 1 ≤ k := by omega
      have HSF := hsf
      clear hsf
      obtain ⟨g, cap2, rfl, hO⟩ := hI.own (by omega)
      have TN := Lib.hid (fun w => turns_any k turn w ht hk1 hk8)
      have RN := fun w => rrest_any turn k w ht (by omega) (by omega)
      obtain ⟨r0, r1⟩ := restI_bd turn k (by omega) (by omega)
      have hti := turnsI_is k turn hk1
      obtain ⟨r, hr⟩ : ∃ r : Nat, restI turn k = (r : Int) := ⟨(restI turn k).toNat, by omega⟩
      rw [hr] at RN r0 r1
      have RN := Lib.hid RN
      generalize turnsI k turn = τ at *
      have hτ : τ ≤ 8 := by omega
      have HTI := Lib.hid hti
      have HLEN := Lib.hid hI.len
      have HO0 := Lib.hid hO
      have HL0 := Lib.hid hL
      clear hr hti hI hO hL
      by_cases hl : k < l.length
      · have g1 : decide ((k : Int) < ((l.length : Nat) : Int)) = true := decide_eq_true (by omega)
        have g2 : decide ((k : Int) < M) = false := decide_eq_false (by omega)
        clear hgo
        go_wp2
        go_loopw [15] (fun i wr2 => ∃ (m : Nat) (ts2 : List Ts), m ≤ k ∧ i = .int .i64 m ∧ OwnT w.heap.size wr2 g cap2 ts2 ∧ ts2.length = k ∧ Hid (SFs ts2) ∧ Hid (∀ (i : Nat) (x : Ts), ts2[i]? = some x → i < m → x.p = 1 + ((i : Int) * (τ : Int) + (r : Int)) % ((k : Nat) : Int)) ∧ Lt w wr2) (fun i _ => k - (intOf i).toNat)
        case atStart => exact ⟨0, ts, Nat.zero_le _, rfl, HO0.out, HLEN.out, HSF, Lib.hid (fun i x _ h => absurd h (by omega)), HL0.out⟩
        case round =>
          obtain ⟨m, ts2, hm, rfl, hO2, hl2, hsf2, hq, hL2⟩ := hrel
          by_cases hmk : m < k
          · obtain ⟨x, hx⟩ : ∃ x, ts2[m]? = some x := ⟨ts2[m], List.getElem?_eq_getElem (by omega)⟩
            have c6 := (hO2.at_ m x hx).c6
            have fz := hO2.fz (m * 7 + 6)
            have hi0 : (0 : Int) ≤ (m : Int) := by omega
            have hi1 : (m : Int) < ((k : Nat) : Int) := by omega
            have hkz : (0 : Int) < ((k : Nat) : Int) := by omega
            have hmul : ((m * τ : Nat) : Int) = (m : Int) * (τ : Int) := Int.natCast_mul m τ
            have hmm : m * τ ≤ 8 * 8 := Nat.mul_le_mul (by omega) hτ
            have hm0 : (0 : Int) ≤ (m : Int) * (τ : Int) := by rw [← hmul]; omega
            have hm1 : (m : Int) * (τ : Int) ≤ 64 := by rw [← hmul]; omega
            have hp0 : 0 ≤ ((m : Int) * (τ : Int) + (r : Int)) % ((k : Nat) : Int) := Int.emod_nonneg _ (by omega)
            have hp1 : ((m : Int) * (τ : Int) + (r : Int)) % ((k : Nat) : Int) < ((k : Nat) : Int) := Int.emod_lt_of_pos _ hkz
            have HX := Lib.hid hx
            have HO2 := Lib.hid hO2
            have HL2 := Lib.hid hL2
            have HLL := Lib.hid hl2
            clear hmul hmm hx hO2 hL2 hl2 hp0 hp1
            go_wp2_with (first
              | (go_at_call 24; (with_reducible refine (TN.out _).mono ?_); rintro e w' ⟨rfl, rfl⟩)
              | (go_at_call 23; (with_reducible refine (RN.out _).mono ?_); rintro e w' ⟨rfl, rfl⟩))
            go_roundw
            case rel =>
              have hp0 : 0 ≤ ((m : Int) * (τ : Int) + (r : Int)) % ((k : Nat) : Int) := Int.emod_nonneg _ (by omega)
              have hp1 : ((m : Int) * (τ : Int) + (r : Int)) % ((k : Nat) : Int) < ((k : Nat) : Int) := Int.emod_lt_of_pos _ (by omega)
              refine ⟨m + 1, ts2.set m { x with p := 1 + ((m : Int) * (τ : Int) + (r : Int)) % ((k : Nat) : Int) }, by omega, by go_num, (by rw [wrap_p _ hp0 hp1 hk8]; exact HO2.out.setP HX.out _ (in64_p _ hp0 hp1 hk8)), by rw [List.length_set]; exact HLL.out, Lib.hid (hsf2.out.setP HX.out _), Lib.hid (fun i y hy hi => ?_), setCell_own HL2.out HO2.out.hB _⟩
              by_cases e : m = i
              · subst e
                rw [List.getElem?_set_self (by rw [HLL.out]; omega)] at hy
                cases hy
                rfl
              · rw [List.getElem?_set_ne e] at hy
                exact hq.out i y hy (by omega)
            case measure => simp [intOf]; omega
          · obtain rfl : m = k := by omega
            have HL2 := Lib.hid hL2
            have HO2 := Lib.hid hO2
            have HLL := Lib.hid hl2
            clear hL2 hO2 hl2
            go_wp2
            go_ret
            refine ⟨_, cap2, ts2, by rw [HLL.out]; rfl, HO2.out.row, by rw [HLL.out]; omega, by rw [HLL.out]; omega, ?_, hsf2.out, ?_, Below.trans HB.out (Below.mono HL2.out (Below.size HB.out))⟩
            · exact dist_of (by omega) hk8 (by omega) HTI.out HLL.out (fun i x hx => hq.out i x hx (by have := (List.getElem?_eq_some_iff.1 hx).1; rw [HLL.out] at this; exact this))
            · exact p_bd (by omega) hk8 (fun i x hx => hq.out i x hx (by have := (List.getElem?_eq_some_iff.1 hx).1; rw [HLL.out] at this; exact this))
      · have g1 : decide ((k : Int) < ((l.length : Nat) : Int)) = false := decide_eq_false (by omega)
        clear hgo
        go_wp2
        go_loopw [15] (fun i wr2 => ∃ (m : Nat) (ts2 : List Ts), m ≤ k ∧ i = .int .i64 m ∧ OwnT w.heap.size wr2 g cap2 ts2 ∧ ts2.length = k ∧ Hid (SFs ts2) ∧ Hid (∀ (i : Nat) (x : Ts), ts2[i]? = some x → i < m → x.p = 1 + ((i : Int) * (τ : Int) + (r : Int)) % ((k : Nat) : Int)) ∧ Lt w wr2) (fun i _ => k - (intOf i).toNat)
        case atStart => exact ⟨0, ts, Nat.zero_le _, rfl, HO0.out, HLEN.out, HSF, Lib.hid (fun i x _ h => absurd h (by omega)), HL0.out⟩
        case round =>
          obtain ⟨m, ts2, hm, rfl, hO2, hl2, hsf2, hq, hL2⟩ := hrel
          by_cases hmk : m < k
          · obtain ⟨x, hx⟩ : ∃ x, ts2[m]? = some x := ⟨ts2[m], List.getElem?_eq_getElem (by omega)⟩
            have c6 := (hO2.at_ m x hx).c6
            have fz := hO2.fz (m * 7 + 6)
            have hi0 : (0 : Int) ≤ (m : Int) := by omega
            have hi1 : (m : Int) < ((k : Nat) : Int) := by omega
            have hkz : (0 : Int) < ((k : Nat) : Int) := by omega
            have hmul : ((m * τ : Nat) : Int) = (m : Int) * (τ : Int) := Int.natCast_mul m τ
            have hmm : m * τ ≤ 8 * 8 := Nat.mul_le_mul (by omega) hτ
            have hm0 : (0 : Int) ≤ (m : Int) * (τ : Int) := by rw [← hmul]; omega
            have hm1 : (m : Int) * (τ : Int) ≤ 64 := by rw [← hmul]; omega
            have hp0 : 0 ≤ ((m : Int) * (τ : Int) + (r : Int)) % ((k : Nat) : Int) := Int.emod_nonneg _ (by omega)
            have hp1 : ((m : Int) * (τ : Int) + (r : Int)) % ((k : Nat) : Int) < ((k : Nat) : Int) := Int.emod_lt_of_pos _ hkz
            have HX := Lib.hid hx
            have HO2 := Lib.hid hO2
            have HL2 := Lib.hid hL2
            have HLL := Lib.hid hl2
            clear hmul hmm hx hO2 hL2 hl2 hp0 hp1
            go_wp2_with (first
              | (go_at_call 24; (with_reducible refine (TN.out _).mono ?_); rintro e w' ⟨rfl, rfl⟩)
              | (go_at_call 23; (with_reducible refine (RN.out _).mono ?_); rintro e w' ⟨rfl, rfl⟩))
            go_roundw
            case rel =>
              have hp0 : 0 ≤ ((m : Int) * (τ : Int) + (r : Int)) % ((k : Nat) : Int) := Int.emod_nonneg _ (by omega)
              have hp1 : ((m : Int) * (τ : Int) + (r : Int)) % ((k : Nat) : Int) < ((k : Nat) : Int) := Int.emod_lt_of_pos _ (by omega)
              refine ⟨m + 1, ts2.set m { x with p := 1 + ((m : Int) * (τ : Int) + (r : Int)) % ((k : Nat) : Int) }, by omega, by go_num, (by rw [wrap_p _ hp0 hp1 hk8]; exact HO2.out.setP HX.out _ (in64_p _ hp0 hp1 hk8)), by rw [List.length_set]; exact HLL.out, Lib.hid (hsf2.out.setP HX.out _), Lib.hid (fun i y hy hi => ?_), setCell_own HL2.out HO2.out.hB _⟩
              by_cases e : m = i
              · subst e
                rw [List.getElem?_set_self (by rw [HLL.out]; omega)] at hy
                cases hy
                rfl
              · rw [List.getElem?_set_ne e] at hy
                exact hq.out i y hy (by omega)
            case measure => simp [intOf]; omega
          · obtain rfl : m = k := by omega
            have HL2 := Lib.hid hL2
            have HO2 := Lib.hid hO2
            have HLL := Lib.hid hl2
            clear hL2 hO2 hl2
            go_wp2
            go_ret
            refine ⟨_, cap2, ts2, by rw [HLL.out]; rfl, HO2.out.row, by rw [HLL.out]; omega, by rw [HLL.out]; omega, ?_, hsf2.out, ?_, Below.trans HB.out (Below.mono HL2.out (Below.size HB.out))⟩
            · exact dist_of (by omega) hk8 (by omega) HTI.out HLL.out (fun i x hx => hq.out i x hx (by have := (List.getElem?_eq_some_iff.1 hx).1; rw [HLL.out] at this; exact this))
            · exact p_bd (by omega) hk8 (fun i x hx => hq.out i x hx (by have := (List.getElem?_eq_some_iff.1 hx).1; rw [HLL.out] at this; exact this))

set_option maxRecDepth 100000 in
set_option maxHeartbeats 8000000 in
theorem set_none (M : Int) (hM1 : 1 ≤ M) (hM8 : M ≤ 8) (A : Option Addr) (cap : Nat) (turn : Int) (w : World) (ht : in64 turn) :
    Calls Tryz.prog 8 #[.slice A 0 cap, .int .i64 M, .int .i64 turn] w (SetPost M w) := by
  obtain ⟨i0, hi, hz0, hz1, hz2⟩ := info_parts infoTs
  obtain ⟨W0, hW0, hR, hB⟩ : ∃ W0, w.alloc (.cells #[.int .i64 turn, .int .i64 0, .int .i64 0, .int .i64 0, .int .i64 0] 61) = W0 ∧ SRow W0 (some ⟨w.heap.size, 0, none⟩) 1 [⟨turn, 0, 0, 0, 0⟩] ∧ Below w.heap.size w W0 := by
    refine ⟨_, rfl, ⟨by simp, by omega, fun x hx => ?_, fun i x hx => ?_⟩, (Below.refl _ _).alloc (Nat.le_refl _) _⟩
    · obtain rfl := List.mem_singleton.1 hx
      exact ⟨ht, by show in64 0; unfold in64; omega, by show in64 0; unfold in64; omega, by show in64 0; unfold in64; omega, by show in64 0; unfold in64; omega⟩
    · have hi : i = 0 := by
        have := (List.getElem?_eq_some_iff.1 hx).1
        simp at this
        exact this
      subst hi
      obtain rfl : (⟨turn, 0, 0, 0, 0⟩ : Sp) = x := by simpa using hx
      refine ⟨_, _, rfl, ⟨fun j v hv => ?_⟩⟩
      rw [cell_of_row _ _ _ _ _ _ (heap_alloc_new w _)]
      simpa [spL] using hv
  have HW := Lib.hid hW0
  have ROW := Lib.hid hR
  have HB := Lib.hid hB
  clear hW0 hR hB
  go_enter Tryz.func8, Tryz.ntmps8
  go_upto_region 4 with (fail)
  rw [HW.out]
  generalize (some ⟨w.heap.size, 0, none⟩ : Option Addr) = A2 at *
  have hmx : 1 ≤ 9223372036854775807 := by omega
  go_wp2
  go_loopw [7, 8] (fun v i wr => ∃ (k : Nat) (ts : List Ts), k ≤ 1 ∧ (k : Int) ≤ M ∧ i = .int .i64 k ∧ SetIn W0.heap.size wr v k ts ∧ Hid (SFs ts) ∧ Lt W0 wr) (fun _ i _ => 8 - (intOf i).toNat)
  case atStart => exact ⟨0, [], Nat.zero_le _, by omega, rfl, SetIn.nil _ _, Lib.hid (fun i x h => by simp at h), Below.refl _ _⟩
  case round =>
    obtain ⟨k, ts, hk, hkM, rfl, hI, hsf, hL⟩ := hrel
    have hk8 : k ≤ 8 := by omega
    by_cases hgo : k < 1 ∧ (k : Int) < M
    · obtain ⟨hlt, h8⟩ := hgo
      obtain ⟨b, o, x, rfl, hx, hxw, hbl, hT⟩ := ROW.out.get hlt
      have hTr := hT.later hL
      have s0 := hTr.c0
      have s1 := hTr.c1
      have s2 := hTr.c2
      have s3 := hTr.c3
      have s4 := hTr.c4
      have hi0 : (0 : Int) ≤ (k : Int) := by omega
      have hi1 : (k : Int) < ((1 : Nat) : Int) := by omega
      have HXW := Lib.hid hxw
      clear hT hTr hx hxw hbl
      go_upto_region 8 with (go_at_call 23; refine (rrest_ex _ _ _ HXW.out.c (by omega) (by omega)).mono ?_; rintro e w' ⟨rc, rfl, rc0, rc1, rfl⟩)
      go_upto_region 9 with (go_at_call 23; refine (rrest_ex _ _ _ HXW.out.d (by omega) (by omega)).mono ?_; rintro e w' ⟨rd, rfl, rd0, rd1, rfl⟩)
      go_upto_region 10 with (go_at_call 23; refine (rrest_ex _ _ _ HXW.out.j (by omega) (by omega)).mono ?_; rintro e w' ⟨rj, rfl, rj0, rj1, rfl⟩)
      go_upto_region 11 with (go_at_call 23; refine (rrest_ex _ _ _ HXW.out.t (by omega) (by omega)).mono ?_; rintro e w' ⟨rt, rfl, rt0, rt1, rfl⟩)
      go_upto_region 12 with (go_at_call 23; refine (rrest_ex _ _ _ HXW.out.q (by omega) (by omega)).mono ?_; rintro e w' ⟨rq, rfl, rq0, rq1, rfl⟩)
      have hcv := fun W => conv_n W (97 + (k : Int)) (by omega) (by omega)
      have hwr : IntKind.u8.wrap (97 + (k : Int)) = 97 + (k : Int) := by rw [IntKind.wrap_u8]; omega
      obtain ⟨nm, hnm, hnms⟩ : ∃ nm, ({ data := #[116] } : ByteArray) ++ chr (97 + (k : Int)) = nm ∧ nm.size ≤ 10 := ⟨_, rfl, by rw [ByteArray.size_append, chr_size]; decide⟩
      have hnk := Lib.hid (hnm.symm.trans (name_of k))
      have hseven := seven_new (wr.alloc (.cells #[.int .u8 (97 + (k : Int))] 5)) ⟨nm, 1 + rc, 1 + rc + rd + rt, 1 + rc + rd, rj, 1 + rq, 0⟩
      rw [World.size_alloc] at hseven
      have HI := Lib.hid hI
      have HL := Lib.hid hL
      have H7 := Lib.hid hseven
      clear hseven hI hL s0 s1 s2 s3 s4
      go_wp2_with (at_builtin; refine wpList_append_own _ rfl _ _ 25 rfl W0.heap.size 45 i0 _ 7 64 Tryz.underlying25 hi hz0 hz1 hz2 rfl (by decide) _ _ _ rfl ((HI.out.row.alloc _).alloc _) ⟨wr.heap.size + 1, 0, none⟩ 1 1 (tsL ⟨nm, 1 + rc, 1 + rc + rd + rt, 1 + rc + rd, rj, 1 + rq, 0⟩) rfl rfl H7.out (tsL_one _) (by unfold maxLen; omega) (by omega) (by have := Below.size HL.out; simp; omega) ?_; intro v' w4 hown' hgrow hnil')
      go_roundw
      case rel =>
        have hb0 := Below.size HL.out
        refine ⟨k + 1, ts ++ [⟨nm, 1 + rc, 1 + rc + rd + rt, 1 + rc + rd, rj, 1 + rq, 0⟩], by omega, by omega, by go_num, ⟨by simp [HI.out.len], fun y hy => ?_, by rw [tsCells_snoc]; exact hown'⟩, Lib.hid (hsf.out.snoc HI.out.len ⟨hnk.out, by show 1 ≤ 1 + rc; omega, by show 1 + rc ≤ 4; omega, by show 1 + rc + rj ≤ 1 + rc + rd; omega, by show 1 + rc + rd ≤ 14; omega, by show 0 ≤ rj; omega, by show 1 + rc + rd ≤ 1 + rc + rd + rt; omega, by show 1 + rc + rd + rt ≤ 20; omega, by show 1 ≤ 1 + rq; omega, by show 1 + rq ≤ 1 + rc; omega⟩), ?_⟩
        · rcases List.mem_append.1 hy with hy | hy
          · exact HI.out.wf y hy
          · obtain rfl := List.mem_singleton.1 hy
            exact ⟨by show nm.size ≤ _; omega, ⟨by show _ ≤ 1 + rc; omega, by show 1 + rc ≤ _; omega⟩, ⟨by show _ ≤ 1 + rc + rd + rt; omega, by show 1 + rc + rd + rt ≤ _; omega⟩, ⟨by show _ ≤ 1 + rc + rd; omega, by show 1 + rc + rd ≤ _; omega⟩, ⟨by show _ ≤ rj; omega, by show rj ≤ _; omega⟩, ⟨by show _ ≤ 1 + rq; omega, by show 1 + rq ≤ _; omega⟩, by show in64 0; unfold in64; omega⟩
        · exact ((((Below.refl W0.heap.size W0).trans HL.out).alloc hb0 _).alloc (by simp; omega) _).grown hgrow (by simp; omega) (fun q hq => (HI.out.row.lt q hq).1)
      case measure => simp [intOf]; omega
    · have hk1 : 1 ≤ k := by omega
      have HSF := hsf
      clear hsf
      obtain ⟨g, cap2, rfl, hO⟩ := hI.own (by omega)
      have TN := Lib.hid (fun w => turns_any k turn w ht hk1 hk8)
      have RN := fun w => rrest_any turn k w ht (by omega) (by omega)
      obtain ⟨r0, r1⟩ := restI_bd turn k (by omega) (by omega)
      have hti := turnsI_is k turn hk1
      obtain ⟨r, hr⟩ : ∃ r : Nat, restI turn k = (r : Int) := ⟨(restI turn k).toNat, by omega⟩
      rw [hr] at RN r0 r1
      have RN := Lib.hid RN
      generalize turnsI k turn = τ at *
      have hτ : τ ≤ 8 := by omega
      have HTI := Lib.hid hti
      have HLEN := Lib.hid hI.len
      have HO0 := Lib.hid hO
      have HL0 := Lib.hid hL
      clear hr hti hI hO hL
      have hl : ¬ k < 1 := by omega
      · have g1 : decide ((k : Int) < ((1 : Nat) : Int)) = false := decide_eq_false (by omega)
        clear hgo
        go_wp2
        go_loopw [15] (fun i wr2 => ∃ (m : Nat) (ts2 : List Ts), m ≤ k ∧ i = .int .i64 m ∧ OwnT W0.heap.size wr2 g cap2 ts2 ∧ ts2.length = k ∧ Hid (SFs ts2) ∧ Hid (∀ (i : Nat) (x : Ts), ts2[i]? = some x → i < m → x.p = 1 + ((i : Int) * (τ : Int) + (r : Int)) % ((k : Nat) : Int)) ∧ Lt W0 wr2) (fun i _ => k - (intOf i).toNat)
        case atStart => exact ⟨0, ts, Nat.zero_le _, rfl, HO0.out, HLEN.out, HSF, Lib.hid (fun i x _ h => absurd h (by omega)), HL0.out⟩
        case round =>
          obtain ⟨m, ts2, hm, rfl, hO2, hl2, hsf2, hq, hL2⟩ := hrel
          by_cases hmk : m < k
          · obtain ⟨x, hx⟩ : ∃ x, ts2[m]? = some x := ⟨ts2[m], List.getElem?_eq_getElem (by omega)⟩
            have c6 := (hO2.at_ m x hx).c6
            have fz := hO2.fz (m * 7 + 6)
            have hi0 : (0 : Int) ≤ (m : Int) := by omega
            have hi1 : (m : Int) < ((k : Nat) : Int) := by omega
            have hkz : (0 : Int) < ((k : Nat) : Int) := by omega
            have hmul : ((m * τ : Nat) : Int) = (m : Int) * (τ : Int) := Int.natCast_mul m τ
            have hmm : m * τ ≤ 8 * 8 := Nat.mul_le_mul (by omega) hτ
            have hm0 : (0 : Int) ≤ (m : Int) * (τ : Int) := by rw [← hmul]; omega
            have hm1 : (m : Int) * (τ : Int) ≤ 64 := by rw [← hmul]; omega
            have hp0 : 0 ≤ ((m : Int) * (τ : Int) + (r : Int)) % ((k : Nat) : Int) := Int.emod_nonneg _ (by omega)
            have hp1 : ((m : Int) * (τ : Int) + (r : Int)) % ((k : Nat) : Int) < ((k : Nat) : Int) := Int.emod_lt_of_pos _ hkz
            have HX := Lib.hid hx
            have HO2 := Lib.hid hO2
            have HL2 := Lib.hid hL2
            have HLL := Lib.hid hl2
            clear hmul hmm hx hO2 hL2 hl2 hp0 hp1
            go_wp2_with (first
              | (go_at_call 24; (with_reducible refine (TN.out _).mono ?_); rintro e w' ⟨rfl, rfl⟩)
              | (go_at_call 23; (with_reducible refine (RN.out _).mono ?_); rintro e w' ⟨rfl, rfl⟩))
            go_roundw
            case rel =>
              have hp0 : 0 ≤ ((m : Int) * (τ : Int) + (r : Int)) % ((k : Nat) : Int) := Int.emod_nonneg _ (by omega)
              have hp1 : ((m : Int) * (τ : Int) + (r : Int)) % ((k : Nat) : Int) < ((k : Nat) : Int) := Int.emod_lt_of_pos _ (by omega)
              refine ⟨m + 1, ts2.set m { x with p := 1 + ((m : Int) * (τ : Int) + (r : Int)) % ((k : Nat) : Int) }, by omega, by go_num, (by rw [wrap_p _ hp0 hp1 hk8]; exact HO2.out.setP HX.out _ (in64_p _ hp0 hp1 hk8)), by rw [List.length_set]; exact HLL.out, Lib.hid (hsf2.out.setP HX.out _), Lib.hid (fun i y hy hi => ?_), setCell_own HL2.out HO2.out.hB _⟩
              by_cases e : m = i
              · subst e
                rw [List.getElem?_set_self (by rw [HLL.out]; omega)] at hy
                cases hy
                rfl
              · rw [List.getElem?_set_ne e] at hy
                exact hq.out i y hy (by omega)
            case measure => simp [intOf]; omega
          · obtain rfl : m = k := by omega
            have HL2 := Lib.hid hL2
            have HO2 := Lib.hid hO2
            have HLL := Lib.hid hl2
            clear hL2 hO2 hl2
            go_wp2
            go_ret
            refine ⟨_, cap2, ts2, by rw [HLL.out]; rfl, HO2.out.row, by rw [HLL.out]; omega, by rw [HLL.out]; omega, ?_, hsf2.out, ?_, Below.trans HB.out (Below.mono HL2.out (Below.size HB.out))⟩
            · exact dist_of (by omega) hk8 (by omega) HTI.out HLL.out (fun i x hx => hq.out i x hx (by have := (List.getElem?_eq_some_iff.1 hx).1; rw [HLL.out] at this; exact this))
            · exact p_bd (by omega) hk8 (fun i x hx => hq.out i x hx (by have := (List.getElem?_eq_some_iff.1 hx).1; rw [HLL.out] at this; exact this))

theorem set_any (M : Int) (hM1 : 1 ≤ M) (hM8 : M ≤ 8) (A : Option Addr) (cap : Nat) (l : List Sp) (turn : Int) (w : World) (hR : SRow w A cap l) (ht : in64 turn) :
    Calls Tryz.prog 8 #[.slice A l.length cap, .int .i64 M, .int .i64 turn] w (SetPost M w) := by
  by_cases h0 : l.length = 0
  · rw [h0]; exact set_none M hM1 hM8 A cap turn w ht
  · exact set_some M hM1 hM8 A cap l turn w hR ht h0
end Go.Proofs.YtngmaiiibinkaaaGreat
/- Jobs and raw jobs as values and in memory: five cells, the last of them a slice of numbers; rows of them, also of the call's own; what stays as it was. -/
namespace Go.Proofs.YtngmaiiibinkaaaGreat
open Go.RowKit
set_option linter.unusedVariables false
set_option linter.unusedSimpArgs false

/-! ### What stays -/
/-- Of what was there nothing has turned but these blocks. -/
structure Kept (X : List Nat) (w w' : World) : Prop where
  os : w'.os = w.os
  tape : w'.tape = w.tape
  output : w'.output = w.output
  size : w.heap.size ≤ w'.heap.size
  block : ∀ k, k < w.heap.size → k ∉ X → w'.heap[k]? = w.heap[k]?
theorem Kept.refl (X : List Nat) (w : World) : Kept X w w := ⟨rfl, rfl, rfl, Nat.le_refl _, fun _ _ _ => rfl⟩
theorem Kept.trans {X : List Nat} {a b c : World} (h : Kept X a b) (k : Kept X b c) : Kept X a c :=
  ⟨k.os.trans h.os, k.tape.trans h.tape, k.output.trans h.output, Nat.le_trans h.size k.size, fun i hi hx => (k.block i (Nat.lt_of_lt_of_le hi h.size) hx).trans (h.block i hi hx)⟩
theorem Kept.of (X : List Nat) {w w' : World} (h : Below w.heap.size w w') : Kept X w w' := ⟨h.os, h.tape, h.output, h.size, fun k hk _ => h.block k hk⟩
theorem Kept.mono {X Y : List Nat} {w w' : World} (h : Kept X w w') (hs : ∀ k ∈ X, k ∈ Y) : Kept Y w w' := ⟨h.os, h.tape, h.output, h.size, fun k hk hx => h.block k hk (fun hm => hx (hs k hm))⟩
theorem Kept.less {X Y : List Nat} {w w' : World} (h : Kept X w w') (hs : ∀ k ∈ X, k ∈ Y ∨ w.heap.size ≤ k) : Kept Y w w' := ⟨h.os, h.tape, h.output, h.size, fun k hk hx => h.block k hk (fun hm => by rcases hs k hm with h | h; exact hx h; omega)⟩
theorem Kept.later {X : List Nat} {a w w' : World} (h : Kept X a w) (hb : Below w.heap.size w w') : Kept X a w' := h.trans (Kept.of X hb)
theorem Kept.set {X : List Nat} {a w : World} (h : Kept X a w) (b i : Nat) (v : Value) (hb : b ∈ X) : Kept X a (w.setCell ⟨b, i, none⟩ v) :=
  h.trans ⟨rfl, rfl, rfl, by simp [World.setCell], fun k hk hx => Below.heap_setCell _ _ _ _ (fun e => hx (by rw [e]; exact hb))⟩
theorem Kept.put {X : List Nat} {a w : World} (h : Kept X a w) (b : Nat) (o : Obj) (hb : b ∈ X) : Kept X a (w.putObj b o) :=
  h.trans ⟨rfl, rfl, rfl, by simp, fun k hk hx => World.putObj_heap_other (fun e => hx (by rw [e]; exact hb))⟩
theorem Kept.below {X : List Nat} {w w' : World} {B : Nat} (h : Kept X w w') (hB : B ≤ w.heap.size) (hX : ∀ k ∈ X, B ≤ k) : Below B w w' :=
  ⟨h.os, h.tape, h.output, h.size, fun k hk => h.block k (by omega) (fun hm => by have := hX k hm; omega)⟩
theorem Kept.cell {X : List Nat} {w w' : World} (h : Kept X w w') {b i : Nat} (hl : b < w.heap.size) (hx : b ∉ X) : w'.cell? ⟨b, i, none⟩ = w.cell? ⟨b, i, none⟩ :=
  World.cell?_of_block (w := w) (h.block b hl hx)
theorem kept_grown {X : List Nat} {w w' : World} {row : Option Nat} (hg : w.grownBy w' row) (h : ∀ k, row = some k → k ∈ X) : Kept X w w' :=
  ⟨hg.os, hg.tape, hg.output, hg.size, fun k hk hx => hg.block k hk (fun e => hx (h k e.symm))⟩
theorem Kept.row {X : List Nat} {W W' : World} (h : Kept X W W') {base e size k : Nat} {v : Value} {xs : List Value} (hr : W.ownsRow base e size v k xs) (hx : ∀ g, v.ownBlock = some g → g ∉ X) : W'.ownsRow base e size v k xs := by
  obtain ⟨h1, h2⟩ := hr
  refine ⟨h1, ?_⟩
  rcases h2 with h2 | ⟨g, cap, cur, hv, hg, hh, r⟩
  · exact .inl h2
  · subst hv
    exact .inr ⟨g, cap, cur, rfl, hg, (h.block g (Array.getElem?_eq_some_iff.1 hh).1 (hx g rfl)).trans hh, r⟩
theorem own_len {w : World} {B e size n : Nat} {v : Value} {xs : List Value} (h : w.ownsRow B e size v n xs) : ∃ A cap, v = .slice A n cap ∧ n ≤ cap ∧ cap ≤ maxLen := by
  rcases h.2 with ⟨hv, h0⟩ | ⟨g, cap, cur, hv, hb, hh, hle, hmx, _, _⟩
  · exact ⟨none, 0, by rw [hv, h0], by omega, by unfold maxLen; omega⟩
  · exact ⟨_, cap, hv, hle, hmx⟩
theorem own_form {w : World} {B e size n : Nat} {v : Value} {xs : List Value} (h : w.ownsRow B e size v n xs) (hn : 0 < n) : ∃ g cap, v = .slice (some ⟨g, 0, none⟩) n cap ∧ B ≤ g ∧ g < w.heap.size ∧ n ≤ cap ∧ cap ≤ maxLen ∧ (∀ i, w.frozen? ⟨g, i, none⟩ = false) := by
  rcases h.2 with ⟨hv, h0⟩ | ⟨g, cap, cur, hv, hb, hh, hle, hmx, _, _⟩
  · omega
  · exact ⟨g, cap, hv, hb, (Array.getElem?_eq_some_iff.1 hh).1, hle, hmx, fun i => by simp [World.frozen?, hh]⟩
theorem own_cell {w : World} {B e size n g i : Nat} {v : Value} {xs : List Value} (h : w.ownsRow B e size v n xs) (hg : v.ownBlock = some g) {u : Value} (hu : xs[i]? = some u) : w.cell? ⟨g, i, none⟩ = some u := by
  have := h.cells hg i u hu
  rwa [add_none, Nat.zero_add] at this
theorem own_ne {w : World} {B e size n b : Nat} {v : Value} {xs : List Value} {cs : Array Value} {T : TypeId} {fr : Nat × Nat} (h : w.ownsRow B e size v n xs) (hb : w.heap[b]? = some (.cells cs T fr)) (hT : T ≠ e) : v.ownBlock ≠ some b := by
  rcases h.2 with ⟨rfl, _⟩ | ⟨g, cap, cur, rfl, _, hg, _⟩
  · simp [Value.ownBlock]
  · intro hh
    simp only [Value.ownBlock, Option.some.injEq] at hh
    subst hh
    rw [hg] at hb
    simp only [Option.some.injEq, Obj.cells.injEq] at hb
    exact hT hb.2.1.symm
theorem own_set {w : World} {B e size n i g : Nat} {v : Value} {xs : List Value} (h : w.ownsRow B e size v n xs) (hg : v.ownBlock = some g) (hi : i < n * size) (u : Value) : (w.setCell ⟨g, i, none⟩ u).ownsRow B e size v n (xs.set i u) := by
  obtain ⟨h1, h2⟩ := h
  rcases h2 with ⟨rfl, _⟩ | ⟨g', cap, cur, rfl, hb, hh, hn, hm, hs, ht⟩
  · simp [Value.ownBlock] at hg
  · simp only [Value.ownBlock, Option.some.injEq] at hg
    subst hg
    refine ⟨by rw [List.length_set]; exact h1, .inr ⟨g', cap, cur.setIfInBounds i u, rfl, hb, ?_, hn, hm, by simpa using hs, ?_⟩⟩
    · rw [setCell_eq_setRow w g' i cur e (0, 0) u hh]
      exact setRow_heap w g' cur _ e _ hh
    · rw [Array.toList_setIfInBounds, ← ht, List.take_set]

/-- What a cell holds it holds on. -/
def Cells (w w' : World) : Prop := ∀ b o v, w.cell? ⟨b, o, none⟩ = some v → w'.cell? ⟨b, o, none⟩ = some v
theorem Cells.refl (w : World) : Cells w w := fun _ _ _ h => h
theorem Cells.trans {a b c : World} (h : Cells a b) (k : Cells b c) : Cells a c := fun _ _ _ hv => k _ _ _ (h _ _ _ hv)
theorem cells_below {w w' : World} (h : Below w.heap.size w w') : Cells w w' := fun b o v hv => (h.cell (p := ⟨b, o, none⟩) (World.block_lt_of_cell? w _ hv)).trans hv
theorem cells_kept {X : List Nat} {w w' : World} (h : Kept X w w') (hX : ∀ k ∈ X, ∀ o, w.cell? ⟨k, o, none⟩ = none) : Cells w w' := fun b o v hv => by
  rw [h.cell (World.block_lt_of_cell? w _ hv) (fun hm => by rw [hX b hm o] at hv; cases hv)]
  exact hv
theorem cell_of_map {w : World} {r : Nat} {es : Array MapEntry} {c : Nat} (h : w.heap[r]? = some (.map es c)) (o : Nat) : w.cell? ⟨r, o, none⟩ = none := by simp [World.cell?, h]
theorem Row.cells {w w' : World} {A : Option Addr} {cap : Nat} {l : List Ts} (h : Row w A cap l) (hc : Cells w w') : Row w' A cap l :=
  ⟨h.le, h.mx, h.wf, fun i x hx => by
    obtain ⟨b, o, e, ht⟩ := h.at_ i x hx
    exact ⟨b, o, e, ⟨fun j v hv => hc _ _ _ (ht.r j v hv)⟩⟩⟩

/-! ### Rows of numbers -/
structure CRow (w : World) (A : Option Addr) (cap : Nat) (l : List Int) : Prop where
  le : l.length ≤ cap
  mx : cap ≤ 9223372036854775807
  wf : ∀ x ∈ l, in64 x
  at_ : ∀ i x, l[i]? = some x → ∃ b o, A = some ⟨b, o, none⟩ ∧ w.cell? ⟨b, o + i, none⟩ = some (.int .i64 x)
theorem CRow.cells {w w' : World} {A : Option Addr} {cap : Nat} {l : List Int} (h : CRow w A cap l) (hc : Cells w w') : CRow w' A cap l :=
  ⟨h.le, h.mx, h.wf, fun i x hx => by
    obtain ⟨b, o, e, ht⟩ := h.at_ i x hx
    exact ⟨b, o, e, hc _ _ _ ht⟩⟩
theorem CRow.later {w w' : World} {A : Option Addr} {cap : Nat} {l : List Int} (h : CRow w A cap l) (hb : Below w.heap.size w w') : CRow w' A cap l := h.cells (cells_below hb)
theorem CRow.nil {w : World} (A : Option Addr) (cap : Nat) (h : cap ≤ 9223372036854775807) : CRow w A cap [] := ⟨by simp, h, by simp, by simp⟩
theorem CRow.get {w : World} {A : Option Addr} {cap : Nat} {l : List Int} (h : CRow w A cap l) {k : Nat} (hk : k < l.length) : ∃ b o x, A = some ⟨b, o, none⟩ ∧ l[k]? = some x ∧ in64 x ∧ b < w.heap.size ∧ w.cell? ⟨b, o + k, none⟩ = some (.int .i64 x) := by
  obtain ⟨b, o, e, ht⟩ := h.at_ k l[k] (List.getElem?_eq_getElem hk)
  exact ⟨b, o, l[k], e, List.getElem?_eq_getElem hk, h.wf _ (List.getElem_mem hk), World.block_lt_of_cell? w _ ht, ht⟩
theorem CRow.take {w : World} {A : Option Addr} {cap : Nat} {l : List Int} (h : CRow w A cap l) (n : Nat) : CRow w A cap (l.take n) :=
  ⟨by have := h.le; rw [List.length_take]; omega, h.mx, fun x hx => h.wf x (List.mem_of_mem_take hx), fun i x hx => by
    rw [List.getElem?_take] at hx
    split at hx
    · exact h.at_ i x hx
    · cases hx⟩
def numL (l : List Int) : List Value := l.map (Value.int .i64)
theorem numL_one (l : List Int) : ∀ u ∈ numL l, u.oneCell' = true := by
  intro u hu
  obtain ⟨x, _, rfl⟩ := List.mem_map.1 hu
  rfl
theorem crow_own {w : World} {B e n : Nat} {v : Value} {l : List Int} (h : w.ownsRow B e 1 v n (numL l)) (hw : ∀ x ∈ l, in64 x) : ∃ A cap, v = .slice A l.length cap ∧ n = l.length ∧ CRow w A cap l ∧ (l ≠ [] → ∀ a, A = some a → B ≤ a.block ∧ ∃ cs fr, w.heap[a.block]? = some (.cells cs e fr)) := by
  have hn : n = l.length := by have := h.1; simp [numL] at this; omega
  subst hn
  obtain ⟨A, cap, hv, hle, hmx⟩ := own_len h
  refine ⟨A, cap, hv, rfl, ⟨hle, hmx, hw, fun i x hx => ?_⟩, fun hne a ha => ?_⟩
  · rcases h.2 with ⟨h1, h0⟩ | ⟨g, cap', cur, h1, _, hg, _⟩
    · have := (List.getElem?_eq_some_iff.1 hx).1
      omega
    · rw [hv] at h1
      simp only [Value.slice.injEq] at h1
      obtain ⟨rfl, _, rfl⟩ := h1
      refine ⟨g, 0, rfl, ?_⟩
      have := own_cell h (g := g) (by rw [hv]; rfl) (i := i) (u := .int .i64 x) (by simp [numL, hx])
      rwa [Nat.zero_add]
  · rcases h.2 with ⟨h1, h0⟩ | ⟨g, cap', cur, h1, hB, hg, _⟩
    · rw [List.length_eq_zero_iff] at h0
      exact absurd h0 hne
    · rw [hv] at h1
      simp only [Value.slice.injEq] at h1
      obtain ⟨rfl, _, rfl⟩ := h1
      cases ha
      exact ⟨hB, _, _, hg⟩

/-! ### Five cells -/
structure Fv where
  t : Int
  a : Int
  r : Int
  k : Int
  c : List Int
deriving DecidableEq
structure FvW (x : Fv) : Prop where
  t : in64 x.t
  a : in64 x.a
  r : in64 x.r
  k : in64 x.k
def fvL (x : Fv) (A : Option Addr) (cap : Nat) : List Value := [.int .i64 x.t, .int .i64 x.a, .int .i64 x.r, .int .i64 x.k, .slice A x.c.length cap]
abbrev fvV (x : Fv) (A : Option Addr) (cap : Nat) : Value := .agg #[.int .i64 x.t, .int .i64 x.a, .int .i64 x.r, .int .i64 x.k, .slice A x.c.length cap]
theorem fvL_one (x : Fv) (A : Option Addr) (cap : Nat) : ∀ u ∈ fvL x A cap, u.oneCell' = true := by
  intro u hu
  simp only [fvL, List.mem_cons, List.not_mem_nil, or_false] at hu
  rcases hu with rfl | rfl | rfl | rfl | rfl <;> rfl
structure FAt (w : World) (b o : Nat) (x : Fv) (A : Option Addr) (cap : Nat) : Prop where
  r : w.rangeAt b o (fvL x A cap)
  wf : FvW x
  s : CRow w A cap x.c
theorem FAt.c0 {w : World} {b o cap : Nat} {x : Fv} {A : Option Addr} (h : FAt w b o x A cap) : w.cell? ⟨b, o, none⟩ = some (.int .i64 x.t) := h.r 0 _ rfl
theorem FAt.c1 {w : World} {b o cap : Nat} {x : Fv} {A : Option Addr} (h : FAt w b o x A cap) : w.cell? ⟨b, o + 1, none⟩ = some (.int .i64 x.a) := h.r 1 _ rfl
theorem FAt.c2 {w : World} {b o cap : Nat} {x : Fv} {A : Option Addr} (h : FAt w b o x A cap) : w.cell? ⟨b, o + 2, none⟩ = some (.int .i64 x.r) := h.r 2 _ rfl
theorem FAt.c3 {w : World} {b o cap : Nat} {x : Fv} {A : Option Addr} (h : FAt w b o x A cap) : w.cell? ⟨b, o + 3, none⟩ = some (.int .i64 x.k) := h.r 3 _ rfl
theorem FAt.c4 {w : World} {b o cap : Nat} {x : Fv} {A : Option Addr} (h : FAt w b o x A cap) : w.cell? ⟨b, o + 4, none⟩ = some (.slice A x.c.length cap) := h.r 4 _ rfl
theorem FAt.z {w : World} {b cap : Nat} {x : Fv} {A : Option Addr} (h : FAt w b 0 x A cap) : w.cell? ⟨b, 0, none⟩ = some (.int .i64 x.t) ∧ w.cell? ⟨b, 1, none⟩ = some (.int .i64 x.a) ∧ w.cell? ⟨b, 2, none⟩ = some (.int .i64 x.r) ∧ w.cell? ⟨b, 3, none⟩ = some (.int .i64 x.k) ∧ w.cell? ⟨b, 4, none⟩ = some (.slice A x.c.length cap) := ⟨h.c0, h.c1, h.c2, h.c3, h.c4⟩
theorem FAt.lt {w : World} {b o cap : Nat} {x : Fv} {A : Option Addr} (h : FAt w b o x A cap) : b < w.heap.size := World.block_lt_of_cell? w _ h.c0
theorem FAt.cells {w w' : World} {b o cap : Nat} {x : Fv} {A : Option Addr} (h : FAt w b o x A cap) (hc : Cells w w') : FAt w' b o x A cap := ⟨fun j v hv => hc _ _ _ (h.r j v hv), h.wf, h.s.cells hc⟩
theorem FAt.later {w w' : World} {b o cap : Nat} {x : Fv} {A : Option Addr} (h : FAt w b o x A cap) (hb : Below w.heap.size w w') : FAt w' b o x A cap := h.cells (cells_below hb)
theorem infoJ : (Tryz.prog.info? 43).map (·.size) = some 5 := by kernel_rfl
theorem infoR : (Tryz.prog.info? 69).map (·.size) = some 5 := by kernel_rfl
theorem infoJs : (Tryz.prog.info? 43).map (fun i => (i.zero, i.size, i.bytes)) = some (some (.agg #[.int .i64 0, .int .i64 0, .int .i64 0, .int .i64 0, .slice none 0 0]), 5, 56) := by kernel_rfl
theorem infoRs : (Tryz.prog.info? 69).map (fun i => (i.zero, i.size, i.bytes)) = some (some (.agg #[.int .i64 0, .int .i64 0, .int .i64 0, .int .i64 0, .slice none 0 0]), 5, 56) := by kernel_rfl
theorem info64 : (Tryz.prog.info? 2).map (fun i => (i.zero, i.size, i.bytes)) = some (some (.int .i64 0), 1, 8) := by kernel_rfl
theorem infoI : (Tryz.prog.info? 3).map (fun i => (i.zero, i.size, i.bytes)) = some (some (.int .i64 0), 1, 8) := by kernel_rfl
theorem FAt.loadJ {w : World} {b o cap : Nat} {x : Fv} {A : Option Addr} (h : FAt w b o x A cap) : (loadVar 43 ⟨b, o, none⟩).run Tryz.prog w = .ok (fvV x A cap) w :=
  run_loadVar_mid w b o 43 (fvL x A cap) _ h.r Tryz.underlying43 rfl infoJ
theorem FAt.loadR {w : World} {b o cap : Nat} {x : Fv} {A : Option Addr} (h : FAt w b o x A cap) : (loadVar 69 ⟨b, o, none⟩).run Tryz.prog w = .ok (fvV x A cap) w :=
  run_loadVar_mid w b o 69 (fvL x A cap) _ h.r Tryz.underlying69 rfl infoR
theorem FAt.new (w : World) (x : Fv) (A : Option Addr) (cap : Nat) (T : TypeId) (hw : FvW x) (hs : CRow w A cap x.c) :
    FAt (w.alloc (.cells #[.int .i64 x.t, .int .i64 x.a, .int .i64 x.r, .int .i64 x.k, .slice A x.c.length cap] T)) w.heap.size 0 x A cap :=
  ⟨fun j v hv => by rw [Nat.zero_add, cell_of_row _ _ j _ _ _ (heap_alloc_new w _)]; simpa [fvL] using hv, hw, hs.later ((Below.refl _ _).alloc (Nat.le_refl _) _)⟩
/-- A slice that reads as a row of such. -/
structure FRow (w : World) (A : Option Addr) (cap : Nat) (l : List Fv) : Prop where
  le : l.length ≤ cap
  mx : cap ≤ 9223372036854775807
  at_ : ∀ i x, l[i]? = some x → ∃ b o C cc, A = some ⟨b, o, none⟩ ∧ FAt w b (o + i * 5) x C cc
theorem FRow.cells {w w' : World} {A : Option Addr} {cap : Nat} {l : List Fv} (h : FRow w A cap l) (hc : Cells w w') : FRow w' A cap l :=
  ⟨h.le, h.mx, fun i x hx => by
    obtain ⟨b, o, C, cc, e, ht⟩ := h.at_ i x hx
    exact ⟨b, o, C, cc, e, ht.cells hc⟩⟩
theorem FRow.later {w w' : World} {A : Option Addr} {cap : Nat} {l : List Fv} (h : FRow w A cap l) (hb : Below w.heap.size w w') : FRow w' A cap l := h.cells (cells_below hb)
theorem FRow.nil {w : World} (A : Option Addr) (cap : Nat) (h : cap ≤ 9223372036854775807) : FRow w A cap [] := ⟨by simp, h, by simp⟩
theorem FRow.get {w : World} {A : Option Addr} {cap : Nat} {l : List Fv} (h : FRow w A cap l) {k : Nat} (hk : k < l.length) : ∃ b o x C cc, A = some ⟨b, o, none⟩ ∧ l[k]? = some x ∧ b < w.heap.size ∧ FAt w b (o + k * 5) x C cc := by
  obtain ⟨b, o, C, cc, e, ht⟩ := h.at_ k l[k] (List.getElem?_eq_getElem hk)
  exact ⟨b, o, l[k], C, cc, e, List.getElem?_eq_getElem hk, ht.lt, ht⟩
theorem FRow.wf {w : World} {A : Option Addr} {cap : Nat} {l : List Fv} (h : FRow w A cap l) : ∀ x ∈ l, FvW x ∧ ∀ n ∈ x.c, in64 n := fun x hx => by
  obtain ⟨i, hi, rfl⟩ := List.getElem_of_mem hx
  obtain ⟨b, o, C, cc, e, ht⟩ := h.at_ i _ (List.getElem?_eq_getElem hi)
  exact ⟨ht.wf, ht.s.wf⟩
theorem FRow.take {w : World} {A : Option Addr} {cap : Nat} {l : List Fv} (h : FRow w A cap l) (n : Nat) : FRow w A cap (l.take n) :=
  ⟨by have := h.le; rw [List.length_take]; omega, h.mx, fun i x hx => by
    rw [List.getElem?_take] at hx
    split at hx
    · exact h.at_ i x hx
    · cases hx⟩

/-! ### Rows of the call's own -/
/-- One with the slice of its numbers. -/
structure Gv where
  x : Fv
  A : Option Addr
  cap : Nat
def gvC (gs : List Gv) : List Value := gs.flatMap (fun g => fvL g.x g.A g.cap)
theorem gvC_snoc (gs : List Gv) (g : Gv) : gvC (gs ++ [g]) = gvC gs ++ fvL g.x g.A g.cap := by simp [gvC]
theorem gvC_length (gs : List Gv) : (gvC gs).length = gs.length * 5 := by
  induction gs with
  | nil => rfl
  | cons a r ih => rw [gvC, List.flatMap_cons, List.length_append, ← gvC, ih]; simp [fvL]; omega
theorem gvC_get (gs : List Gv) : ∀ (i : Nat) (g : Gv), gs[i]? = some g → ∀ j v, (fvL g.x g.A g.cap)[j]? = some v → (gvC gs)[i * 5 + j]? = some v := by
  induction gs with
  | nil => intro i x h; simp at h
  | cons a r ih =>
    intro i x h j v hv
    cases i with
    | zero =>
      simp at h; subst h
      have hj : j < 5 := (List.getElem?_eq_some_iff.1 hv).1
      rw [Nat.zero_mul, Nat.zero_add, gvC, List.flatMap_cons, List.getElem?_append_left (by simp [fvL]; omega)]
      exact hv
    | succ i =>
      simp only [List.getElem?_cons_succ] at h
      have := ih i x h j v hv
      rw [gvC, List.flatMap_cons, List.getElem?_append_right (by simp [fvL]; omega)]
      rw [show (i + 1) * 5 + j - (fvL a.x a.A a.cap).length = i * 5 + j by simp [fvL]; omega]
      exact this
/-- The numbers of one lie in no block of the row's kind, or in an old one. -/
def Safe (e : TypeId) (B : Nat) (w : World) (A : Option Addr) (c : List Int) : Prop := c ≠ [] → ∀ a, A = some a → a.block < B ∨ ∃ cs T fr, w.heap[a.block]? = some (.cells cs T fr) ∧ T ≠ e
structure GOk (e : TypeId) (B : Nat) (w : World) (g : Gv) : Prop where
  wf : FvW g.x
  s : CRow w g.A g.cap g.x.c
  safe : Safe e B w g.A g.x.c
structure FOwn (e : TypeId) (B : Nat) (w : World) (v : Value) (gs : List Gv) : Prop where
  row : w.ownsRow B e 5 v gs.length (gvC gs)
  each : ∀ g ∈ gs, GOk e B w g
theorem FOwn.nil (e : TypeId) (B : Nat) (w : World) : FOwn e B w (.slice none 0 0) [] := ⟨World.ownsRow_nil _ _ _ _, by simp⟩
/-- What lies outside of the row's own block, and of maps, stays: so does what its things hold. -/
theorem GOk.kept {e : TypeId} {B : Nat} {w w' : World} {g : Gv} (h : GOk e B w g) (hk : ∀ b, b < w.heap.size → b < B ∨ (∃ cs T fr, w.heap[b]? = some (.cells cs T fr) ∧ T ≠ e) → w'.heap[b]? = w.heap[b]?) : GOk e B w' g := by
  have hblk : g.x.c ≠ [] → ∀ a, g.A = some a → w'.heap[a.block]? = w.heap[a.block]? := fun hne a ha => by
    obtain ⟨b, o, x, hA, _, _, hlt, _⟩ := h.s.get (k := 0) (by rcases Nat.eq_zero_or_pos g.x.c.length with h0 | h0; exact absurd (List.length_eq_zero_iff.1 h0) hne; exact h0)
    rw [ha] at hA
    cases hA
    rcases h.safe hne _ ha with h1 | h1
    · exact hk _ hlt (.inl h1)
    · exact hk _ hlt (.inr h1)
  refine ⟨h.wf, ⟨h.s.le, h.s.mx, h.s.wf, fun i x hx => ?_⟩, fun hne a ha => ?_⟩
  · obtain ⟨b, o, hA, hc⟩ := h.s.at_ i x hx
    exact ⟨b, o, hA, (World.cell?_of_block (w := w) (a := ⟨b, o + i, none⟩) (hblk (by intro h0; rw [h0] at hx; simp at hx) ⟨b, o, none⟩ hA)).trans hc⟩
  · rcases h.safe hne a ha with h1 | ⟨cs, T, fr, h1, h2⟩
    · exact .inl h1
    · exact .inr ⟨cs, T, fr, (hblk hne a ha).trans h1, h2⟩
theorem FOwn.later {e : TypeId} {B : Nat} {w w' : World} {v : Value} {gs : List Gv} (h : FOwn e B w v gs) (hb : Below w.heap.size w w') : FOwn e B w' v gs :=
  ⟨(Kept.of [] hb).row h.row (by simp), fun g hg => (h.each g hg).kept fun b hl _ => hb.block b hl⟩
/-- A map is written to. -/
theorem FOwn.map {e : TypeId} {B : Nat} {w w' : World} {v : Value} {gs : List Gv} {r : Nat} {es : Array MapEntry} {c : Nat} (h : FOwn e B w v gs) (hk : Kept [r] w w') (hm : w.heap[r]? = some (.map es c)) (hr : B ≤ r) : FOwn e B w' v gs :=
  ⟨hk.row h.row (fun g hg => by
      rcases h.row.2 with ⟨rfl, _⟩ | ⟨g', cap, cur, rfl, _, hh, _⟩
      · simp [Value.ownBlock] at hg
      · simp only [Value.ownBlock, Option.some.injEq] at hg
        subst hg
        intro hx
        rw [List.mem_singleton] at hx
        subst hx
        rw [hm] at hh
        cases hh),
    fun g hg => (h.each g hg).kept fun b hl hs => hk.block b hl (fun hx => by
      rw [List.mem_singleton] at hx
      subst hx
      rcases hs with hs | ⟨cs, T, fr, hs, _⟩
      · omega
      · rw [hm] at hs; cases hs)⟩
/-- One more, by what append tells. -/
theorem FOwn.push {e : TypeId} {B : Nat} {w w' : World} {v v' : Value} {gs : List Gv} {g : Gv} (h : FOwn e B w v gs) (hg : GOk e B w g) (hown : w'.ownsRow B e 5 v' (gs.length + 1) (gvC gs ++ fvL g.x g.A g.cap)) (hgr : w.grownBy w' v.ownBlock) : FOwn e B w' v' (gs ++ [g]) := by
  have hk : ∀ b, b < w.heap.size → b < B ∨ (∃ cs T fr, w.heap[b]? = some (.cells cs T fr) ∧ T ≠ e) → w'.heap[b]? = w.heap[b]? := fun b hl hs => hgr.block b hl (fun hb => by
    rcases hs with hs | ⟨cs, T, fr, hs, hT⟩
    · have := (h.row.lt b hb.symm).1; omega
    · exact own_ne h.row hs hT hb.symm)
  refine ⟨by rw [List.length_append, gvC_snoc]; exact hown, fun y hy => ?_⟩
  rcases List.mem_append.1 hy with hy | hy
  · exact (h.each y hy).kept hk
  · rw [List.mem_singleton] at hy
    subst hy
    exact hg.kept hk
theorem FOwn.frow {e : TypeId} {B : Nat} {w : World} {v : Value} {gs : List Gv} (h : FOwn e B w v gs) : ∃ A cap, v = .slice A gs.length cap ∧ FRow w A cap (gs.map (·.x)) := by
  obtain ⟨A, cap, hv, hle, hmx⟩ := own_len h.row
  refine ⟨A, cap, hv, ⟨by simpa using hle, hmx, fun i x hx => ?_⟩⟩
  obtain ⟨g, hg, rfl⟩ : ∃ g, gs[i]? = some g ∧ g.x = x := by
    rw [List.getElem?_map] at hx
    cases hgi : gs[i]? with
    | none => rw [hgi] at hx; cases hx
    | some g => rw [hgi] at hx; exact ⟨g, rfl, by simpa using hx⟩
  have hi := (List.getElem?_eq_some_iff.1 hg).1
  obtain ⟨b, cap', hv', hB, hl, _, _, _⟩ := own_form h.row (by omega)
  rw [hv] at hv'
  simp only [Value.slice.injEq] at hv'
  obtain ⟨rfl, _, rfl⟩ := hv'
  have ho := h.each g (List.mem_of_getElem? hg)
  exact ⟨b, 0, g.A, g.cap, rfl, ⟨fun j u hu => by rw [Nat.zero_add]; exact own_cell h.row (g := b) (by rw [hv]; rfl) (gvC_get gs i g hg j u hu), ho.wf, ho.s⟩⟩
end Go.Proofs.YtngmaiiibinkaaaGreat
/- Places by numbers; rows merged: what the program and the document tell, as plain functions. -/
namespace Go.Proofs.YtngmaiiibinkaaaGreat
set_option linter.unusedVariables false
set_option linter.unusedSimpArgs false

/-! ### Places in order -/
def kO (ks : List Int) (i : Nat) : Int := (ks[i]?).getD 0
theorem kO_some {ks : List Int} {i : Nat} {x : Int} (h : ks[i]? = some x) : kO ks i = x := by rw [kO, h]; rfl
/-- Place a stands ahead of place b. -/
def Ahead (ks : List Int) (a b : Nat) : Prop := kO ks a < kO ks b ∨ (kO ks a = kO ks b ∧ a < b)
instance (ks : List Int) (a b : Nat) : Decidable (Ahead ks a b) := by unfold Ahead; infer_instance
structure IsOrd (ks : List Int) (o : List Nat) : Prop where
  perm : o.Perm (List.range ks.length)
  srt : o.Pairwise (Ahead ks)
theorem IsOrd.len {ks : List Int} {o : List Nat} (h : IsOrd ks o) : o.length = ks.length := by rw [h.perm.length_eq, List.length_range]
theorem IsOrd.mem {ks : List Int} {o : List Nat} (h : IsOrd ks o) {i : Nat} : i ∈ o ↔ i < ks.length := by rw [h.perm.mem_iff]; simp
theorem IsOrd.lt {ks : List Int} {o : List Nat} (h : IsOrd ks o) {k i : Nat} (hk : o[k]? = some i) : i < ks.length := h.mem.1 (List.mem_of_getElem? hk)
theorem IsOrd.nodup {ks : List Int} {o : List Nat} (h : IsOrd ks o) : o.Nodup := h.perm.nodup_iff.2 List.nodup_range
theorem IsOrd.at2 {ks : List Int} {o : List Nat} (h : IsOrd ks o) {j k a b : Nat} (hjk : j < k) (ha : o[j]? = some a) (hb : o[k]? = some b) : Ahead ks a b := by
  obtain ⟨h1, rfl⟩ := List.getElem?_eq_some_iff.1 ha
  obtain ⟨h2, rfl⟩ := List.getElem?_eq_some_iff.1 hb
  exact List.pairwise_iff_getElem.1 h.srt j k h1 h2 hjk
theorem IsOrd.eq {ks : List Int} {o o' : List Nat} (h : IsOrd ks o) (h' : IsOrd ks o') : o = o' := by
  refine List.Perm.eq_of_pairwise (le := Ahead ks) (fun a b _ _ h1 h2 => ?_) h.srt h'.srt (h.perm.trans h'.perm.symm)
  unfold Ahead at h1 h2
  omega
def cntTo (f : Nat → Bool) (k : Nat) : Nat := (List.range k).countP f
theorem cntTo_zero (f : Nat → Bool) : cntTo f 0 = 0 := rfl
theorem cntTo_yes {f : Nat → Bool} {k : Nat} (h : f k = true) : cntTo f (k + 1) = cntTo f k + 1 := by
  rw [cntTo, List.range_succ, List.countP_append, List.countP_singleton, if_pos h]; rfl
theorem cntTo_no {f : Nat → Bool} {k : Nat} (h : f k = false) : cntTo f (k + 1) = cntTo f k := by
  rw [cntTo, List.range_succ, List.countP_append, List.countP_singleton, if_neg (by rw [h]; simp)]; rfl
theorem cntTo_le (f : Nat → Bool) (k : Nat) : cntTo f k ≤ k := by
  have := List.countP_le_length (p := f) (l := List.range k)
  rwa [List.length_range] at this
def aheadB (ks : List Int) (i : Nat) : Nat → Bool := fun k => decide (Ahead ks k i)
theorem countP_first (f : Nat → Bool) : ∀ (o : List Nat) (q : Nat), q ≤ o.length → (∀ k a, o[k]? = some a → (f a = true ↔ k < q)) → o.countP f = q
  | [], q, hq, _ => by simp at hq; subst hq; rfl
  | a :: r, q, hq, h => by
    have h0 := h 0 a rfl
    cases q with
    | zero =>
      have hf : f a = false := by
        cases hfa : f a with
        | false => rfl
        | true => exact absurd (h0.1 hfa) (by omega)
      rw [List.countP_cons_of_neg (by rw [hf]; simp)]
      exact countP_first f r 0 (Nat.zero_le _) fun k b hb => by
        have := h (k + 1) b (by simpa using hb)
        constructor
        · intro e; have := this.1 e; omega
        · intro e; omega
    | succ q =>
      rw [List.countP_cons_of_pos (h0.2 (by omega))]
      congr 1
      exact countP_first f r q (by simp at hq; omega) fun k b hb => by
        have := h (k + 1) b (by simpa using hb)
        constructor
        · intro e; have := this.1 e; omega
        · intro e; exact this.2 (by omega)
theorem IsOrd.rank {ks : List Int} {o : List Nat} (h : IsOrd ks o) {q i : Nat} (hq : o[q]? = some i) : cntTo (aheadB ks i) ks.length = q := by
  have hlt := (List.getElem?_eq_some_iff.1 hq).1
  rw [cntTo, ← h.perm.countP_eq]
  refine countP_first _ o q (by omega) fun k a ha => ?_
  simp only [aheadB, decide_eq_true_eq]
  rcases Nat.lt_trichotomy k q with hk | hk | hk
  · exact ⟨fun _ => hk, fun _ => h.at2 hk ha hq⟩
  · subst hk
    obtain rfl : a = i := Option.some.inj (ha.symm.trans hq)
    refine ⟨fun e => ?_, fun e => absurd e (by omega)⟩
    unfold Ahead at e
    omega
  · refine ⟨fun e => ?_, fun e => absurd e (by omega)⟩
    have := h.at2 hk hq ha
    unfold Ahead at e this
    omega
theorem IsOrd.at_ {ks : List Int} {o : List Nat} (h : IsOrd ks o) {i : Nat} (hi : i < ks.length) : o[cntTo (aheadB ks i) ks.length]? = some i := by
  have : i ∈ o := h.mem.2 hi
  obtain ⟨q, hq, e⟩ := List.getElem_of_mem this
  have e2 : o[q]? = some i := by rw [List.getElem?_eq_getElem hq, e]
  rw [h.rank e2, e2]
/-- There is one. -/
theorem ord_ex (ks : List Int) : ∃ o, IsOrd ks o := by
  have tr : ∀ a b c : Nat, decide (Ahead ks a b ∨ a = b) = true → decide (Ahead ks b c ∨ b = c) = true → decide (Ahead ks a c ∨ a = c) = true := by
    intro a b c h1 h2
    simp only [decide_eq_true_eq] at *
    rcases h1 with h1 | rfl
    · rcases h2 with h2 | rfl
      · left
        unfold Ahead at *
        omega
      · exact .inl h1
    · exact h2
  have tot : ∀ a b : Nat, (decide (Ahead ks a b ∨ a = b) || decide (Ahead ks b a ∨ b = a)) = true := by
    intro a b
    rw [Bool.or_eq_true, decide_eq_true_eq, decide_eq_true_eq]
    unfold Ahead
    rcases Int.lt_trichotomy (kO ks a) (kO ks b) with h | h | h
    · exact .inl (.inl (.inl h))
    · rcases Nat.lt_trichotomy a b with g | g | g
      · exact .inl (.inl (.inr ⟨h, g⟩))
      · exact .inl (.inr g)
      · exact .inr (.inl (.inr ⟨h.symm, g⟩))
    · exact .inr (.inl (.inl h))
  have hp := List.mergeSort_perm (List.range ks.length) (fun a b => decide (Ahead ks a b ∨ a = b))
  have hs := List.pairwise_mergeSort (le := fun a b => decide (Ahead ks a b ∨ a = b)) tr tot (List.range ks.length)
  refine ⟨_, hp, ?_⟩
  have hn : ((List.range ks.length).mergeSort (fun a b => decide (Ahead ks a b ∨ a = b))).Nodup := hp.nodup_iff.2 List.nodup_range
  have := hs.and hn
  exact this.imp fun {a b} ⟨h1, h2⟩ => by
    simp only [decide_eq_true_eq] at h1
    rcases h1 with h1 | h1
    · exact h1
    · exact absurd h1 h2

/-! ### One number, with its places -/
def plc (ks : List Int) (r : Int) : List Nat := (List.range ks.length).filter (fun i => kO ks i == r)
/-- Runs of an order: from place j on. -/
def runE (ks : List Int) (o : List Nat) (r : Int) : Nat := (o.takeWhile (fun i => kO ks i == r)).length
def grpN (ks : List Int) : Nat → List Nat → List (Int × List Nat)
  | 0, _ => []
  | _ + 1, [] => []
  | n + 1, i :: r => (kO ks i, (i :: r).take (runE ks (i :: r) (kO ks i))) :: grpN ks n ((i :: r).drop (runE ks (i :: r) (kO ks i)))
def grp (ks : List Int) (o : List Nat) : List (Int × List Nat) := grpN ks o.length o
theorem runE_pos (ks : List Int) (i : Nat) (r : List Nat) : 1 ≤ runE ks (i :: r) (kO ks i) := by
  rw [runE, List.takeWhile_cons_of_pos (by simp)]; simp
theorem runE_le (ks : List Int) (o : List Nat) (r : Int) : runE ks o r ≤ o.length := by
  rw [runE]; exact (List.takeWhile_prefix _).length_le
theorem grpN_more (ks : List Int) : ∀ (n m : Nat) (o : List Nat), o.length ≤ n → o.length ≤ m → grpN ks n o = grpN ks m o
  | 0, m, o, h1, _ => by
    have : o = [] := List.eq_nil_of_length_eq_zero (by omega)
    subst this
    cases m <;> rfl
  | n + 1, 0, o, _, h2 => by
    have : o = [] := List.eq_nil_of_length_eq_zero (by omega)
    subst this
    rfl
  | n + 1, m + 1, [], _, _ => rfl
  | n + 1, m + 1, i :: r, h1, h2 => by
    have h := runE_pos ks i r
    simp only [List.length_cons] at h1 h2
    rw [grpN, grpN, grpN_more ks n m _ (by rw [List.length_drop, List.length_cons]; omega) (by rw [List.length_drop, List.length_cons]; omega)]
theorem grp_nil (ks : List Int) : grp ks [] = [] := rfl
theorem grp_cons (ks : List Int) (i : Nat) (r : List Nat) : grp ks (i :: r) = (kO ks i, (i :: r).take (runE ks (i :: r) (kO ks i))) :: grp ks ((i :: r).drop (runE ks (i :: r) (kO ks i))) := by
  have h := runE_pos ks i r
  rw [grp, List.length_cons, grpN, grp, grpN_more ks r.length _ _ (by rw [List.length_drop, List.length_cons]; omega) (Nat.le_refl _)]
/-- The end of a run, told by the order alone. -/
theorem runE_eq {ks : List Int} {o : List Nat} {r : Int} {t : Nat} (ht : t ≤ o.length) (h1 : ∀ k i, k < t → o[k]? = some i → kO ks i = r) (h2 : ∀ i, o[t]? = some i → kO ks i ≠ r) : runE ks o r = t := by
  induction o generalizing t with
  | nil => simp at ht; subst ht; rfl
  | cons a l ih =>
    rw [runE]
    cases t with
    | zero =>
      have := h2 a rfl
      rw [List.takeWhile_cons_of_neg (by simpa using this)]; rfl
    | succ t =>
      have h0 := h1 0 a (by omega) rfl
      rw [List.takeWhile_cons_of_pos (by simpa using h0), List.length_cons]
      congr 1
      exact ih (by simpa using ht) (fun k i hk hi => h1 (k + 1) i (by omega) (by simpa using hi)) (fun i hi => h2 i (by simpa using hi))
end Go.Proofs.YtngmaiiibinkaaaGreat
/- What the chapter asks, as plain functions: rests, sections, jobs of raw numbers, whether jobs are legal, the least raw numbers. -/
namespace Go.Proofs.YtngmaiiibinkaaaGreat
open Go.RowKit
set_option linter.unusedVariables false
set_option linter.unusedSimpArgs false

/-! ### Rests -/
theorem tmod_bd (x n : Int) (hn : 0 < n) : -n < x.tmod n ∧ x.tmod n < n := by
  rcases Int.le_total 0 x with h | h
  · rw [Int.tmod_eq_emod_of_nonneg h]
    have := Int.emod_nonneg x (show n ≠ 0 by omega)
    have := Int.emod_lt_of_pos x hn
    omega
  · obtain ⟨m, rfl⟩ : ∃ m, x = -m := ⟨-x, by omega⟩
    rw [Int.neg_tmod, Int.tmod_eq_emod_of_nonneg (by omega)]
    have := Int.emod_nonneg m (show n ≠ 0 by omega)
    have := Int.emod_lt_of_pos m hn
    omega
theorem emod_tmod (x n : Int) (hn : 0 < n) : x % n = if x.tmod n < 0 then x.tmod n + n else x.tmod n := by
  have hb := tmod_bd x n hn
  have h2 : x.tmod n % n = x % n := by
    rcases Int.le_total 0 x with h | h
    · rw [Int.tmod_eq_emod_of_nonneg h, Int.emod_emod]
    · obtain ⟨m, rfl⟩ : ∃ m, x = -m := ⟨-x, by omega⟩
      rw [Int.neg_tmod, Int.tmod_eq_emod_of_nonneg (by omega)]
      conv => rhs; rw [← Int.mul_ediv_add_emod m n, Int.neg_add, ← Int.mul_neg, Int.mul_add_emod_self_left]
  rw [← h2]
  split
  · rw [← Int.add_emod_right, Int.emod_eq_of_lt (by omega) (by omega)]
  · exact Int.emod_eq_of_lt (by omega) (by omega)
theorem twice_tmod (x n : Int) (hn : 0 < n) : (x.tmod n + n).tmod n = x % n := by
  have hb := tmod_bd x n hn
  rw [Int.tmod_eq_emod_of_nonneg (by omega), Int.add_emod_right]
  rw [emod_tmod x n hn]
  split
  · rw [← Int.add_emod_right, Int.emod_eq_of_lt (by omega) (by omega)]
  · exact Int.emod_eq_of_lt (by omega) (by omega)
theorem emod_bd (x n : Int) (hn : 0 < n) : 0 ≤ x % n ∧ x % n < n := ⟨Int.emod_nonneg x (by omega), Int.emod_lt_of_pos x hn⟩
theorem restI_emod (x n : Int) (hn : 0 < n) (hn2 : n ≤ 100000) : restI x n = x % n := by
  have hb := tmod_bd x n hn
  rw [restI, IntWalk.wrap64_in _ (by omega), twice_tmod x n hn]

/-! ### Sets that may be -/
structure TsOk (x : Ts) : Prop where
  c0 : 1 ≤ x.c
  c1 : x.c ≤ 2147483647
  t0 : 1 ≤ x.t
  t1 : x.t ≤ 2147483647
  j0 : 0 ≤ x.j
  j1 : x.j ≤ 2147483647
  q0 : 1 ≤ x.q
  q1 : x.q ≤ 2147483647
structure Vs (ts : List Ts) : Prop where
  n0 : 1 ≤ ts.length
  n1 : ts.length ≤ 1024
  all : ∀ x ∈ ts, TsOk x
theorem tsOk_of {x : Ts} (h : checkE x = 0) : TsOk x := by
  have hr : rangedB x = true := by
    by_cases h1 : (namedB x && rangedB x) = true
    · simp only [Bool.and_eq_true] at h1; exact h1.2
    · rw [checkE, if_neg h1] at h; omega
  obtain ⟨⟨c1, c2⟩, ⟨t1, t2⟩, ⟨d1, d2⟩, ⟨q1, q2⟩, ⟨j1, j2⟩, -⟩ := rangedB_parts hr
  exact ⟨c1, c2, t1, t2, j1, j2, q1, q2⟩
theorem chkFrom_ok : ∀ (l pre : List Ts), (chkFrom pre l).2 = 0 → ∀ x ∈ l, checkE x = 0
  | [], _, _ => by simp
  | a :: r, pre, h => by
    rw [chkFrom] at h
    by_cases h1 : checkE a ≠ 0
    · rw [if_pos h1] at h; exact absurd h h1
    · rw [if_neg h1] at h
      split at h
      · cases h
      · intro x hx
        rcases List.mem_cons.1 hx with rfl | hx
        · omega
        · exact chkFrom_ok r _ h x hx
theorem vs_of {ts : List Ts} (h : (chkAll ts).2 = 0) : Vs ts := by
  rw [chkAll] at h
  split at h
  · cases h
  · exact ⟨by omega, by omega, fun x hx => tsOk_of (chkFrom_ok ts [] h x hx)⟩
/-- The task at a place. -/
def tk (ts : List Ts) (p : Int) : Ts := ts.getD p.toNat ⟨ByteArray.empty, 1, 1, 1, 0, 1, 1⟩
theorem tk_get {ts : List Ts} {k : Nat} {x : Ts} (h : ts[k]? = some x) : tk ts (k : Int) = x := by
  rw [tk, Int.toNat_natCast, List.getD_eq_getElem?_getD, h]; rfl
theorem Vs.tk {ts : List Ts} (h : Vs ts) (p : Int) : TsOk (tk ts p) := by
  unfold Go.Proofs.YtngmaiiibinkaaaGreat.tk
  rw [List.getD_eq_getElem?_getD]
  cases hp : ts[p.toNat]? with
  | none => exact ⟨by decide, by decide, by decide, by decide, by decide, by decide, by decide, by decide⟩
  | some x => exact h.all x (List.mem_of_getElem? hp)

/-! ### Sections -/
def secs (q : Int) : Int → List Int → List Int
  | _, [] => []
  | left, c :: r => if left = 0 then [] else (1 + c % min q left) :: secs q (left - (1 + c % min q left)) r
/-- What is left behind some of them. -/
def leftS (left : Int) (l : List Int) : Int := left - l.sum
theorem min_bd (q left : Int) (hq : 1 ≤ q) (hl : 1 ≤ left) : 1 ≤ min q left ∧ min q left ≤ q ∧ min q left ≤ left := by omega
theorem secs_fit (q : Int) (hq : 1 ≤ q) : ∀ (l : List Int) (left : Int), 0 ≤ left → (∀ x ∈ secs q left l, 1 ≤ x ∧ x ≤ q) ∧ (secs q left l).sum ≤ left ∧ (secs q left l).length ≤ l.length
  | [], left, h => by simp [secs]; exact h
  | c :: r, left, h => by
    rw [secs]
    by_cases h0 : left = 0
    · rw [if_pos h0]; simp; exact h
    · rw [if_neg h0]
      have hb := min_bd q left hq (by omega)
      have he := emod_bd c (min q left) (by omega)
      obtain ⟨i1, i2, i3⟩ := secs_fit q hq r (left - (1 + c % min q left)) (by omega)
      refine ⟨fun x hx => ?_, ?_, ?_⟩
      · rcases List.mem_cons.1 hx with rfl | hx
        · omega
        · exact i1 x hx
      · rw [List.sum_cons]; omega
      · simp only [List.length_cons]; omega

/-! ### Jobs of raw numbers -/
def lastT (js : List Fv) (t : Int) : Option Fv := js.reverse.find? fun j => decide (j.t = t)
theorem lastT_nil (t : Int) : lastT [] t = none := rfl
theorem lastT_snoc (js : List Fv) (j : Fv) (t : Int) : lastT (js ++ [j]) t = if j.t = t then some j else lastT js t := by
  rw [lastT, List.reverse_append, List.reverse_singleton, List.singleton_append, List.find?_cons]
  by_cases h : j.t = t <;> simp [h, lastT]
theorem lastT_mem {js : List Fv} {t : Int} {j : Fv} (h : lastT js t = some j) : j ∈ js ∧ j.t = t := by
  have h1 := List.mem_of_find?_eq_some h
  have h2 := List.find?_some h
  exact ⟨by simpa using h1, by simpa using h2⟩
/-- From when on the next job of the task at that place may arrive. -/
def soonI (ts : List Ts) (js : List Fv) (p : Int) : Int := match lastT js p with | none => 0 | some j => j.a + (tk ts p).t
def decJ (ts : List Ts) (js : List Fv) (r : Fv) : Fv :=
  let p := r.t % (ts.length : Int)
  let x := tk ts p
  let a := soonI ts js p + r.a % 1048576
  let k := 1 + r.k % x.c
  ⟨p, a, a + r.r % (x.j + 1), k, secs x.q k r.c⟩
def decF (ts : List Ts) (js : List Fv) : List Fv → List Fv
  | [] => js
  | r :: rs => decF ts (js ++ [decJ ts js r]) rs
/-- All jobs of raw numbers. -/
def decS (ts : List Ts) (rs : List Fv) : List Fv := decF ts [] (rs.take 4096)
theorem decF_len (ts : List Ts) : ∀ (rs js : List Fv), (decF ts js rs).length = js.length + rs.length
  | [], js => by simp [decF]
  | r :: rs, js => by rw [decF, decF_len ts rs]; simp; omega
theorem decF_snoc (ts : List Ts) : ∀ (rs js : List Fv) (r : Fv), decF ts js (rs ++ [r]) = decF ts js rs ++ [decJ ts (decF ts js rs) r]
  | [], js, r => by simp [decF]
  | a :: rs, js, r => by rw [List.cons_append, decF, decF, decF_snoc ts rs]
theorem decF_app (ts : List Ts) : ∀ (rs js qs : List Fv), decF ts js (rs ++ qs) = decF ts (decF ts js rs) qs
  | [], js, qs => rfl
  | a :: rs, js, qs => by rw [List.cons_append, decF, decF, decF_app ts rs]

/-- How great arrivals are. -/
def Bd (js : List Fv) : Prop := ∀ j ∈ js, 0 ≤ j.a ∧ j.a ≤ js.length * 4294967296
theorem Bd.nil : Bd [] := by intro j h; simp at h
theorem soon_bd {ts : List Ts} (hv : Vs ts) {js : List Fv} (h : Bd js) (p : Int) : 0 ≤ soonI ts js p ∧ soonI ts js p ≤ js.length * 4294967296 + 2147483647 := by
  have hx := hv.tk p
  obtain ⟨c0, c1, t0, t1, j0, j1, q0, q1⟩ := hx
  unfold soonI
  cases hl : lastT js p with
  | none => simp only; omega
  | some j =>
    have := h j (lastT_mem hl).1
    simp only
    omega
theorem dec_bd {ts : List Ts} (hv : Vs ts) {js : List Fv} (h : Bd js) (r : Fv) : soonI ts js (r.t % (ts.length : Int)) ≤ (decJ ts js r).a ∧ (decJ ts js r).a ≤ (js.length + 1) * 4294967296 - 2000000000 := by
  have := soon_bd hv h (r.t % (ts.length : Int))
  have := emod_bd r.a 1048576 (by omega)
  simp only [decJ]
  omega
theorem Bd.snoc {ts : List Ts} (hv : Vs ts) {js : List Fv} (h : Bd js) (r : Fv) : Bd (js ++ [decJ ts js r]) := by
  have h1 := dec_bd hv h r
  have h2 := soon_bd hv h (r.t % (ts.length : Int))
  intro j hj
  rw [List.length_append, List.length_singleton]
  rcases List.mem_append.1 hj with hj | hj
  · have := h j hj
    omega
  · rw [List.mem_singleton] at hj
    subst hj
    omega
theorem decF_bd {ts : List Ts} (hv : Vs ts) : ∀ (rs js : List Fv), Bd js → Bd (decF ts js rs)
  | [], js, h => h
  | r :: rs, js, h => decF_bd hv rs _ (h.snoc hv r)
/-- What one job is. -/
theorem dec_parts {ts : List Ts} (hv : Vs ts) (js : List Fv) (r : Fv) : 0 ≤ (decJ ts js r).t ∧ (decJ ts js r).t < ts.length ∧ (decJ ts js r).a ≤ (decJ ts js r).r ∧ (decJ ts js r).r ≤ (decJ ts js r).a + (tk ts (decJ ts js r).t).j ∧ 1 ≤ (decJ ts js r).k ∧ (decJ ts js r).k ≤ (tk ts (decJ ts js r).t).c := by
  have hn := hv.n0
  have h1 := emod_bd r.t (ts.length : Int) (by omega)
  have hx := hv.tk (r.t % (ts.length : Int))
  have h2 := emod_bd r.r ((tk ts (r.t % (ts.length : Int))).j + 1) (by have := hx.j0; omega)
  have h3 := emod_bd r.k ((tk ts (r.t % (ts.length : Int))).c) (by have := hx.c0; omega)
  simp only [decJ]
  omega

/-! ### Legal -/
def fitB (q : Int) : Int → List Int → Bool
  | _, [] => true
  | left, c :: r => decide (1 ≤ c ∧ c ≤ min q left) && fitB q (left - c) r
def legJ (ts : List Ts) (js : List Fv) (j : Fv) : Bool :=
  inB j.t 0 (ts.length - 1) && (inB j.a (soonI ts js j.t) 17592186044416 && (inB j.r j.a (j.a + (tk ts j.t).j) && (inB j.k 1 (tk ts j.t).c && fitB (tk ts j.t).q j.k j.c)))
def legF (ts : List Ts) (js : List Fv) : List Fv → Bool
  | [] => true
  | j :: r => legJ ts js j && legF ts (js ++ [j]) r
def legS (ts : List Ts) (js : List Fv) : Bool := decide ((chkAll ts).2 = 0 ∧ js.length ≤ 4096) && legF ts [] js
theorem secs_fitB (q : Int) (hq : 1 ≤ q) : ∀ (l : List Int) (left : Int), 0 ≤ left → fitB q left (secs q left l) = true
  | [], left, _ => rfl
  | c :: r, left, h => by
    rw [secs]
    by_cases h0 : left = 0
    · rw [if_pos h0]; rfl
    · rw [if_neg h0]
      have hb := min_bd q left hq (by omega)
      have he := emod_bd c (min q left) (by omega)
      rw [fitB, secs_fitB q hq r _ (by omega), decide_eq_true (by omega)]
      rfl
theorem dec_legal {ts : List Ts} (hv : Vs ts) {js : List Fv} (h : Bd js) (hl : js.length < 4096) (r : Fv) : legJ ts js (decJ ts js r) = true := by
  obtain ⟨p1, p2, p3, p4, p5, p6⟩ := dec_parts hv js r
  obtain ⟨a1, a2⟩ := dec_bd hv h r
  have hx := hv.tk (decJ ts js r).t
  have e : (decJ ts js r).t = r.t % (ts.length : Int) := rfl
  have ec : (decJ ts js r).c = secs (tk ts (decJ ts js r).t).q (decJ ts js r).k r.c := rfl
  rw [legJ, inB_yes ⟨p1, by omega⟩, inB_yes ⟨by rw [e]; exact a1, by omega⟩, inB_yes ⟨p3, p4⟩, inB_yes ⟨p5, p6⟩, ec, secs_fitB _ hx.q0 _ _ (by omega)]
  rfl
theorem legF_app (ts : List Ts) : ∀ (a b js : List Fv), legF ts js (a ++ b) = (legF ts js a && legF ts (js ++ a) b)
  | [], b, js => by simp [legF]
  | x :: a, b, js => by
    rw [List.cons_append, legF, legF, legF_app ts a b, Bool.and_assoc]
    simp
theorem snoc_ind {α : Type} {P : List α → Prop} (h0 : P []) (hs : ∀ l x, P l → P (l ++ [x])) (l : List α) : P l := by
  have h : ∀ l : List α, P l.reverse := by
    intro l
    induction l with
    | nil => exact h0
    | cons a r ih => rw [List.reverse_cons]; exact hs _ _ ih
  have := h l.reverse
  rwa [List.reverse_reverse] at this
theorem decF_legal {ts : List Ts} (hv : Vs ts) : ∀ (rs : List Fv), rs.length ≤ 4096 → legF ts [] (decF ts [] rs) = true := by
  refine snoc_ind (fun _ => rfl) fun rs r ih hl => ?_
  · rw [List.length_append, List.length_singleton] at hl
    rw [decF_snoc, legF_app, ih (by omega), legF, List.nil_append, dec_legal hv (decF_bd hv rs [] Bd.nil) (by rw [decF_len]; simp; omega)]
    rfl
theorem decS_legal {ts : List Ts} (hv : (chkAll ts).2 = 0) (rs : List Fv) : legS ts (decS ts rs) = true := by
  have hl : (rs.take 4096).length ≤ 4096 := by rw [List.length_take]; omega
  rw [legS, decS, decF_legal (vs_of hv) _ hl, decide_eq_true ⟨hv, by rw [decF_len]; simp; omega⟩]
  rfl

/-! ### Encode -/
def encJ (g : Int) (j : Fv) : Fv := ⟨j.t, g, j.r - j.a, j.k - 1, j.c.map (· - 1)⟩
def encF (ts : List Ts) (js : List Fv) : List Fv → Option (List Fv)
  | [] => some []
  | j :: r => if j.a - soonI ts js j.t ≥ 1048576 then none else (encF ts (js ++ [j]) r).map (encJ (j.a - soonI ts js j.t) j :: ·)
def encS (ts : List Ts) (js : List Fv) : Option (List Fv) := if legS ts js then encF ts [] js else none
theorem legJ_parts {ts : List Ts} {js : List Fv} {j : Fv} (h : legJ ts js j = true) : (0 ≤ j.t ∧ j.t ≤ ts.length - 1) ∧ (soonI ts js j.t ≤ j.a ∧ j.a ≤ 17592186044416) ∧ (j.a ≤ j.r ∧ j.r ≤ j.a + (tk ts j.t).j) ∧ (1 ≤ j.k ∧ j.k ≤ (tk ts j.t).c) ∧ fitB (tk ts j.t).q j.k j.c = true := by
  simp only [legJ, Bool.and_eq_true, inB_iff] at h
  exact h
theorem secs_back (q : Int) (hq : 1 ≤ q) : ∀ (l : List Int) (left : Int), 0 ≤ left → fitB q left l = true → secs q left (l.map (· - 1)) = l
  | [], left, _, _ => rfl
  | c :: r, left, h0, h => by
    simp only [fitB, Bool.and_eq_true, decide_eq_true_eq] at h
    obtain ⟨⟨h1, h2⟩, h3⟩ := h
    rw [List.map_cons, secs, if_neg (by omega)]
    have e : 1 + (c - 1) % min q left = c := by rw [Int.emod_eq_of_lt (by omega) (by omega)]; omega
    rw [e, secs_back q hq r (left - c) (by omega) h3]
theorem dec_enc {ts : List Ts} (hv : Vs ts) {js : List Fv} {j : Fv} (h : legJ ts js j = true) (hg : j.a - soonI ts js j.t < 1048576) : decJ ts js (encJ (j.a - soonI ts js j.t) j) = j := by
  obtain ⟨⟨t0, t1⟩, ⟨a0, a1⟩, ⟨r0, r1⟩, ⟨k0, k1⟩, hf⟩ := legJ_parts h
  have hx := hv.tk j.t
  have e1 : j.t % (ts.length : Int) = j.t := Int.emod_eq_of_lt t0 (by omega)
  have e2 : (j.a - soonI ts js j.t) % 1048576 = j.a - soonI ts js j.t := Int.emod_eq_of_lt (by omega) (by omega)
  have e3 : (j.r - j.a) % ((tk ts j.t).j + 1) = j.r - j.a := Int.emod_eq_of_lt (by omega) (by omega)
  have e4 : (j.k - 1) % (tk ts j.t).c = j.k - 1 := Int.emod_eq_of_lt (by omega) (by omega)
  have e5 : 1 + (j.k - 1) = j.k := by omega
  have e6 : soonI ts js j.t + (j.a - soonI ts js j.t) = j.a := by omega
  have e7 : j.a + (j.r - j.a) = j.r := by omega
  simp only [decJ, encJ, e1, e2, e3, e4, e5, e6, e7, secs_back _ hx.q0 _ _ (by omega) hf]
theorem encF_len (ts : List Ts) : ∀ (l js : List Fv) (rs : List Fv), encF ts js l = some rs → rs.length = l.length
  | [], js, rs, h => by simp [encF] at h; simp [h]
  | j :: r, js, rs, h => by
    rw [encF] at h
    split at h
    · cases h
    · obtain ⟨qs, hq, rfl⟩ := Option.map_eq_some_iff.1 h
      simp [encF_len ts r _ qs hq]
theorem decF_enc {ts : List Ts} (hv : Vs ts) : ∀ (l js : List Fv) (rs : List Fv), legF ts js l = true → encF ts js l = some rs → decF ts js rs = js ++ l
  | [], js, rs, _, h => by simp [encF] at h; subst h; simp [decF]
  | j :: r, js, rs, hl, h => by
    rw [legF, Bool.and_eq_true] at hl
    rw [encF] at h
    split at h
    · cases h
    · obtain ⟨qs, hq, rfl⟩ := Option.map_eq_some_iff.1 h
      rw [decF, dec_enc hv hl.1 (by omega), decF_enc hv r _ qs hl.2 hq]
      simp
theorem decS_enc {ts : List Ts} {js rs : List Fv} (h : encS ts js = some rs) : decS ts rs = js := by
  rw [encS] at h
  split at h
  · rename_i hl
    rw [legS, Bool.and_eq_true, decide_eq_true_eq] at hl
    have hlen := encF_len ts js [] rs h
    rw [decS, List.take_of_length_le (by omega), decF_enc (vs_of hl.1.1) js [] rs hl.2 h]
    rfl
  · cases h
end Go.Proofs.YtngmaiiibinkaaaGreat
