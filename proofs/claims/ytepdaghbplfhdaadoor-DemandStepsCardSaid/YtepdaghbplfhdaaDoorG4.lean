/- Texts about the program, one after the other: Set, DVs, DSok, DNd, NBase, NRefs, NSums, DPure, DOwn, DGrt. -/
import Derived.Test.YtepdaghbplfhdaaDoorG3
import Derived.WalkKit
import Derived.ProofKit
import Derived.Handy
import Derived.Lib.Hide
import Derived.Laws.Externs
import Derived.Maps.AppendAt
import Derived.Laws.AppendOwnNone
import Derived.Laws.OwnMore
import Derived.Deep.RegionLaw
/- The document's Set: of plain numbers a set that may be. -/
namespace Go.Proofs.YtepdaghbplfhdaaDoor
open Go.RowKit
set_option linter.unusedVariables false
set_option linter.unusedSimpArgs false

theorem bs_app (a b : List UInt8) : bs a ++ bs b = bs (a ++ b) := by
  apply ByteArray.ext
  simp [bs]
/-! ### Rests, turns -/
def RestPost (n : Int) (w : World) (e : Ending) (w' : World) : Prop := ∃ r, e = .returned (.int .i64 r) ∧ 0 ≤ r ∧ r < n ∧ w = w'
theorem rrest_ex (x n : Int) (w : World) (hx : in64 x) (hn : 0 < n) (hn2 : n ≤ 100000) : Calls Tryd.prog 19 #[.int .i64 x, .int .i64 n] w (RestPost n w) :=
  (rrest_any x n w hx hn hn2).mono fun e w' h => ⟨_, h.1, (restI_bd x n hn hn2).1, (restI_bd x n hn hn2).2, h.2⟩
def turnsI (n : Nat) (t : Int) : Nat := if 2 < n ∧ restI (t.tdiv n) 2 = 1 then n - 1 else 1
theorem tdiv_in (t : Int) (n : Nat) (h : in64 t) (hn : 2 < n) : in64 (t.tdiv n) := by
  obtain ⟨h1, h2⟩ := h
  have hp : (0 : Int) < n := by omega
  rcases Int.le_total 0 t with h0 | h0
  · rw [Int.tdiv_eq_ediv_of_nonneg h0]
    have a := Int.ediv_nonneg h0 (show (0 : Int) ≤ n by omega)
    have b := Int.ediv_le_self n h0
    exact ⟨by omega, by omega⟩
  · obtain ⟨m, rfl⟩ : ∃ m, t = -m := ⟨-t, by omega⟩
    have hm : 0 ≤ m := by omega
    rw [Int.neg_tdiv, Int.tdiv_eq_ediv_of_nonneg hm]
    have a := Int.ediv_nonneg hm (show (0 : Int) ≤ n by omega)
    have b : m / (n : Int) ≤ 4611686018427387904 := by
      refine Int.ediv_le_of_le_mul hp ?_
      have : (4611686018427387904 : Int) * 3 ≤ 4611686018427387904 * n := by
        apply Int.mul_le_mul_of_nonneg_left <;> omega
      omega
    exact ⟨by omega, by omega⟩
set_option maxHeartbeats 1000000 in
theorem turns_any (n : Nat) (t : Int) (w : World) (ht : in64 t) (hn : 1 ≤ n) (hn8 : n ≤ 8) : Calls Tryd.prog 20 #[.int .i64 (n : Int), .int .i64 t] w fun e w' => e = .returned (.int .i64 (turnsI n t : Int)) ∧ w = w' := by
  unfold turnsI
  by_cases h2 : 2 < n
  · have hq := tdiv_in t n ht h2
    have hb := restI_bd (t.tdiv n) 2 (by omega) (by omega)
    have R := Lib.hid (fun w => rrest_any (t.tdiv n) 2 w hq (by omega) (by omega))
    have hww : IntKind.i64.wrap (t.tdiv n) = t.tdiv n := IntWalk.i64_in _ (by obtain ⟨a, b⟩ := hq; omega)
    have hw64 : wrap64 (t.tdiv n) = t.tdiv n := IntWalk.wrap64_in _ (by obtain ⟨a, b⟩ := hq; omega)
    generalize restI (t.tdiv n) 2 = r at *
    generalize hd : t.tdiv n = d at *
    have h2i : (2 : Int) < (n : Int) := by omega
    have hnz : (n : Int) ≠ 0 := by omega
    have e1 : ((n - 1 : Nat) : Int) = (n : Int) - 1 := by omega
    by_cases hr : r = 1
    · subst hr
      rw [if_pos ⟨h2, rfl⟩, e1]
      clear e1 hb
      go_enter Tryd.func20, Tryd.ntmps20
      go_wp2_with (go_at_call 19; (with_reducible refine (R.out _).mono ?_); rintro e w' ⟨rfl, rfl⟩)
      go_ret
      exact ⟨rfl, rfl⟩
    · obtain rfl : r = 0 := by omega
      rw [if_neg (by omega)]
      clear e1 hb
      go_enter Tryd.func20, Tryd.ntmps20
      go_wp2_with (go_at_call 19; (with_reducible refine (R.out _).mono ?_); rintro e w' ⟨rfl, rfl⟩)
      go_ret
      exact ⟨rfl, rfl⟩
  · rw [if_neg (by omega)]
    have h2' : decide ((n : Int) > 2) = false := decide_eq_false (by omega)
    have h2'' : decide (2 < n) = false := decide_eq_false (by omega)
    go_enter Tryd.func20, Tryd.ntmps20
    go_wp2
    go_ret
    exact ⟨rfl, rfl⟩
theorem turnsI_is (n : Nat) (t : Int) (hn : 1 ≤ n) : turnsI n t = 1 ∨ (2 < n ∧ turnsI n t = n - 1) := by
  unfold turnsI
  by_cases h : 2 < n ∧ restI (t.tdiv n) 2 = 1
  · rw [if_pos h]; exact .inr ⟨h.1, rfl⟩
  · rw [if_neg h]; exact .inl rfl
theorem turned_ne1 : ∀ n, n < 9 → ∀ r, r < 9 → ∀ i, i < n → ∀ j, j < n → (i * 1 + r) % n = (j * 1 + r) % n → i = j := by decide +kernel
theorem turned_ne2 : ∀ n, n < 9 → ∀ r, r < 9 → ∀ i, i < n → ∀ j, j < n → (i * (n - 1) + r) % n = (j * (n - 1) + r) % n → i = j := by decide +kernel

/-- What a task of Set is, but for its urgency. -/
structure SF (i : Nat) (x : Ts) : Prop where
  n : x.n = bs [116, UInt8.ofNat (97 + i)]
  c0 : 1 ≤ x.c
  c1 : x.c ≤ 4
  d0 : x.c + x.j ≤ x.d
  d1 : x.d ≤ 14
  j0 : 0 ≤ x.j
  t0 : x.d ≤ x.t
  t1 : x.t ≤ 20
  q0 : 1 ≤ x.q
  q1 : x.q ≤ x.c
def SFs (ts : List Ts) : Prop := ∀ (i : Nat) (x : Ts), ts[i]? = some x → SF i x
theorem SFs.snoc {ts : List Ts} {x : Ts} {k : Nat} (h : SFs ts) (hk : ts.length = k) (hx : SF k x) : SFs (ts ++ [x]) := by
  intro i y hy
  subst hk
  rcases Nat.lt_or_ge i ts.length with hl | hl
  · rw [List.getElem?_append_left hl] at hy; exact h i y hy
  · rw [List.getElem?_append_right hl] at hy
    have := (List.getElem?_eq_some_iff.1 hy).1
    simp at this
    obtain rfl : i = ts.length := by omega
    simp at hy
    exact hy ▸ hx
theorem SFs.setP {ts : List Ts} {x : Ts} {k : Nat} (h : SFs ts) (hx : ts[k]? = some x) (p : Int) : SFs (ts.set k { x with p := p }) := by
  intro i y hy
  have hkl : k < ts.length := (List.getElem?_eq_some_iff.1 hx).1
  by_cases e : k = i
  · subst e
    rw [List.getElem?_set_self hkl] at hy
    have h1 := h k x hx
    obtain rfl : { x with p := p } = y := by simpa using hy
    exact ⟨h1.n, h1.c0, h1.c1, h1.d0, h1.d1, h1.j0, h1.t0, h1.t1, h1.q0, h1.q1⟩
  · rw [List.getElem?_set_ne e] at hy
    exact h i y hy
theorem name_of (k : Nat) : ({ data := #[116] } : ByteArray) ++ chr (97 + (k : Int)) = bs [116, UInt8.ofNat (97 + k)] := by
  rw [show (97 + (k : Int)) = ((97 + k : Nat) : Int) by omega, chr, Int.toNat_natCast, show ({ data := #[116] } : ByteArray) = bs [116] from rfl, bs_app]
  rfl
theorem p_bd {ts : List Ts} {n τ r : Nat} (h1 : 1 ≤ n) (h8 : n ≤ 8)
    (hp : ∀ (i : Nat) (x : Ts), ts[i]? = some x → x.p = 1 + ((i : Int) * (τ : Int) + (r : Int)) % (n : Int)) : ∀ (i : Nat) (x : Ts), ts[i]? = some x → 1 ≤ x.p ∧ x.p ≤ 8 := by
  intro i x hx
  have h := hp i x hx
  have a := Int.emod_nonneg ((i : Int) * (τ : Int) + (r : Int)) (show (n : Int) ≠ 0 by omega)
  have b := Int.emod_lt_of_pos ((i : Int) * (τ : Int) + (r : Int)) (show (0 : Int) < (n : Int) by omega)
  omega

/-- All urgencies differ. -/
def Dist (ts : List Ts) : Prop := ∀ (i j : Nat) (x y : Ts), ts[i]? = some x → ts[j]? = some y → x.p = y.p → i = j
theorem in64_p {k : Nat} (z : Int) (h0 : 0 ≤ z) (h1 : z < (k : Int)) (h8 : k ≤ 8) : in64 (1 + z) := ⟨by omega, by omega⟩
theorem wrap_p {k : Nat} (z : Int) (h0 : 0 ≤ z) (h1 : z < (k : Int)) (h8 : k ≤ 8) : wrap64 (1 + z) = 1 + z := IntWalk.wrap64_in _ (by omega)
theorem dist_of {ts : List Ts} {n τ r : Nat} (h1 : 1 ≤ n) (h8 : n ≤ 8) (hr : r < n) (hτ : τ = 1 ∨ (2 < n ∧ τ = n - 1)) (hl : ts.length = n)
    (hp : ∀ (i : Nat) (x : Ts), ts[i]? = some x → x.p = 1 + ((i : Int) * (τ : Int) + (r : Int)) % (n : Int)) : Dist ts := by
  intro i j x y hx hy he
  have hi := (List.getElem?_eq_some_iff.1 hx).1
  have hj := (List.getElem?_eq_some_iff.1 hy).1
  have e1 := hp i x hx
  have e2 := hp j y hy
  have e3 : ((i : Int) * (τ : Int) + (r : Int)) % (n : Int) = ((j : Int) * (τ : Int) + (r : Int)) % (n : Int) := by omega
  rw [← Int.natCast_mul, ← Int.natCast_mul, ← Int.natCast_add, ← Int.natCast_add, ← Int.natCast_emod, ← Int.natCast_emod] at e3
  have e4 : (i * τ + r) % n = (j * τ + r) % n := Int.ofNat.inj e3
  rcases hτ with rfl | ⟨h2, rfl⟩
  · exact turned_ne1 n (by omega) r (by omega) i (by omega) j (by omega) e4
  · exact turned_ne2 n (by omega) r (by omega) i (by omega) j (by omega) e4
def SetPost (M : Int) (w : World) (e : Ending) (w' : World) : Prop := ∃ A cap ts, e = .returned (.slice A ts.length cap) ∧ Row w' A cap ts ∧ 1 ≤ ts.length ∧ (ts.length : Int) ≤ M ∧ Dist ts ∧ SFs ts ∧ (∀ (i : Nat) (x : Ts), ts[i]? = some x → 1 ≤ x.p ∧ x.p ≤ 8) ∧ Below w.heap.size w w'

set_option maxRecDepth 100000 in
set_option maxHeartbeats 8000000 in
theorem set_some (M : Int) (hM1 : 1 ≤ M) (hM8 : M ≤ 8) (A : Option Addr) (cap : Nat) (l : List Sp) (turn : Int) (w : World) (hR : SRow w A cap l) (ht : in64 turn) (h0 : l.length ≠ 0) :
    Calls Tryd.prog 10 #[.slice A l.length cap, .int .i64 M, .int .i64 turn] w (SetPost M w) := by
  obtain ⟨i0, hi, hz0, hz1, hz2⟩ := info_parts infoTs
  have hmx := hR.mx
  have hle := hR.le
  have t0 : ((l.length : Int) == 0) = false := by rw [beq_eq_false_iff_ne]; omega
  have ROW := Lib.hid hR
  have HB : Hid (Below w.heap.size w w) := Lib.hid (Below.refl _ _)
  clear hR
  go_enter Tryd.func10, Tryd.ntmps10
  go_wp2
  go_loopw [7, 8] (fun v i wr => ∃ (k : Nat) (ts : List Ts), k ≤ l.length ∧ (k : Int) ≤ M ∧ i = .int .i64 k ∧ SetIn w.heap.size wr v k ts ∧ Hid (SFs ts) ∧ Lt w wr) (fun _ i _ => 8 - (intOf i).toNat)
  case atStart => exact ⟨0, [], Nat.zero_le _, by omega, rfl, SetIn.nil _ _, Lib.hid (fun i x h => by simp at h), Below.refl _ _⟩
  case round =>
    obtain ⟨k, ts, hk, hkM, rfl, hI, hsf, hL⟩ := hrel
    have hk8 : k ≤ 8 := by omega
    by_cases hgo : k < l.length ∧ (k : Int) < M
    · obtain ⟨hlt, h8⟩ := hgo
      obtain ⟨b, o, x, rfl, hx, hxw, hbl, hT⟩ := ROW.out.get hlt
      have hTr := hT.later hL
      have s0 := hTr.c0
      have s1 := hTr.c1
      have s2 := hTr.c2
      have s3 := hTr.c3
      have s4 := hTr.c4
      have hi0 : (0 : Int) ≤ (k : Int) := by omega
      have hi1 : (k : Int) < ((l.length : Nat) : Int) := by omega
      have HXW := Lib.hid hxw
      clear hT hTr hx hxw hbl
      go_upto_region 8 with (go_at_call 19; refine (rrest_ex _ _ _ HXW.out.c (by omega) (by omega)).mono ?_; rintro e w' ⟨rc, rfl, rc0, rc1, rfl⟩)
      go_upto_region 9 with (go_at_call 19; refine (rrest_ex _ _ _ HXW.out.d (by omega) (by omega)).mono ?_; rintro e w' ⟨rd, rfl, rd0, rd1, rfl⟩)
      go_upto_region 10 with (go_at_call 19; refine (rrest_ex _ _ _ HXW.out.j (by omega) (by omega)).mono ?_; rintro e w' ⟨rj, rfl, rj0, rj1, rfl⟩)
      go_upto_region 11 with (go_at_call 19; refine (rrest_ex _ _ _ HXW.out.t (by omega) (by omega)).mono ?_; rintro e w' ⟨rt, rfl, rt0, rt1, rfl⟩)
      go_upto_region 12 with (go_at_call 19; refine (rrest_ex _ _ _ HXW.out.q (by omega) (by omega)).mono ?_; rintro e w' ⟨rq, rfl, rq0, rq1, rfl⟩)
      have hcv := fun W => conv_n W (97 + (k : Int)) (by omega) (by omega)
      have hwr : IntKind.u8.wrap (97 + (k : Int)) = 97 + (k : Int) := by rw [IntKind.wrap_u8]; omega
      obtain ⟨nm, hnm, hnms⟩ : ∃ nm, ({ data := #[116] } : ByteArray) ++ chr (97 + (k : Int)) = nm ∧ nm.size ≤ 10 := ⟨_, rfl, by rw [ByteArray.size_append, chr_size]; decide⟩
      have hnk := Lib.hid (hnm.symm.trans (name_of k))
      have hseven := seven_new (wr.alloc (.cells #[.int .u8 (97 + (k : Int))] 5)) ⟨nm, 1 + rc, 1 + rc + rd + rt, 1 + rc + rd, rj, 1 + rq, 0⟩
      rw [World.size_alloc] at hseven
      have HI := Lib.hid hI
      have HL := Lib.hid hL
      have H7 := Lib.hid hseven
      clear hseven hI hL s0 s1 s2 s3 s4
      go_wp2_with (at_builtin; refine wpList_append_own _ rfl _ _ 23 rfl w.heap.size 43 i0 _ 7 64 Tryd.underlying23 hi hz0 hz1 hz2 rfl (by decide) _ _ _ rfl ((HI.out.row.alloc _).alloc _) ⟨wr.heap.size + 1, 0, none⟩ 1 1 (tsL ⟨nm, 1 + rc, 1 + rc + rd + rt, 1 + rc + rd, rj, 1 + rq, 0⟩) rfl rfl H7.out (tsL_one _) (by unfold maxLen; omega) (by omega) (by have := Below.size HL.out; simp; omega) ?_; intro v' w4 hown' hgrow hnil')
      go_roundw
      case rel =>
        have hb0 := Below.size HL.out
        refine ⟨k + 1, ts ++ [⟨nm, 1 + rc, 1 + rc + rd + rt, 1 + rc + rd, rj, 1 + rq, 0⟩], by omega, by omega, by go_num, ⟨by simp [HI.out.len], fun y hy => ?_, by rw [tsCells_snoc]; exact hown'⟩, Lib.hid (hsf.out.snoc HI.out.len ⟨hnk.out, by show 1 ≤ 1 + rc; omega, by show 1 + rc ≤ 4; omega, by show 1 + rc + rj ≤ 1 + rc + rd; omega, by show 1 + rc + rd ≤ 14; omega, by show 0 ≤ rj; omega, by show 1 + rc + rd ≤ 1 + rc + rd + rt; omega, by show 1 + rc + rd + rt ≤ 20; omega, by show 1 ≤ 1 + rq; omega, by show 1 + rq ≤ 1 + rc; omega⟩), ?_⟩
        · rcases List.mem_append.1 hy with hy | hy
          · exact HI.out.wf y hy
          · obtain rfl := List.mem_singleton.1 hy
            exact ⟨by show nm.size ≤ _; omega, ⟨by show _ ≤ 1 + rc; omega, by show 1 + rc ≤ _; omega⟩, ⟨by show _ ≤ 1 + rc + rd + rt; omega, by show 1 + rc + rd + rt ≤ _; omega⟩, ⟨by show _ ≤ 1 + rc + rd; omega, by show 1 + rc + rd ≤ _; omega⟩, ⟨by show _ ≤ rj; omega, by show rj ≤ _; omega⟩, ⟨by show _ ≤ 1 + rq; omega, by show 1 + rq ≤ _; omega⟩, by show in64 0; unfold in64; omega⟩
        · exact ((((Below.refl w.heap.size w).trans HL.out).alloc hb0 _).alloc (by simp; omega) _).grown hgrow (by simp; omega) (fun q hq => (HI.out.row.lt q hq).1)
      case measure => simp [intOf]; omega
    · have hk1 : 1 ≤ k := by omega
      have HSF := hsf
      clear hsf
      obtain ⟨g, cap2, rfl, hO⟩ := hI.own (by omega)
      have TN := Lib.hid (fun w => turns_any k turn w ht hk1 hk8)
      have RN := fun w => rrest_any turn k w ht (by omega) (by omega)
      obtain ⟨r0, r1⟩ := restI_bd turn k (by omega) (by omega)
      have hti := turnsI_is k turn hk1
      obtain ⟨r, hr⟩ : ∃ r : Nat, restI turn k = (r : Int) := ⟨(restI turn k).toNat, by omega⟩
      rw [hr] at RN r0 r1
      have RN := Lib.hid RN
      generalize turnsI k turn = τ at *
      have hτ : τ ≤ 8 := by omega
      have HTI := Lib.hid hti
      have HLEN := Lib.hid hI.len
      have HO0 := Lib.hid hO
      have HL0 := Lib.hid hL
      clear hr hti hI hO hL
      by_cases hl : k < l.length
      · have g1 : decide ((k : Int) < ((l.length : Nat) : Int)) = true := decide_eq_true (by omega)
        have g2 : decide ((k : Int) < M) = false := decide_eq_false (by omega)
        clear hgo
        go_wp2
        go_loopw [15] (fun i wr2 => ∃ (m : Nat) (ts2 : List Ts), m ≤ k ∧ i = .int .i64 m ∧ OwnT w.heap.size wr2 g cap2 ts2 ∧ ts2.length = k ∧ Hid (SFs ts2) ∧ Hid (∀ (i : Nat) (x : Ts), ts2[i]? = some x → i < m → x.p = 1 + ((i : Int) * (τ : Int) + (r : Int)) % ((k : Nat) : Int)) ∧ Lt w wr2) (fun i _ => k - (intOf i).toNat)
        case atStart => exact ⟨0, ts, Nat.zero_le _, rfl, HO0.out, HLEN.out, HSF, Lib.hid (fun i x _ h => absurd h (by omega)), HL0.out⟩
        case round =>
          obtain ⟨m, ts2, hm, rfl, hO2, hl2, hsf2, hq, hL2⟩ := hrel
          by_cases hmk : m < k
          · obtain ⟨x, hx⟩ : ∃ x, ts2[m]? = some x := ⟨ts2[m], List.getElem?_eq_getElem (by omega)⟩
            have c6 := (hO2.at_ m x hx).c6
            have fz := hO2.fz (m * 7 + 6)
            have hi0 : (0 : Int) ≤ (m : Int) := by omega
            have hi1 : (m : Int) < ((k : Nat) : Int) := by omega
            have hkz : (0 : Int) < ((k : Nat) : Int) := by omega
            have hmul : ((m * τ : Nat) : Int) = (m : Int) * (τ : Int) := Int.natCast_mul m τ
            have hmm : m * τ ≤ 8 * 8 := Nat.mul_le_mul (by omega) hτ
            have hm0 : (0 : Int) ≤ (m : Int) * (τ : Int) := by rw [← hmul]; omega
            have hm1 : (m : Int) * (τ : Int) ≤ 64 := by rw [← hmul]; omega
            have hp0 : 0 ≤ ((m : Int) * (τ : Int) + (r : Int)) % ((k : Nat) : Int) := Int.emod_nonneg _ (by omega)
            have hp1 : ((m : Int) * (τ : Int) + (r : Int)) % ((k : Nat) : Int) < ((k : Nat) : Int) := Int.emod_lt_of_pos _ hkz
            have HX := Lib.hid hx
            have HO2 := Lib.hid hO2
            have HL2 := Lib.hid hL2
            have HLL := Lib.hid hl2
            clear hmul hmm hx hO2 hL2 hl2 hp0 hp1
            go_wp2_with (first
              | (go_at_call 20; (with_reducible refine (TN.out _).mono ?_); rintro e w' ⟨rfl, rfl⟩)
              | (go_at_call 19; (with_reducible refine (RN.out _).mono ?_); rintro e w' ⟨rfl, rfl⟩))
            go_roundw
            case rel =>
              have hp0 : 0 ≤ ((m : Int) * (τ : Int) + (r : Int)) % ((k : Nat) : Int) := Int.emod_nonneg _ (by omega)
              have hp1 : ((m : Int) * (τ : Int) + (r : Int)) % ((k : Nat) : Int) < ((k : Nat) : Int) := Int.emod_lt_of_pos _ (by omega)
              refine ⟨m + 1, ts2.set m { x with p := 1 + ((m : Int) * (τ : Int) + (r : Int)) % ((k : Nat) : Int) }, by omega, by go_num, (by rw [wrap_p _ hp0 hp1 hk8]; exact HO2.out.setP HX.out _ (in64_p _ hp0 hp1 hk8)), by rw [List.length_set]; exact HLL.out, Lib.hid (hsf2.out.setP HX.out _), Lib.hid (fun i y hy hi => ?_), setCell_own HL2.out HO2.out.hB _⟩
              by_cases e : m = i
              · subst e
                rw [List.getElem?_set_self (by rw [HLL.out]; omega)] at hy
                cases hy
                rfl
              · rw [List.getElem?_set_ne e] at hy
                exact hq.out i y hy (by omega)
            case measure => simp [intOf]; omega
          · obtain rfl : m = k := by omega
            have HL2 := Lib.hid hL2
            have HO2 := Lib.hid hO2
            have HLL := Lib.hid hl2
            clear hL2 hO2 hl2
            go_wp2
            go_ret
            refine ⟨_, cap2, ts2, by rw [HLL.out]; rfl, HO2.out.row, by rw [HLL.out]; omega, by rw [HLL.out]; omega, ?_, hsf2.out, ?_, Below.trans HB.out (Below.mono HL2.out (Below.size HB.out))⟩
            · exact dist_of (by omega) hk8 (by omega) HTI.out HLL.out (fun i x hx => hq.out i x hx (by have := (List.getElem?_eq_some_iff.1 hx).1; rw [HLL.out] at this; exact this))
            · exact p_bd (by omega) hk8 (fun i x hx => hq.out i x hx (by have := (List.getElem?_eq_some_iff.1 hx).1; rw [HLL.out] at this; exact this))
      · have g1 : decide ((k : Int) < ((l.length : Nat) : Int)) = false := decide_eq_false (by omega)
        clear hgo
        go_wp2
        go_loopw [15] (fun i wr2 => ∃ (m : Nat) (ts2 : List Ts), m ≤ k ∧ i = .int .i64 m ∧ OwnT w.heap.size wr2 g cap2 ts2 ∧ ts2.length = k ∧ Hid (SFs ts2) ∧ Hid (∀ (i : Nat) (x : Ts), ts2[i]? = some x → i < m → x.p = 1 + ((i : Int) * (τ : Int) + (r : Int)) % ((k : Nat) : Int)) ∧ Lt w wr2) (fun i _ => k - (intOf i).toNat)
        case atStart => exact ⟨0, ts, Nat.zero_le _, rfl, HO0.out, HLEN.out, HSF, Lib.hid (fun i x _ h => absurd h (by omega)), HL0.out⟩
        case round =>
          obtain ⟨m, ts2, hm, rfl, hO2, hl2, hsf2, hq, hL2⟩ := hrel
          by_cases hmk : m < k
          · obtain ⟨x, hx⟩ : ∃ x, ts2[m]? = some x := ⟨ts2[m], List.getElem?_eq_getElem (by omega)⟩
            have c6 := (hO2.at_ m x hx).c6
            have fz := hO2.fz (m * 7 + 6)
            have hi0 : (0 : Int) ≤ (m : Int) := by omega
            have hi1 : (m : Int) < ((k : Nat) : Int) := by omega
            have hkz : (0 : Int) < ((k : Nat) : Int) := by omega
            have hmul : ((m * τ : Nat) : Int) = (m : Int) * (τ : Int) := Int.natCast_mul m τ
            have hmm : m * τ ≤ 8 * 8 := Nat.mul_le_mul (by omega) hτ
            have hm0 : (0 : Int) ≤ (m : Int) * (τ : Int) := by rw [← hmul]; omega
            have hm1 : (m : Int) * (τ : Int) ≤ 64 := by rw [← hmul]; omega
            have hp0 : 0 ≤ ((m : Int) * (τ : Int) + (r : Int)) % ((k : Nat) : Int) := Int.emod_nonneg _ (by omega)
            have hp1 : ((m : Int) * (τ : Int) + (r : Int)) % ((k : Nat) : Int) < ((k : Nat) : Int) := Int.emod_lt_of_pos _ hkz
            have HX := Lib.hid hx
            have HO2 := Lib.hid hO2
            have HL2 := Lib.hid hL2
            have HLL := Lib.hid hl2
            clear hmul hmm hx hO2 hL2 hl2 hp0 hp1
            go_wp2_with (first
              | (go_at_call 20; (with_reducible refine (TN.out _).mono ?_); rintro e w' ⟨rfl, rfl⟩)
              | (go_at_call 19; (with_reducible refine (RN.out _).mono ?_); rintro e w' ⟨rfl, rfl⟩))
            go_roundw
            case rel =>
              have hp0 : 0 ≤ ((m : Int) * (τ : Int) + (r : Int)) % ((k : Nat) : Int) := Int.emod_nonneg _ (by omega)
              have hp1 : ((m : Int) * (τ : Int) + (r : Int)) % ((k : Nat) : Int) < ((k : Nat) : Int) := Int.emod_lt_of_pos _ (by omega)
              refine ⟨m + 1, ts2.set m { x with p := 1 + ((m : Int) * (τ : Int) + (r : Int)) % ((k : Nat) : Int) }, by omega, by go_num, (by rw [wrap_p _ hp0 hp1 hk8]; exact HO2.out.setP HX.out _ (in64_p _ hp0 hp1 hk8)), by rw [List.length_set]; exact HLL.out, Lib.hid (hsf2.out.setP HX.out _), Lib.hid (fun i y hy hi => ?_), setCell_own HL2.out HO2.out.hB _⟩
              by_cases e : m = i
              · subst e
                rw [List.getElem?_set_self (by rw [HLL.out]; omega)] at hy
                cases hy
                rfl
              · rw [List.getElem?_set_ne e] at hy
                exact hq.out i y hy (by omega)
            case measure => simp [intOf]; omega
          · obtain rfl : m = k := by omega
            have HL2 := Lib.hid hL2
            have HO2 := Lib.hid hO2
            have HLL := Lib.hid hl2
            clear hL2 hO2 hl2
            go_wp2
            go_ret
            refine ⟨_, cap2, ts2, by rw [HLL.out]; rfl, HO2.out.row, by rw [HLL.out]; omega, by rw [HLL.out]; omega, ?_, hsf2.out, ?_, Below.trans HB.out (Below.mono HL2.out (Below.size HB.out))⟩
            · exact dist_of (by omega) hk8 (by omega) HTI.out HLL.out (fun i x hx => hq.out i x hx (by have := (List.getElem?_eq_some_iff.1 hx).1; rw [HLL.out] at this; exact this))
            · exact p_bd (by omega) hk8 (fun i x hx => hq.out i x hx (by have := (List.getElem?_eq_some_iff.1 hx).1; rw [HLL.out] at this; exact this))

set_option maxRecDepth 100000 in
set_option maxHeartbeats 8000000 in
theorem set_none (M : Int) (hM1 : 1 ≤ M) (hM8 : M ≤ 8) (A : Option Addr) (cap : Nat) (turn : Int) (w : World) (ht : in64 turn) :
    Calls Tryd.prog 10 #[.slice A 0 cap, .int .i64 M, .int .i64 turn] w (SetPost M w) := by
  obtain ⟨i0, hi, hz0, hz1, hz2⟩ := info_parts infoTs
  obtain ⟨W0, hW0, hR, hB⟩ : ∃ W0, w.alloc (.cells #[.int .i64 turn, .int .i64 0, .int .i64 0, .int .i64 0, .int .i64 0] 50) = W0 ∧ SRow W0 (some ⟨w.heap.size, 0, none⟩) 1 [⟨turn, 0, 0, 0, 0⟩] ∧ Below w.heap.size w W0 := by
    refine ⟨_, rfl, ⟨by simp, by omega, fun x hx => ?_, fun i x hx => ?_⟩, (Below.refl _ _).alloc (Nat.le_refl _) _⟩
    · obtain rfl := List.mem_singleton.1 hx
      exact ⟨ht, by show in64 0; unfold in64; omega, by show in64 0; unfold in64; omega, by show in64 0; unfold in64; omega, by show in64 0; unfold in64; omega⟩
    · have hi : i = 0 := by
        have := (List.getElem?_eq_some_iff.1 hx).1
        simp at this
        exact this
      subst hi
      obtain rfl : (⟨turn, 0, 0, 0, 0⟩ : Sp) = x := by simpa using hx
      refine ⟨_, _, rfl, ⟨fun j v hv => ?_⟩⟩
      rw [cell_of_row _ _ _ _ _ _ (heap_alloc_new w _)]
      simpa [spL] using hv
  have HW := Lib.hid hW0
  have ROW := Lib.hid hR
  have HB := Lib.hid hB
  clear hW0 hR hB
  go_enter Tryd.func10, Tryd.ntmps10
  go_upto_region 4 with (fail)
  rw [HW.out]
  generalize (some ⟨w.heap.size, 0, none⟩ : Option Addr) = A2 at *
  have hmx : 1 ≤ 9223372036854775807 := by omega
  go_wp2
  go_loopw [7, 8] (fun v i wr => ∃ (k : Nat) (ts : List Ts), k ≤ 1 ∧ (k : Int) ≤ M ∧ i = .int .i64 k ∧ SetIn W0.heap.size wr v k ts ∧ Hid (SFs ts) ∧ Lt W0 wr) (fun _ i _ => 8 - (intOf i).toNat)
  case atStart => exact ⟨0, [], Nat.zero_le _, by omega, rfl, SetIn.nil _ _, Lib.hid (fun i x h => by simp at h), Below.refl _ _⟩
  case round =>
    obtain ⟨k, ts, hk, hkM, rfl, hI, hsf, hL⟩ := hrel
    have hk8 : k ≤ 8 := by omega
    by_cases hgo : k < 1 ∧ (k : Int) < M
    · obtain ⟨hlt, h8⟩ := hgo
      obtain ⟨b, o, x, rfl, hx, hxw, hbl, hT⟩ := ROW.out.get hlt
      have hTr := hT.later hL
      have s0 := hTr.c0
      have s1 := hTr.c1
      have s2 := hTr.c2
      have s3 := hTr.c3
      have s4 := hTr.c4
      have hi0 : (0 : Int) ≤ (k : Int) := by omega
      have hi1 : (k : Int) < ((1 : Nat) : Int) := by omega
      have HXW := Lib.hid hxw
      clear hT hTr hx hxw hbl
      go_upto_region 8 with (go_at_call 19; refine (rrest_ex _ _ _ HXW.out.c (by omega) (by omega)).mono ?_; rintro e w' ⟨rc, rfl, rc0, rc1, rfl⟩)
      go_upto_region 9 with (go_at_call 19; refine (rrest_ex _ _ _ HXW.out.d (by omega) (by omega)).mono ?_; rintro e w' ⟨rd, rfl, rd0, rd1, rfl⟩)
      go_upto_region 10 with (go_at_call 19; refine (rrest_ex _ _ _ HXW.out.j (by omega) (by omega)).mono ?_; rintro e w' ⟨rj, rfl, rj0, rj1, rfl⟩)
      go_upto_region 11 with (go_at_call 19; refine (rrest_ex _ _ _ HXW.out.t (by omega) (by omega)).mono ?_; rintro e w' ⟨rt, rfl, rt0, rt1, rfl⟩)
      go_upto_region 12 with (go_at_call 19; refine (rrest_ex _ _ _ HXW.out.q (by omega) (by omega)).mono ?_; rintro e w' ⟨rq, rfl, rq0, rq1, rfl⟩)
      have hcv := fun W => conv_n W (97 + (k : Int)) (by omega) (by omega)
      have hwr : IntKind.u8.wrap (97 + (k : Int)) = 97 + (k : Int) := by rw [IntKind.wrap_u8]; omega
      obtain ⟨nm, hnm, hnms⟩ : ∃ nm, ({ data := #[116] } : ByteArray) ++ chr (97 + (k : Int)) = nm ∧ nm.size ≤ 10 := ⟨_, rfl, by rw [ByteArray.size_append, chr_size]; decide⟩
      have hnk := Lib.hid (hnm.symm.trans (name_of k))
      have hseven := seven_new (wr.alloc (.cells #[.int .u8 (97 + (k : Int))] 5)) ⟨nm, 1 + rc, 1 + rc + rd + rt, 1 + rc + rd, rj, 1 + rq, 0⟩
      rw [World.size_alloc] at hseven
      have HI := Lib.hid hI
      have HL := Lib.hid hL
      have H7 := Lib.hid hseven
      clear hseven hI hL s0 s1 s2 s3 s4
      go_wp2_with (at_builtin; refine wpList_append_own _ rfl _ _ 23 rfl W0.heap.size 43 i0 _ 7 64 Tryd.underlying23 hi hz0 hz1 hz2 rfl (by decide) _ _ _ rfl ((HI.out.row.alloc _).alloc _) ⟨wr.heap.size + 1, 0, none⟩ 1 1 (tsL ⟨nm, 1 + rc, 1 + rc + rd + rt, 1 + rc + rd, rj, 1 + rq, 0⟩) rfl rfl H7.out (tsL_one _) (by unfold maxLen; omega) (by omega) (by have := Below.size HL.out; simp; omega) ?_; intro v' w4 hown' hgrow hnil')
      go_roundw
      case rel =>
        have hb0 := Below.size HL.out
        refine ⟨k + 1, ts ++ [⟨nm, 1 + rc, 1 + rc + rd + rt, 1 + rc + rd, rj, 1 + rq, 0⟩], by omega, by omega, by go_num, ⟨by simp [HI.out.len], fun y hy => ?_, by rw [tsCells_snoc]; exact hown'⟩, Lib.hid (hsf.out.snoc HI.out.len ⟨hnk.out, by show 1 ≤ 1 + rc; omega, by show 1 + rc ≤ 4; omega, by show 1 + rc + rj ≤ 1 + rc + rd; omega, by show 1 + rc + rd ≤ 14; omega, by show 0 ≤ rj; omega, by show 1 + rc + rd ≤ 1 + rc + rd + rt; omega, by show 1 + rc + rd + rt ≤ 20; omega, by show 1 ≤ 1 + rq; omega, by show 1 + rq ≤ 1 + rc; omega⟩), ?_⟩
        · rcases List.mem_append.1 hy with hy | hy
          · exact HI.out.wf y hy
          · obtain rfl := List.mem_singleton.1 hy
            exact ⟨by show nm.size ≤ _; omega, ⟨by show _ ≤ 1 + rc; omega, by show 1 + rc ≤ _; omega⟩, ⟨by show _ ≤ 1 + rc + rd + rt; omega, by show 1 + rc + rd + rt ≤ _; omega⟩, ⟨by show _ ≤ 1 + rc + rd; omega, by show 1 + rc + rd ≤ _; omega⟩, ⟨by show _ ≤ rj; omega, by show rj ≤ _; omega⟩, ⟨by show _ ≤ 1 + rq; omega, by show 1 + rq ≤ _; omega⟩, by show in64 0; unfold in64; omega⟩
        · exact ((((Below.refl W0.heap.size W0).trans HL.out).alloc hb0 _).alloc (by simp; omega) _).grown hgrow (by simp; omega) (fun q hq => (HI.out.row.lt q hq).1)
      case measure => simp [intOf]; omega
    · have hk1 : 1 ≤ k := by omega
      have HSF := hsf
      clear hsf
      obtain ⟨g, cap2, rfl, hO⟩ := hI.own (by omega)
      have TN := Lib.hid (fun w => turns_any k turn w ht hk1 hk8)
      have RN := fun w => rrest_any turn k w ht (by omega) (by omega)
      obtain ⟨r0, r1⟩ := restI_bd turn k (by omega) (by omega)
      have hti := turnsI_is k turn hk1
      obtain ⟨r, hr⟩ : ∃ r : Nat, restI turn k = (r : Int) := ⟨(restI turn k).toNat, by omega⟩
      rw [hr] at RN r0 r1
      have RN := Lib.hid RN
      generalize turnsI k turn = τ at *
      have hτ : τ ≤ 8 := by omega
      have HTI := Lib.hid hti
      have HLEN := Lib.hid hI.len
      have HO0 := Lib.hid hO
      have HL0 := Lib.hid hL
      clear hr hti hI hO hL
      have hl : ¬ k < 1 := by omega
      · have g1 : decide ((k : Int) < ((1 : Nat) : Int)) = false := decide_eq_false (by omega)
        clear hgo
        go_wp2
        go_loopw [15] (fun i wr2 => ∃ (m : Nat) (ts2 : List Ts), m ≤ k ∧ i = .int .i64 m ∧ OwnT W0.heap.size wr2 g cap2 ts2 ∧ ts2.length = k ∧ Hid (SFs ts2) ∧ Hid (∀ (i : Nat) (x : Ts), ts2[i]? = some x → i < m → x.p = 1 + ((i : Int) * (τ : Int) + (r : Int)) % ((k : Nat) : Int)) ∧ Lt W0 wr2) (fun i _ => k - (intOf i).toNat)
        case atStart => exact ⟨0, ts, Nat.zero_le _, rfl, HO0.out, HLEN.out, HSF, Lib.hid (fun i x _ h => absurd h (by omega)), HL0.out⟩
        case round =>
          obtain ⟨m, ts2, hm, rfl, hO2, hl2, hsf2, hq, hL2⟩ := hrel
          by_cases hmk : m < k
          · obtain ⟨x, hx⟩ : ∃ x, ts2[m]? = some x := ⟨ts2[m], List.getElem?_eq_getElem (by omega)⟩
            have c6 := (hO2.at_ m x hx).c6
            have fz := hO2.fz (m * 7 + 6)
            have hi0 : (0 : Int) ≤ (m : Int) := by omega
            have hi1 : (m : Int) < ((k : Nat) : Int) := by omega
            have hkz : (0 : Int) < ((k : Nat) : Int) := by omega
            have hmul : ((m * τ : Nat) : Int) = (m : Int) * (τ : Int) := Int.natCast_mul m τ
            have hmm : m * τ ≤ 8 * 8 := Nat.mul_le_mul (by omega) hτ
            have hm0 : (0 : Int) ≤ (m : Int) * (τ : Int) := by rw [← hmul]; omega
            have hm1 : (m : Int) * (τ : Int) ≤ 64 := by rw [← hmul]; omega
            have hp0 : 0 ≤ ((m : Int) * (τ : Int) + (r : Int)) % ((k : Nat) : Int) := Int.emod_nonneg _ (by omega)
            have hp1 : ((m : Int) * (τ : Int) + (r : Int)) % ((k : Nat) : Int) < ((k : Nat) : Int) := Int.emod_lt_of_pos _ hkz
            have HX := Lib.hid hx
            have HO2 := Lib.hid hO2
            have HL2 := Lib.hid hL2
            have HLL := Lib.hid hl2
            clear hmul hmm hx hO2 hL2 hl2 hp0 hp1
            go_wp2_with (first
              | (go_at_call 20; (with_reducible refine (TN.out _).mono ?_); rintro e w' ⟨rfl, rfl⟩)
              | (go_at_call 19; (with_reducible refine (RN.out _).mono ?_); rintro e w' ⟨rfl, rfl⟩))
            go_roundw
            case rel =>
              have hp0 : 0 ≤ ((m : Int) * (τ : Int) + (r : Int)) % ((k : Nat) : Int) := Int.emod_nonneg _ (by omega)
              have hp1 : ((m : Int) * (τ : Int) + (r : Int)) % ((k : Nat) : Int) < ((k : Nat) : Int) := Int.emod_lt_of_pos _ (by omega)
              refine ⟨m + 1, ts2.set m { x with p := 1 + ((m : Int) * (τ : Int) + (r : Int)) % ((k : Nat) : Int) }, by omega, by go_num, (by rw [wrap_p _ hp0 hp1 hk8]; exact HO2.out.setP HX.out _ (in64_p _ hp0 hp1 hk8)), by rw [List.length_set]; exact HLL.out, Lib.hid (hsf2.out.setP HX.out _), Lib.hid (fun i y hy hi => ?_), setCell_own HL2.out HO2.out.hB _⟩
              by_cases e : m = i
              · subst e
                rw [List.getElem?_set_self (by rw [HLL.out]; omega)] at hy
                cases hy
                rfl
              · rw [List.getElem?_set_ne e] at hy
                exact hq.out i y hy (by omega)
            case measure => simp [intOf]; omega
          · obtain rfl : m = k := by omega
            have HL2 := Lib.hid hL2
            have HO2 := Lib.hid hO2
            have HLL := Lib.hid hl2
            clear hL2 hO2 hl2
            go_wp2
            go_ret
            refine ⟨_, cap2, ts2, by rw [HLL.out]; rfl, HO2.out.row, by rw [HLL.out]; omega, by rw [HLL.out]; omega, ?_, hsf2.out, ?_, Below.trans HB.out (Below.mono HL2.out (Below.size HB.out))⟩
            · exact dist_of (by omega) hk8 (by omega) HTI.out HLL.out (fun i x hx => hq.out i x hx (by have := (List.getElem?_eq_some_iff.1 hx).1; rw [HLL.out] at this; exact this))
            · exact p_bd (by omega) hk8 (fun i x hx => hq.out i x hx (by have := (List.getElem?_eq_some_iff.1 hx).1; rw [HLL.out] at this; exact this))

theorem set_any (M : Int) (hM1 : 1 ≤ M) (hM8 : M ≤ 8) (A : Option Addr) (cap : Nat) (l : List Sp) (turn : Int) (w : World) (hR : SRow w A cap l) (ht : in64 turn) :
    Calls Tryd.prog 10 #[.slice A l.length cap, .int .i64 M, .int .i64 turn] w (SetPost M w) := by
  by_cases h0 : l.length = 0
  · rw [h0]; exact set_none M hM1 hM8 A cap turn w ht
  · exact set_some M hM1 hM8 A cap l turn w hR ht h0
end Go.Proofs.YtepdaghbplfhdaaDoor
/- Sets that may be: plain words (of the texts of stage 8: where JPure is there, it stands in this text's place). -/
namespace Go.Proofs.YtepdaghbplfhdaaDoor
open Go.RowKit
set_option linter.unusedVariables false
set_option linter.unusedSimpArgs false
/-! ### Rests -/
theorem tmod_bd (x n : Int) (hn : 0 < n) : -n < x.tmod n ∧ x.tmod n < n := by
  rcases Int.le_total 0 x with h | h
  · rw [Int.tmod_eq_emod_of_nonneg h]
    have := Int.emod_nonneg x (show n ≠ 0 by omega)
    have := Int.emod_lt_of_pos x hn
    omega
  · obtain ⟨m, rfl⟩ : ∃ m, x = -m := ⟨-x, by omega⟩
    rw [Int.neg_tmod, Int.tmod_eq_emod_of_nonneg (by omega)]
    have := Int.emod_nonneg m (show n ≠ 0 by omega)
    have := Int.emod_lt_of_pos m hn
    omega
theorem emod_tmod (x n : Int) (hn : 0 < n) : x % n = if x.tmod n < 0 then x.tmod n + n else x.tmod n := by
  have hb := tmod_bd x n hn
  have h2 : x.tmod n % n = x % n := by
    rcases Int.le_total 0 x with h | h
    · rw [Int.tmod_eq_emod_of_nonneg h, Int.emod_emod]
    · obtain ⟨m, rfl⟩ : ∃ m, x = -m := ⟨-x, by omega⟩
      rw [Int.neg_tmod, Int.tmod_eq_emod_of_nonneg (by omega)]
      conv => rhs; rw [← Int.mul_ediv_add_emod m n, Int.neg_add, ← Int.mul_neg, Int.mul_add_emod_self_left]
  rw [← h2]
  split
  · rw [← Int.add_emod_right, Int.emod_eq_of_lt (by omega) (by omega)]
  · exact Int.emod_eq_of_lt (by omega) (by omega)
theorem twice_tmod (x n : Int) (hn : 0 < n) : (x.tmod n + n).tmod n = x % n := by
  have hb := tmod_bd x n hn
  rw [Int.tmod_eq_emod_of_nonneg (by omega), Int.add_emod_right]
  rw [emod_tmod x n hn]
  split
  · rw [← Int.add_emod_right, Int.emod_eq_of_lt (by omega) (by omega)]
  · exact Int.emod_eq_of_lt (by omega) (by omega)
theorem emod_bd (x n : Int) (hn : 0 < n) : 0 ≤ x % n ∧ x % n < n := ⟨Int.emod_nonneg x (by omega), Int.emod_lt_of_pos x hn⟩
theorem restI_emod (x n : Int) (hn : 0 < n) (hn2 : n ≤ 100000) : restI x n = x % n := by
  have hb := tmod_bd x n hn
  rw [restI, IntWalk.wrap64_in _ (by omega), twice_tmod x n hn]

/-! ### Sets that may be -/
structure TsOk (x : Ts) : Prop where
  c0 : 1 ≤ x.c
  c1 : x.c ≤ 2147483647
  t0 : 1 ≤ x.t
  t1 : x.t ≤ 2147483647
  j0 : 0 ≤ x.j
  j1 : x.j ≤ 2147483647
  q0 : 1 ≤ x.q
  q1 : x.q ≤ 2147483647
structure Vs (ts : List Ts) : Prop where
  n0 : 1 ≤ ts.length
  n1 : ts.length ≤ 1024
  all : ∀ x ∈ ts, TsOk x
theorem tsOk_of {x : Ts} (h : checkE x = 0) : TsOk x := by
  have hr : rangedB x = true := by
    by_cases h1 : (namedB x && rangedB x) = true
    · simp only [Bool.and_eq_true] at h1; exact h1.2
    · rw [checkE, if_neg h1] at h; omega
  obtain ⟨⟨c1, c2⟩, ⟨t1, t2⟩, ⟨d1, d2⟩, ⟨q1, q2⟩, ⟨j1, j2⟩, -⟩ := rangedB_parts hr
  exact ⟨c1, c2, t1, t2, j1, j2, q1, q2⟩
theorem chkFrom_ok : ∀ (l pre : List Ts), (chkFrom pre l).2 = 0 → ∀ x ∈ l, checkE x = 0
  | [], _, _ => by simp
  | a :: r, pre, h => by
    rw [chkFrom] at h
    by_cases h1 : checkE a ≠ 0
    · rw [if_pos h1] at h; exact absurd h h1
    · rw [if_neg h1] at h
      split at h
      · cases h
      · intro x hx
        rcases List.mem_cons.1 hx with rfl | hx
        · omega
        · exact chkFrom_ok r _ h x hx
theorem vs_of {ts : List Ts} (h : (chkAll ts).2 = 0) : Vs ts := by
  rw [chkAll] at h
  split at h
  · cases h
  · exact ⟨by omega, by omega, fun x hx => tsOk_of (chkFrom_ok ts [] h x hx)⟩
/-- The task at a place. -/
def tk (ts : List Ts) (p : Int) : Ts := ts.getD p.toNat ⟨ByteArray.empty, 1, 1, 1, 0, 1, 1⟩
theorem tk_get {ts : List Ts} {k : Nat} {x : Ts} (h : ts[k]? = some x) : tk ts (k : Int) = x := by
  rw [tk, Int.toNat_natCast, List.getD_eq_getElem?_getD, h]; rfl
theorem Vs.tk {ts : List Ts} (h : Vs ts) (p : Int) : TsOk (tk ts p) := by
  unfold Go.Proofs.YtepdaghbplfhdaaDoor.tk
  rw [List.getD_eq_getElem?_getD]
  cases hp : ts[p.toNat]? with
  | none => exact ⟨by decide, by decide, by decide, by decide, by decide, by decide, by decide, by decide⟩
  | some x => exact h.all x (List.mem_of_getElem? hp)

end Go.Proofs.YtepdaghbplfhdaaDoor
/- Sets by numbers may be (of ELaw, of stage 10: where that is there, it stands in this text's place). -/
namespace Go.Proofs.YtepdaghbplfhdaaDoor
open Go.RowKit
set_option linter.unusedVariables false
set_option linter.unusedSimpArgs false
/-! ### Sets by numbers -/
theorem word_t : ∀ i, i < 8 → wordB (bs [116, UInt8.ofNat (97 + i)]) = true := by
  intro i hi
  rw [wordB_cons (c := 116) (r := [UInt8.ofNat (97 + i)]) (by simp [bs])]
  have h : ∀ i, i < 8 → (decide ((oneT 0 116 [UInt8.ofNat (97 + i)]).k = 1) && decide ((oneT 0 116 [UInt8.ofNat (97 + i)]).t.length = 2)) = true := by decide +kernel
  have := h i hi
  rw [bs_size]
  exact this
theorem name_t_inj : ∀ i, i < 8 → ∀ j, j < 8 → bs [116, UInt8.ofNat (97 + i)] = bs [116, UInt8.ofNat (97 + j)] → i = j := by
  intro i hi j hj h
  have h2 : [116, UInt8.ofNat (97 + i)] = [116, UInt8.ofNat (97 + j)] := by
    have := congrArg (fun b : ByteArray => b.data.toList) h
    simpa [bs] using this
  have h3 : UInt8.ofNat (97 + i) = UInt8.ofNat (97 + j) := by simpa using h2
  have h4 := congrArg UInt8.toNat h3
  simp at h4
  omega
theorem sf_check {i : Nat} {x : Ts} (h : SF i x) (hi : i < 8) (h1 : 1 ≤ x.p) (h2 : x.p ≤ 8) : checkE x = 0 := by
  have hn : namedB x = true := by
    rw [namedB, h.n, word_t i hi, bs_size]
    rfl
  have hr : rangedB x = true := by
    have := h.c0; have := h.c1; have := h.d0; have := h.d1; have := h.j0; have := h.t0; have := h.t1; have := h.q0; have := h.q1
    rw [rangedB, inB_yes (by omega), inB_yes (by omega), inB_yes (by omega), inB_yes (by omega), inB_yes (by omega), inB_yes (by omega)]
    rfl
  have ho : overB x = false := by
    have := h.d0; have := h.t0; have := h.q1
    simp only [overB, decide_eq_false_iff_not]
    omega
  rw [checkE, hn, hr, ho]
  rfl
theorem chkFrom_good : ∀ (l pre : List Ts), (∀ x ∈ l, checkE x = 0) → (∀ (i j : Nat) (x y : Ts), (pre ++ l)[i]? = some x → (pre ++ l)[j]? = some y → (x.n = y.n ∨ x.p = y.p) → i = j) → (chkFrom pre l).2 = 0
  | [], pre, _, _ => rfl
  | a :: r, pre, h1, h2 => by
    have ha : (pre ++ a :: r)[pre.length]? = some a := by simp
    have hn : (nameIn pre a || prioIn pre a) = false := by
      rw [Bool.or_eq_false_iff]
      constructor
      · rw [nameIn, List.any_eq_false]
        intro y hy
        obtain ⟨i, hi, rfl⟩ := List.getElem_of_mem hy
        intro he
        have := h2 i pre.length _ a (by rw [List.getElem?_append_left hi, List.getElem?_eq_getElem hi]) ha (.inl (by simpa using he))
        omega
      · rw [prioIn, List.any_eq_false]
        intro y hy
        obtain ⟨i, hi, rfl⟩ := List.getElem_of_mem hy
        intro he
        have := h2 i pre.length _ a (by rw [List.getElem?_append_left hi, List.getElem?_eq_getElem hi]) ha (.inr (by simpa using he))
        omega
    rw [chkFrom, if_neg (by rw [h1 a (by simp)]; simp), hn]
    refine chkFrom_good r (pre ++ [a]) (fun x hx => h1 x (by simp [hx])) (fun i j x y hx hy he => h2 i j x y (by simpa using hx) (by simpa using hy) he)
theorem set_ok {ts : List Ts} (h1 : 1 ≤ ts.length) (h8 : ts.length ≤ 8) (hd : Dist ts) (hs : SFs ts) (hp : ∀ (i : Nat) (x : Ts), ts[i]? = some x → 1 ≤ x.p ∧ x.p ≤ 8) : (chkAll ts).2 = 0 := by
  rw [chkAll, if_neg (by omega)]
  refine chkFrom_good ts [] (fun x hx => ?_) (fun i j x y hx hy he => ?_)
  · obtain ⟨i, hi, rfl⟩ := List.getElem_of_mem hx
    have hg := List.getElem?_eq_getElem hi
    exact sf_check (hs i _ hg) (by omega) (hp i _ hg).1 (hp i _ hg).2
  · simp only [List.nil_append] at hx hy
    rcases he with he | he
    · have e1 := (hs i x hx).n
      have e2 := (hs j y hy).n
      have hi := (List.getElem?_eq_some_iff.1 hx).1
      have hj := (List.getElem?_eq_some_iff.1 hy).1
      rw [e1, e2] at he
      exact name_t_inj i (by omega) j (by omega) he
    · exact hd i j x y hx hy he


end Go.Proofs.YtepdaghbplfhdaaDoor
/- What is enough, in numbers that are not cut off: plain words (where ESnd is there, without these declarations, this text stands ahead of it). -/
namespace Go.Proofs.YtepdaghbplfhdaaDoor
open Go.RowKit
set_option linter.unusedVariables false
set_option linter.unusedSimpArgs false
def ceilI (a t : Int) : Int := (a + t - 1) / t
def hiS (ts : List Ts) (i : Int) (w : Int) : Int := (ts.map fun x => if x.p < (tk ts i).p then ceilI (w + x.j) x.t * x.c else 0).sum
def blkS (ts : List Ts) (i : Int) : Int := (ts.map fun x => if (tk ts i).p < x.p then x.q - 1 else 0).foldl max 0
def needS (ts : List Ts) (i : Int) (w : Int) : Int := (tk ts i).c + blkS ts i + hiS ts i w
theorem fold_max : ∀ (l : List Int) (a : Int), a ≤ l.foldl max a ∧ ∀ x ∈ l, x ≤ l.foldl max a
  | [], a => ⟨Int.le_refl _, by simp⟩
  | y :: l, a => by
    obtain ⟨h1, h2⟩ := fold_max l (max a y)
    rw [List.foldl_cons]
    refine ⟨by omega, fun x hx => ?_⟩
    rcases List.mem_cons.1 hx with rfl | hx
    · omega
    · exact h2 x hx
theorem blk_le {ts : List Ts} {i : Int} {u : Nat} (hu : u < ts.length) (hp : (tk ts i).p < (tk ts (u : Int)).p) : (tk ts (u : Int)).q - 1 ≤ blkS ts i := by
  have e : ts[u]? = some ts[u] := List.getElem?_eq_getElem hu
  rw [tk_get e] at hp ⊢
  refine (fold_max _ 0).2 _ (List.mem_map.2 ⟨ts[u], List.getElem_mem hu, ?_⟩)
  rw [if_pos hp]
theorem blk_pos (ts : List Ts) (i : Int) : 0 ≤ blkS ts i := (fold_max _ 0).1
end Go.Proofs.YtepdaghbplfhdaaDoor
/- Contracts of package num's functions and of the document's own answers, over this seat's translation. -/
namespace Go.Proofs.YtepdaghbplfhdaaDoor
open Go.RowKit

/-! ### Plain answers -/
def addB (a b : Int) : Bool := decide (a + b ≤ 18446744073709551615)
def addN (a b : Int) : Int := if a + b ≤ 18446744073709551615 then a + b else 0
def mulB (a b : Int) : Bool := decide (a * b ≤ 18446744073709551615)
def mulN (a b : Int) : Int := if a * b ≤ 18446744073709551615 then a * b else 0
def ceilB (b : Int) : Bool := decide (b ≠ 0)
def ceilN (a b : Int) : Int := if b = 0 then 0 else if a % b = 0 then a / b else a / b + 1
def endN (ok : Bool) (n : Int) : Int := if ok then n else 18446744073709551615

theorem run_add64f (a b : Int) (ha : 0 ≤ a) (hb : 0 ≤ b) (w : World) :
    (callFunc 56 #[.int .u64 a, .int .u64 b, .int .u64 0]).run Tryd.prog w =
      .ok (.value (.tuple #[.int .u64 ((a + b) % 18446744073709551616), .int .u64 ((a + b) / 18446744073709551616)])) w := by
  rw [run_callFunc_extern Tryd.func56 (by kernel_rfl) (by kernel_rfl) (by kernel_rfl) (e := add64Entry) (by kernel_rfl), run_add64 a b 0 ha hb (by omega) (by omega)]
  simp only [Result.andThen, Int.add_zero]

set_option maxHeartbeats 400000 in
theorem add_any (a b : Int) (ha : 0 ≤ a) (ha1 : a ≤ 18446744073709551615) (hb : 0 ≤ b) (hb1 : b ≤ 18446744073709551615) (w : World) :
    Calls Tryd.prog 44 #[.int .u64 a, .int .u64 b] w fun e w' => e = .returned (.tuple #[.int .u64 (addN a b), .bool (addB a b)]) ∧ w = w' := by
  have hr := run_add64f a b ha hb
  by_cases h : a + b ≤ 18446744073709551615
  · have e1 : addN a b = a + b := by simp [addN, h]
    have e2 : addB a b = true := by simp [addB, h]
    have q1 : (a + b) / 18446744073709551616 = 0 := by omega
    have q2 : (a + b) % 18446744073709551616 = a + b := by omega
    rw [e1, e2]
    rw [q1, q2] at hr
    clear q1 q2 e1 e2
    go_enter Tryd.func44, Tryd.ntmps44
    go_wp2
    go_ret2
    exact ⟨rfl, rfl⟩
  · have e1 : addN a b = 0 := by simp [addN, h]
    have e2 : addB a b = false := by simp [addB, h]
    have q1 : (a + b) / 18446744073709551616 = 1 := by omega
    rw [e1, e2]
    rw [q1] at hr
    clear q1 e1 e2
    go_enter Tryd.func44, Tryd.ntmps44
    go_wp2
    go_ret2
    exact ⟨rfl, rfl⟩


theorem mul64_any (a b : Int) (ha : 0 ≤ a) (ha1 : a ≤ 18446744073709551615) (hb : 0 ≤ b) (hb1 : b ≤ 18446744073709551615) (w : World) :
    Calls Tryd.prog 65 #[.int .u64 a, .int .u64 b] w fun e w' => e = .returned (.tuple #[.int .u64 (a * b / 18446744073709551616), .int .u64 (a * b % 18446744073709551616)]) ∧ w = w' := by
  obtain ⟨x, rfl⟩ := Int.eq_ofNat_of_zero_le ha
  obtain ⟨y, rfl⟩ := Int.eq_ofNat_of_zero_le hb
  refine (Tryd.bits_Mul64 x y (by omega) (by omega) w).mono fun e w' ⟨he, hw⟩ => ⟨?_, hw.symm⟩
  rw [he, ← Int.natCast_mul]
  rfl

theorem mul_nonneg' (a b : Int) (ha : 0 ≤ a) (hb : 0 ≤ b) : 0 ≤ a * b := Int.mul_nonneg ha hb

set_option maxHeartbeats 400000 in
theorem mul_any (a b : Int) (ha : 0 ≤ a) (ha1 : a ≤ 18446744073709551615) (hb : 0 ≤ b) (hb1 : b ≤ 18446744073709551615) (w : World) :
    Calls Tryd.prog 58 #[.int .u64 a, .int .u64 b] w fun e w' => e = .returned (.tuple #[.int .u64 (mulN a b), .bool (mulB a b)]) ∧ w = w' := by
  have hc := mul64_any a b ha ha1 hb hb1 w
  have hp := mul_nonneg' a b ha hb
  unfold mulN mulB
  generalize a * b = p at *
  by_cases h : p ≤ 18446744073709551615
  · have q1 : p / 18446744073709551616 = 0 := by omega
    have q2 : p % 18446744073709551616 = p := by omega
    rw [if_pos h, decide_eq_true h]
    rw [q1, q2] at hc
    clear q1 q2
    have H := Lib.hid hc
    clear hc
    go_enter Tryd.func58, Tryd.ntmps58
    go_wp2_with (go_at_call 65; refine H.out.mono ?_; rintro e w' ⟨rfl, rfl⟩)
    go_ret2
    exact ⟨rfl, rfl⟩
  · rw [if_neg h, decide_eq_false h]
    have q1 : (p / 18446744073709551616 == 0) = false := by simp; omega
    have H := Lib.hid hc
    clear hc
    go_enter Tryd.func58, Tryd.ntmps58
    go_wp2_with (go_at_call 65; refine H.out.mono ?_; rintro e w' ⟨rfl, rfl⟩)
    go_ret2
    exact ⟨rfl, rfl⟩

set_option maxHeartbeats 400000 in
theorem times_any (a b : Int) (ha : 0 ≤ a) (ha1 : a ≤ 18446744073709551615) (hb : 0 ≤ b) (hb1 : b ≤ 18446744073709551615) (w : World) :
    Calls Tryd.prog 46 #[.int .u64 a, .int .u64 b] w fun e w' => e = .returned (.int .u64 (endN (mulB a b) (mulN a b))) ∧ w = w' := by
  have hc := mul_any a b ha ha1 hb hb1 w
  generalize mulN a b = n at *
  generalize mulB a b = k at *
  have H := Lib.hid hc
  clear hc
  cases k
  all_goals
    simp only [endN]
    go_enter Tryd.func46, Tryd.ntmps46
    go_wp2_with (go_at_call 58; refine H.out.mono ?_; rintro e w' ⟨rfl, rfl⟩)
    go_ret
    exact ⟨rfl, rfl⟩

end Go.Proofs.YtepdaghbplfhdaaDoor
/- Contracts of the document's own answers (package cadencyref01), of Ceil, and of Sum. -/
namespace Go.Proofs.YtepdaghbplfhdaaDoor
open Go.RowKit
set_option linter.unusedVariables false

set_option maxHeartbeats 400000 in
theorem refAdd_any (a b : Int) (ha : 0 ≤ a) (ha1 : a ≤ 18446744073709551615) (hb : 0 ≤ b) (hb1 : b ≤ 18446744073709551615) (w : World) :
    Calls Tryd.prog 34 #[.int .u64 a, .int .u64 b] w fun e w' => e = .returned (.agg #[.int .u64 (addN a b), .bool (addB a b)]) ∧ Below w.heap.size w w' := by
  by_cases h : a + b ≤ 18446744073709551615
  · have e1 : addN a b = a + b := by simp [addN, h]
    have e2 : addB a b = true := by simp [addB, h]
    have h' : ¬ 18446744073709551615 - b < a := by omega
    rw [e1, e2]
    clear e1 e2
    go_enter Tryd.func34, Tryd.ntmps34
    go_wp2
    go_returns
    exact ⟨rfl, by go_grown⟩
  · have e1 : addN a b = 0 := by simp [addN, h]
    have e2 : addB a b = false := by simp [addB, h]
    have h' : 18446744073709551615 - b < a := by omega
    rw [e1, e2]
    clear e1 e2
    go_enter Tryd.func34, Tryd.ntmps34
    go_wp2
    go_returns
    exact ⟨rfl, by go_grown⟩

theorem mul_over (a b : Int) (hb : 0 < b) (h : 18446744073709551615 / b < a) : ¬ a * b ≤ 18446744073709551615 := by
  intro hle
  have := (Int.le_ediv_iff_mul_le hb).2 hle
  omega
theorem mul_under (a b : Int) (hb : 0 < b) (h : ¬ 18446744073709551615 / b < a) : a * b ≤ 18446744073709551615 :=
  (Int.le_ediv_iff_mul_le hb).1 (by omega)

set_option maxHeartbeats 400000 in
theorem refMul_any (a b : Int) (ha : 0 ≤ a) (ha1 : a ≤ 18446744073709551615) (hb : 0 ≤ b) (hb1 : b ≤ 18446744073709551615) (w : World) :
    Calls Tryd.prog 36 #[.int .u64 a, .int .u64 b] w fun e w' => e = .returned (.agg #[.int .u64 (mulN a b), .bool (mulB a b)]) ∧ Below w.heap.size w w' := by
  by_cases hb0 : 0 < b
  · by_cases h : 18446744073709551615 / b < a
    · have e1 : mulN a b = 0 := by simp [mulN, mul_over a b hb0 h]
      have e2 : mulB a b = false := by simp [mulB, mul_over a b hb0 h]
      rw [e1, e2]
      clear e1 e2
      go_enter Tryd.func36, Tryd.ntmps36
      go_wp2
      go_returns
      exact ⟨rfl, by go_grown⟩
    · have hm := mul_under a b hb0 h
      have e1 : mulN a b = a * b := by simp [mulN, hm]
      have e2 : mulB a b = true := by simp [mulB, hm]
      have hp := mul_nonneg' a b ha hb
      rw [e1, e2]
      clear e1 e2
      go_enter Tryd.func36, Tryd.ntmps36
      go_wp2
      go_returns
      exact ⟨rfl, by go_grown⟩
  · obtain rfl : b = 0 := by omega
    have e1 : mulN a 0 = 0 := by simp [mulN]
    have e2 : mulB a 0 = true := by simp [mulB]
    rw [e1, e2]
    clear e1 e2
    go_enter Tryd.func36, Tryd.ntmps36
    go_wp2
    go_returns
    exact ⟨by simp, by go_grown⟩

theorem quo_le (a b : Int) (ha : 0 ≤ a) : 0 ≤ b → 0 ≤ a / b ∧ a / b ≤ a := fun hb => ⟨Int.ediv_nonneg ha hb, Int.ediv_le_self _ ha⟩
theorem quo_lt (a b : Int) (ha : 0 ≤ a) (ha1 : a ≤ 18446744073709551615) (hb : 0 < b) (h : a % b ≠ 0) : a / b + 1 ≤ 18446744073709551615 := by
  have h1 : b ≠ 1 := by intro e; subst e; omega
  have h0 : 0 ≤ a / b := Int.ediv_nonneg ha (by omega)
  have h2 : a / b * 2 ≤ a / b * b := Int.mul_le_mul_of_nonneg_left (by omega) h0
  have h3 := Int.ediv_mul_le a (b := b) (by omega)
  omega

set_option maxHeartbeats 400000 in
theorem ceil_any (a b : Int) (ha : 0 ≤ a) (ha1 : a ≤ 18446744073709551615) (hb : 0 ≤ b) (hb1 : b ≤ 18446744073709551615) (w : World) :
    Calls Tryd.prog 59 #[.int .u64 a, .int .u64 b] w fun e w' => e = .returned (.tuple #[.int .u64 (ceilN a b), .bool (ceilB b)]) ∧ w = w' := by
  by_cases h0 : b = 0
  · subst h0
    have e1 : ceilN a 0 = 0 := by simp [ceilN]
    have e2 : ceilB 0 = false := by simp [ceilB]
    rw [e1, e2]
    clear e1 e2
    go_enter Tryd.func59, Tryd.ntmps59
    go_wp2
    go_ret2
    exact ⟨rfl, rfl⟩
  · have hp : 0 < b := by omega
    have hz : (b == 0) = false := by simp; omega
    have hq := quo_le a b ha hb
    have e2 : ceilB b = true := by simp [ceilB, h0]
    have hm := Int.emod_nonneg a h0
    by_cases hr : a % b = 0
    · have e1 : ceilN a b = a / b := by simp [ceilN, h0, hr]
      have hrb : (a % b == 0) = true := by simp [hr]
      rw [e1, e2]
      clear e1 e2 hr h0
      go_enter Tryd.func59, Tryd.ntmps59
      go_wp2
      go_ret2
      exact ⟨rfl, rfl⟩
    · have e1 : ceilN a b = a / b + 1 := by simp [ceilN, h0, hr]
      have hrb : (a % b == 0) = false := by simp; exact hr
      have hl := quo_lt a b ha ha1 hp hr
      rw [e1, e2]
      clear e1 e2 hr h0
      go_enter Tryd.func59, Tryd.ntmps59
      go_wp2
      go_ret2
      exact ⟨rfl, rfl⟩

set_option maxHeartbeats 400000 in
theorem refCeil_any (a b : Int) (ha : 0 ≤ a) (ha1 : a ≤ 18446744073709551615) (hb : 0 ≤ b) (hb1 : b ≤ 18446744073709551615) (w : World) :
    Calls Tryd.prog 35 #[.int .u64 a, .int .u64 b] w fun e w' => e = .returned (.agg #[.int .u64 (ceilN a b), .bool (ceilB b)]) ∧ Below w.heap.size w w' := by
  by_cases h0 : b = 0
  · subst h0
    have e1 : ceilN a 0 = 0 := by simp [ceilN]
    have e2 : ceilB 0 = false := by simp [ceilB]
    rw [e1, e2]
    clear e1 e2
    go_enter Tryd.func35, Tryd.ntmps35
    go_wp2
    go_returns
    exact ⟨rfl, by go_grown⟩
  · have hp : 0 < b := by omega
    have hz : (b == 0) = false := by simp; omega
    have hq := quo_le a b ha hb
    have e2 : ceilB b = true := by simp [ceilB, h0]
    have hm := Int.emod_nonneg a h0
    by_cases hr : a % b = 0
    · have e1 : ceilN a b = a / b := by simp [ceilN, h0, hr]
      have hrb : ¬ 0 < a % b := by omega
      rw [e1, e2]
      clear e1 e2 hr h0
      go_enter Tryd.func35, Tryd.ntmps35
      go_wp2
      go_returns
      exact ⟨rfl, by go_grown⟩
    · have e1 : ceilN a b = a / b + 1 := by simp [ceilN, h0, hr]
      have hrb : 0 < a % b := by omega
      have hl := quo_lt a b ha ha1 hp hr
      rw [e1, e2]
      clear e1 e2 hr h0
      go_enter Tryd.func35, Tryd.ntmps35
      go_wp2
      go_returns
      exact ⟨rfl, by go_grown⟩

set_option maxHeartbeats 400000 in
theorem end_any (n : Int) (k : Bool) (w : World) :
    Calls Tryd.prog 33 #[.agg #[.int .u64 n, .bool k]] w fun e w' => e = .returned (.int .u64 (endN k n)) ∧ Below w.heap.size w w' := by
  cases k
  all_goals
    simp only [endN]
    go_enter Tryd.func33, Tryd.ntmps33
    go_wp2
    go_ret
    exact ⟨rfl, by go_grown⟩

/-! ### Sum -/
def satAdd (s n : Int) : Int := if s + n ≤ 18446744073709551615 then s + n else 18446744073709551615
def satSum (s : Int) (l : List Int) : Int := l.foldl satAdd s
theorem satSum_top : ∀ (l : List Int), (∀ n ∈ l, 0 ≤ n) → satSum 18446744073709551615 l = 18446744073709551615
  | [], _ => rfl
  | n :: l, h => by
    have h0 := h n (by simp)
    have : satAdd 18446744073709551615 n = 18446744073709551615 := by unfold satAdd; split <;> omega
    rw [satSum, List.foldl_cons, this]
    exact satSum_top l fun m hm => h m (by simp [hm])
theorem satSum_bd : ∀ (l : List Int) (s : Int), 0 ≤ s → s ≤ 18446744073709551615 → (∀ n ∈ l, 0 ≤ n) → 0 ≤ satSum s l ∧ satSum s l ≤ 18446744073709551615
  | [], s, h0, h1, _ => ⟨h0, h1⟩
  | n :: l, s, h0, h1, h => by
    have h2 := h n (by simp)
    rw [satSum, List.foldl_cons]
    exact satSum_bd l _ (by unfold satAdd; split <;> omega) (by unfold satAdd; split <;> omega) fun m hm => h m (by simp [hm])
theorem take_one (zs : List Int) (k : Nat) (h : k < zs.length) : zs.take (k + 1) = zs.take k ++ [zs.getD k 0] := by
  rw [List.take_succ_eq_append_getElem h]; simp [List.getD_eq_getElem?_getD, h]
theorem satSum_snoc (s : Int) (zs : List Int) (k : Nat) (h : k < zs.length) : satSum s (zs.take (k + 1)) = satAdd (satSum s (zs.take k)) (zs.getD k 0) := by
  rw [take_one zs k h, satSum, List.foldl_append]; rfl
theorem satSum_over (s : Int) (zs : List Int) (k : Nat) (hn : ∀ n ∈ zs, 0 ≤ n) (h : k < zs.length) (ho : ¬ satSum s (zs.take k) + zs.getD k 0 ≤ 18446744073709551615) : satSum s zs = 18446744073709551615 := by
  have e : zs = zs.take (k + 1) ++ zs.drop (k + 1) := (List.take_append_drop _ _).symm
  have : satSum s zs = satSum (satSum s (zs.take (k + 1))) (zs.drop (k + 1)) := by
    conv => lhs; rw [e]
    rw [satSum, List.foldl_append]; rfl
  rw [this, satSum_snoc s zs k h, satAdd, if_neg ho]
  exact satSum_top _ fun n hm => hn n (List.mem_of_mem_drop hm)
theorem ret_u64 {a b : Int} (h : a = b) : Ending.returned (.int .u64 a) = .returned (.int .u64 b) := by rw [h]

set_option maxHeartbeats 800000 in
theorem sum_any (first : Int) (x : Addr) (len cap : Nat) (zs : List Int) (h0 : 0 ≤ first) (h1 : first ≤ 18446744073709551615) (hlen : zs.length = len) (hcap : len ≤ cap) (hmax : cap ≤ maxLen)
    (w : World) (hc : ∀ i, i < len → w.cell? (x.add i) = some (.int .u64 (zs.getD i 0))) (hz : ∀ n ∈ zs, 0 ≤ n ∧ n ≤ 18446744073709551615) :
    Calls Tryd.prog 29 #[.int .u64 first, .slice (some x) len cap] w fun e w' => e = .returned (.int .u64 (satSum first zs)) ∧ w = w' := by
  unfold maxLen at hmax
  have HC := Lib.hid hc
  have HL := Lib.hid hlen
  have HZ := Lib.hid hz
  clear hc hlen hz
  go_enter Tryd.func29, Tryd.ntmps29
  go_wp2
  go_loop [5, 13] (fun s i => ∃ k : Nat, k ≤ len ∧ i = .int .i64 k ∧ s = .int .u64 (satSum first (zs.take k))) (fun _ i => len - (intOf i).toNat)
  case atStart => exact ⟨0, Nat.zero_le _, rfl, rfl⟩
  case round =>
    obtain ⟨k, hk, rfl, rfl⟩ := hrel
    have hnn : ∀ n ∈ zs.take k, 0 ≤ n := fun n hn => (HZ.out n (List.mem_of_mem_take hn)).1
    have hb := satSum_bd (zs.take k) first h0 h1 hnn
    clear hnn
    by_cases hlt : k < len
    · have hcell := HC.out k hlt
      have hkz : k < zs.length := by rw [HL.out]; exact hlt
      have hzb : 0 ≤ zs.getD k 0 ∧ zs.getD k 0 ≤ 18446744073709551615 := HZ.out _ (by rw [List.getD_eq_getElem?_getD, List.getElem?_eq_getElem hkz]; exact List.getElem_mem _)
      have HS := Lib.hid (satSum_snoc first zs k hkz)
      have HO := Lib.hid (satSum_over first zs k (fun n hn => (HZ.out n hn).1) hkz)
      have hadd := add_any (satSum first (zs.take k)) (zs.getD k 0) hb.1 hb.2 hzb.1 hzb.2 w
      clear hkz
      generalize zs.getD k 0 = z at *
      generalize satSum first (zs.take k) = s at *
      by_cases ho : s + z ≤ 18446744073709551615
      · have e1 : addN s z = s + z := by simp [addN, ho]
        have e2 : addB s z = true := by simp [addB, ho]
        rw [e1, e2] at hadd
        have HA := Lib.hid hadd
        clear hadd e1 e2
        go_wp2_with (go_at_call 44; refine HA.out.mono ?_; rintro e w' ⟨rfl, rfl⟩)
        go_round
        case rel => exact ⟨k + 1, by omega, by go_num, by rw [HS.out, satAdd, if_pos ho]⟩
        case measure => simp [intOf]; omega
      · have e1 : addN s z = 0 := by simp [addN, ho]
        have e2 : addB s z = false := by simp [addB, ho]
        rw [e1, e2] at hadd
        have HA := Lib.hid hadd
        clear hadd e1 e2
        go_wp2_with (go_at_call 44; refine HA.out.mono ?_; rintro e w' ⟨rfl, rfl⟩)
        go_ret
        exact ⟨ret_u64 (HO.out ho).symm, rfl⟩
    · go_wp2
      go_ret
      exact ⟨ret_u64 (by rw [List.take_of_length_le (by rw [HL.out]; omega)]), rfl⟩
end Go.Proofs.YtepdaghbplfhdaaDoor
/- Sums of many: plain facts, and contracts of the document's own Sum, and of Sum at a row of the call's own. -/
namespace Go.Proofs.YtepdaghbplfhdaaDoor
open Go.RowKit
set_option linter.unusedVariables false

/-! ### Plain facts -/
def sumI : List Int → Int
  | [] => 0
  | n :: l => n + sumI l
theorem sumI_append : ∀ (l m : List Int), sumI (l ++ m) = sumI l + sumI m
  | [], m => by simp [sumI]
  | n :: l, m => by simp only [List.cons_append, sumI, sumI_append l m]; omega
theorem sumI_reverse : ∀ l : List Int, sumI l.reverse = sumI l
  | [] => rfl
  | n :: l => by rw [List.reverse_cons, sumI_append, sumI_reverse l]; simp only [sumI]; omega
theorem sumI_nonneg : ∀ l : List Int, (∀ n ∈ l, 0 ≤ n) → 0 ≤ sumI l
  | [], _ => by simp [sumI]
  | n :: l, h => by
    have h0 := h n (by simp)
    have h1 := sumI_nonneg l fun m hm => h m (by simp [hm])
    simp only [sumI]; omega
theorem satSum_eq : ∀ (l : List Int) (s : Int), s ≤ 18446744073709551615 → (∀ n ∈ l, 0 ≤ n) → satSum s l = if s + sumI l ≤ 18446744073709551615 then s + sumI l else 18446744073709551615
  | [], s, hs, _ => by simp [satSum, sumI, hs]
  | n :: l, s, hs, h => by
    have h0 := h n (by simp)
    have hl : ∀ m ∈ l, 0 ≤ m := fun m hm => h m (by simp [hm])
    have h1 := sumI_nonneg l hl
    rw [satSum, List.foldl_cons]
    show satSum (satAdd s n) l = _
    by_cases hle : s + n ≤ 18446744073709551615
    · rw [show satAdd s n = s + n from if_pos hle, satSum_eq l _ hle hl]
      rw [show sumI (n :: l) = n + sumI l from rfl, Int.add_assoc]
    · rw [show satAdd s n = 18446744073709551615 from if_neg hle, satSum_top l hl, if_neg (by simp only [sumI]; omega)]
theorem satSum_reverse (l : List Int) (h : ∀ n ∈ l, 0 ≤ n) : satSum 0 l.reverse = satSum 0 l := by
  rw [satSum_eq _ 0 (by omega) (fun n hn => h n (List.mem_reverse.1 hn)), satSum_eq _ 0 (by omega) h, sumI_reverse]
theorem satSum_head (n : Int) (l : List Int) (h1 : n ≤ 18446744073709551615) : satSum 0 (n :: l) = satSum n l := by
  rw [satSum, List.foldl_cons, show satAdd 0 n = n from by simp [satAdd, h1]]; rfl
theorem endN_sat (s z : Int) : endN (addB s z) (addN s z) = satAdd s z := by
  simp only [satAdd, endN, addB, addN]
  by_cases hle : s + z ≤ 18446744073709551615 <;> simp [hle]

/-! ### A slice that reads as a row of numbers; nil too -/
/-- Below the first new block all is as it was. -/
def KeptW (w w' : World) : Prop := Below w.heap.size w w'
def Nums (w : World) (v : Value) (zs : List Int) : Prop :=
  (v = .slice none 0 0 ∧ zs = []) ∨ ∃ x cap, v = .slice (some x) zs.length cap ∧ zs.length ≤ cap ∧ cap ≤ maxLen ∧ ∀ i, i < zs.length → w.cell? (x.add i) = some (.int .u64 (zs.getD i 0))

theorem Nums.later {w w1 : World} {v : Value} {zs : List Int} (h : Nums w v zs) (hb : Below w.heap.size w w1) : Nums w1 v zs := by
  rcases h with h | ⟨x, cap, hv, hle, hmax, hc⟩
  · exact .inl h
  · exact .inr ⟨x, cap, hv, hle, hmax, fun i hi => by rw [hb.cell (World.block_lt_of_cell? w _ (hc i hi))]; exact hc i hi⟩
theorem add_add (x : Addr) (i j : Nat) : (x.add i).add j = x.add (i + j) := by
  unfold Addr.add
  by_cases hi : i = 0 <;> by_cases hj : j = 0 <;> simp [hi, hj, Nat.add_assoc]
theorem Nums.tail {w : World} {x : Addr} {cap : Nat} {m : Int} {zs : List Int} (hle : zs.length + 1 ≤ cap) (hmax : cap ≤ maxLen) (hc : ∀ i, i < zs.length + 1 → w.cell? (x.add i) = some (.int .u64 ((m :: zs).getD i 0))) :
    Nums w (.slice (some (x.add 1)) zs.length (cap - 1)) zs :=
  .inr ⟨x.add 1, cap - 1, rfl, by omega, by omega, fun i hi => by rw [add_add, Nat.add_comm]; simpa using hc (i + 1) (by omega)⟩
theorem sum_nil (first : Int) (w : World) : Calls Tryd.prog 29 #[.int .u64 first, .slice none 0 0] w fun e w' => e = .returned (.int .u64 first) ∧ w = w' := by
  go_enter Tryd.func29, Tryd.ntmps29
  go_wp2
  go_rounds 1
  go_ret
  exact ⟨rfl, rfl⟩

theorem sum_nums (first : Int) (v : Value) (zs : List Int) (h0 : 0 ≤ first) (h1 : first ≤ 18446744073709551615) (w : World) (hv : Nums w v zs) (hz : ∀ n ∈ zs, 0 ≤ n ∧ n ≤ 18446744073709551615) :
    Calls Tryd.prog 29 #[.int .u64 first, v] w fun e w' => e = .returned (.int .u64 (satSum first zs)) ∧ w = w' := by
  rcases hv with ⟨rfl, rfl⟩ | ⟨x, cap, rfl, hle, hmax, hc⟩
  · exact sum_nil first w
  · exact sum_any first x zs.length cap zs h0 h1 rfl hle hmax w hc hz

set_option maxHeartbeats 1000000 in
theorem refSum_nums (v : Value) (zs : List Int) (w : World) (hv : Nums w v zs) (hz : ∀ n ∈ zs, 0 ≤ n ∧ n ≤ 18446744073709551615) :
    Calls Tryd.prog 37 #[v] w fun e w' => e = .returned (.int .u64 (satSum 0 zs)) ∧ Below w.heap.size w w' := by
  rcases hv with ⟨rfl, rfl⟩ | ⟨x, cap, rfl, hle, hmax, hc⟩
  · go_enter Tryd.func37, Tryd.ntmps37
    go_wp2
    go_rounds 1
    go_ret
    exact ⟨rfl, Below.refl _ _⟩
  · unfold maxLen at hmax
    have HC := Lib.hid hc
    have HZ := Lib.hid hz
    clear hc hz
    generalize hl : zs.length = len at *
    have HL := Lib.hid hl
    clear hl
    go_enter Tryd.func37, Tryd.ntmps37
    go_wp2
    go_loopw [3, 4] (fun s i wr => ∃ k : Nat, k ≤ len ∧ i = .int .i64 k ∧ s = .int .u64 (satSum 0 (zs.take k)) ∧ KeptW w wr) (fun _ i _ => len - (intOf i).toNat)
    case atStart => exact ⟨0, Nat.zero_le _, rfl, rfl, Below.refl _ _⟩
    case round =>
      obtain ⟨k, hk, rfl, rfl, hbw⟩ := hrel
      have hnn : ∀ n ∈ zs.take k, 0 ≤ n := fun n hn => (HZ.out n (List.mem_of_mem_take hn)).1
      have hb := satSum_bd (zs.take k) 0 (by omega) (by omega) hnn
      clear hnn
      by_cases hlt : k < len
      · have hkz : k < zs.length := by rw [HL.out]; exact hlt
        have hcell : wr.cell? (x.add k) = some (.int .u64 (zs.getD k 0)) := by
          have h := HC.out k hlt
          rw [Below.cell hbw (World.block_lt_of_cell? w _ h)]; exact h
        have hzb : 0 ≤ zs.getD k 0 ∧ zs.getD k 0 ≤ 18446744073709551615 := HZ.out _ (by rw [List.getD_eq_getElem?_getD, List.getElem?_eq_getElem hkz]; exact List.getElem_mem _)
        have HS := Lib.hid (satSum_snoc 0 zs k hkz)
        clear hkz
        generalize zs.getD k 0 = z at *
        generalize satSum 0 (zs.take k) = s at *
        have HA := Lib.hid (refAdd_any s z hb.1 hb.2 hzb.1 hzb.2)
        have HE := Lib.hid (endN_sat s z)
        have HB : Hid (Below w.heap.size w wr) := Lib.hid hbw
        clear hbw
        generalize addN s z = n1 at *
        generalize addB s z = k1 at *
        go_wp2_with (first
          | (go_at_call 34; refine (HA.out _).mono ?_; rintro e w1 ⟨rfl, hb1⟩)
          | (go_at_call 33; refine (end_any _ _ _).mono ?_; rintro e w2 ⟨rfl, hb2⟩))
        have s1 := HB.out.size
        have s2 := hb1.size
        go_roundw
        case rel => exact ⟨k + 1, by omega, by go_num, by rw [HS.out, ← HE.out], (HB.out.trans (hb1.mono (by omega))).trans (hb2.mono (by omega))⟩
        case measure => simp [intOf]; omega
      · have HB : Hid (Below w.heap.size w wr) := Lib.hid hbw
        clear hbw
        go_wp2
        go_ret
        exact ⟨ret_u64 (by rw [List.take_of_length_le (by rw [HL.out]; omega)]), HB.out⟩

/-! ### Two rows of the call's own: the numbers, and the same in the other order -/
def cellsU (ns : List Int) : List Value := ns.map (Value.int .u64)
structure Pair (w wr : World) (vL vB : Value) (ns : List Int) : Prop where
  low : wr.ownsRow w.heap.size 24 1 vL ns.length (cellsU ns)
  back : wr.ownsRow w.heap.size 24 1 vB ns.length (cellsU ns.reverse)
  sep : vB.ownBlock = none ∨ vB.ownBlock ≠ vL.ownBlock
  nil : ns = [] → vL = .slice none 0 0 ∧ vB = .slice none 0 0
  below : Below w.heap.size w wr
theorem Pair.start (w w1 : World) (h : Below w.heap.size w w1) : Pair w w1 (.slice none 0 0) (.slice none 0 0) [] :=
  ⟨World.ownsRow_nil _ _ _ _, World.ownsRow_nil _ _ _ _, .inl rfl, fun _ => ⟨rfl, rfl⟩, h⟩
theorem own_single (w1 : World) (B : Nat) (n : Int) (hB : B ≤ w1.heap.size) : (w1.alloc (.cells #[.int .u64 n] 24)).ownsRow B 24 1 (.slice (some ⟨w1.heap.size, 0, none⟩) 1 1) 1 [.int .u64 n] :=
  ⟨rfl, .inr ⟨w1.heap.size, 1, #[.int .u64 n], rfl, hB, heap_alloc_new w1 _, by omega, by unfold maxLen; omega, rfl, rfl⟩⟩
theorem Pair.mid {w wr w1 : World} {vL vB vL' : Value} {ns : List Int} (h : Pair w wr vL vB ns) (n : Int) (hg1 : (wr.alloc (.cells #[.int .u64 n] 24)).grownBy w1 vL.ownBlock) :
    (w1.alloc (.cells #[.int .u64 n] 24)).ownsRow w.heap.size 24 1 (.slice (some ⟨w1.heap.size, 0, none⟩) 1 1) 1 [.int .u64 n] ∧ (w1.alloc (.cells #[.int .u64 n] 24)).ownsRow w.heap.size 24 1 vB ns.length (cellsU ns.reverse) ∧
      w.heap.size ≤ (w1.alloc (.cells #[.int .u64 n] 24)).heap.size ∧ Below w.heap.size w w1 := by
  have hs := h.below.size
  have hs1 := hg1.size
  simp only [World.size_alloc] at hs1
  refine ⟨own_single w1 _ n (by omega), ((h.back.alloc _).kept hg1 h.sep).alloc _, by simp; omega, ?_⟩
  exact (h.below.alloc hs _).grown hg1 (by simp; omega) fun k hk => (h.low.lt k hk).1
theorem Pair.done {w wr w1 w2 : World} {vL vB vL' vB' : Value} {ns : List Int} (h : Pair w wr vL vB ns) (n : Int) (hg1 : (wr.alloc (.cells #[.int .u64 n] 24)).grownBy w1 vL.ownBlock)
    (o1 : w1.ownsRow w.heap.size 24 1 vL' (ns.length + 1) (cellsU ns ++ [.int .u64 n])) (o2 : w2.ownsRow w.heap.size 24 1 vB' (1 + ns.length) ([.int .u64 n] ++ cellsU ns.reverse))
    (hg2 : (w1.alloc (.cells #[.int .u64 n] 24)).grownBy w2 (some w1.heap.size)) (hat : vB'.ownBlock = some w1.heap.size ∨ vB'.ownBlock = some (w1.alloc (.cells #[.int .u64 n] 24)).heap.size) : Pair w w2 vL' vB' (ns ++ [n]) := by
  obtain ⟨_, _, hsz, hb⟩ := h.mid (vL' := vL') n hg1
  have hne : vL'.ownBlock = none ∨ vL'.ownBlock ≠ some w1.heap.size := by
    cases hv : vL'.ownBlock with
    | none => exact .inl rfl
    | some g =>
      refine .inr fun e => ?_
      injection e with e
      subst e
      exact absurd (o1.lt _ hv).2 (by omega)
  refine ⟨?_, ?_, ?_, fun e => by simp at e, ?_⟩
  · have := (o1.alloc (.cells #[.int .u64 n] 24)).kept hg2 hne
    simpa [cellsU] using this
  · have e : (ns ++ [n]).length = 1 + ns.length := by simp; omega
    rw [e]
    simpa [cellsU] using o2
  · refine .inr fun e => ?_
    rcases hat with ha | ha <;> rw [ha] at e
    · exact absurd (o1.lt _ e.symm).2 (by omega)
    · exact absurd (o1.lt _ e.symm).2 (by simp)
  · exact (hb.alloc hb.size _).grown hg2 (by simp; have := hb.size; omega) fun k hk => by injection hk with hk; subst hk; exact hb.size
/-- What a row of the call's own is good for: it reads as its numbers. -/
theorem own_nums {w : World} {B : Nat} {v : Value} {ns : List Int} (h : w.ownsRow B 24 1 v ns.length (cellsU ns)) : Nums w v ns := by
  have hc := fun g (hg : v.ownBlock = some g) => h.cells hg
  rcases h.2 with ⟨hv, h0⟩ | ⟨g, cap, cur, hv, _, _, hle, hmax, _, _⟩
  · exact .inl ⟨hv, List.eq_nil_of_length_eq_zero h0⟩
  · subst hv
    refine .inr ⟨⟨g, 0, none⟩, cap, rfl, hle, hmax, fun i hi => ?_⟩
    refine hc g rfl i _ ?_
    simp [cellsU, List.getD_eq_getElem?_getD, hi]
end Go.Proofs.YtepdaghbplfhdaaDoor
/- What can come ahead of a task: plain words. -/
namespace Go.Proofs.YtepdaghbplfhdaaDoor
open Go.RowKit
set_option linter.unusedVariables false
set_option linter.unusedSimpArgs false
/-! ### What blocks, and what comes ahead -/
abbrev U (n : Int) : Prop := 0 ≤ n ∧ n ≤ 18446744073709551615
/-- May the set be, and is there such a place? -/
def isB (l : List Ts) (i : Int) : Bool := decide ((chkAll l).2 = 0) && (decide (0 ≤ i) && decide (i < (l.length : Int)))
theorem isB_iff {l : List Ts} {i : Int} (h : isB l i = true) : (chkAll l).2 = 0 ∧ 0 ≤ i ∧ i < (l.length : Int) := by
  simpa [isB] using h
theorem isB_vs {l : List Ts} {i : Int} (h : isB l i = true) : Vs l := vs_of (isB_iff h).1
theorem isB_get {l : List Ts} {i : Int} (h : isB l i = true) : ∃ (k : Nat) (y : Ts), i = (k : Int) ∧ k < l.length ∧ l[k]? = some y := by
  obtain ⟨_, h0, h1⟩ := isB_iff h
  obtain ⟨k, rfl⟩ := Int.eq_ofNat_of_zero_le h0
  have hk : k < l.length := by omega
  exact ⟨k, l[k], rfl, hk, List.getElem?_eq_getElem hk⟩
def blkUF (p b : Int) (x : Ts) : Int := if x.p > p then max b (x.q - 1) else b
def blkU (p : Int) (l : List Ts) : Int := l.foldl (blkUF p) 0
/-- How often a task can be released in w ticks. -/
def oftS (x : Ts) (w : Int) : Int := ceilN (satAdd w x.j) x.t
def satMul (a b : Int) : Int := endN (mulB a b) (mulN a b)
def hiUF (p w s : Int) (x : Ts) : Int := if x.p < p then satAdd s (satMul (oftS x w) x.c) else s
def hiU (p w : Int) (l : List Ts) : Int := if w = 0 then 0 else l.foldl (hiUF p w) 0
def pOf (l : List Ts) (i : Int) : Int := (l.getD i.toNat ⟨ByteArray.empty, 1, 1, 1, 0, 1, 1⟩).p
def cOf (l : List Ts) (i : Int) : Int := (l.getD i.toNat ⟨ByteArray.empty, 1, 1, 1, 0, 1, 1⟩).c
/-- Block, Higher, and Need. -/
def blockI (l : List Ts) (i : Int) : Int := if isB l i then blkU (pOf l i) l else 0
def higherI (l : List Ts) (i w : Int) : Int := if isB l i then hiU (pOf l i) w l else 0
def needI (l : List Ts) (i w : Int) : Int := if isB l i then satSum 0 [cOf l i, blockI l i, higherI l i w] else 0
theorem foldl_snoc {α β : Type} (f : β → α → β) (b : β) (l : List α) (k : Nat) (x : α) (h : l[k]? = some x) : (l.take (k + 1)).foldl f b = f ((l.take k).foldl f b) x := by
  obtain ⟨hk, e⟩ := List.getElem?_eq_some_iff.1 h
  rw [List.take_succ_eq_append_getElem hk, List.foldl_append, e]
  rfl
theorem satAdd_u {a b : Int} (ha : 0 ≤ a) (hb : 0 ≤ b) : U (satAdd a b) := by
  unfold satAdd
  split
  · exact ⟨by omega, by omega⟩
  · exact ⟨by decide, by decide⟩
theorem satMul_u {a b : Int} (ha : 0 ≤ a) (hb : 0 ≤ b) : U (satMul a b) := by
  have := mul_nonneg' a b ha hb
  unfold satMul endN mulB mulN
  by_cases h : a * b ≤ 18446744073709551615
  · rw [if_pos h, decide_eq_true h, if_pos rfl]; exact ⟨this, h⟩
  · rw [decide_eq_false h, if_neg (by decide)]; exact ⟨by decide, by decide⟩
theorem ceil_u {a b : Int} (ha : U a) (hb : 1 ≤ b) : U (ceilN a b) := by
  obtain ⟨a0, a1⟩ := ha
  have hq := quo_le a b a0 (by omega)
  unfold ceilN
  rw [if_neg (by omega)]
  split
  · exact ⟨hq.1, by omega⟩
  · rename_i h
    have := quo_lt a b a0 a1 (by omega) h
    exact ⟨by omega, this⟩
theorem oft_u {x : Ts} {w : Int} (hx : TsOk x) (hw : U w) : U (oftS x w) := ceil_u (satAdd_u hw.1 hx.j0) hx.t0
theorem hiF_u {p w s : Int} {x : Ts} (hx : TsOk x) (hw : U w) (hs : U s) : U (hiUF p w s x) := by
  unfold hiUF
  split
  · exact satAdd_u hs.1 (satMul_u (oft_u hx hw).1 (by have := hx.c0; omega)).1
  · exact hs
theorem hi_take_u {l : List Ts} {p w : Int} (h : Vs l) (hw : U w) (k : Nat) : U ((l.take k).foldl (hiUF p w) 0) := by
  have : ∀ (m : List Ts) (s : Int), (∀ x ∈ m, TsOk x) → U s → U (m.foldl (hiUF p w) s) := by
    intro m
    induction m with
    | nil => intro s _ hs; exact hs
    | cons a r ih => intro s hm hs; exact ih _ (fun x hx => hm x (by simp [hx])) (hiF_u (hm a (by simp)) hw hs)
  exact this _ _ (fun x hx => h.all x (List.mem_of_mem_take hx)) ⟨by decide, by decide⟩
theorem blkUF_bd {p b : Int} {x : Ts} (hx : TsOk x) (hb : 0 ≤ b ∧ b ≤ 2147483646) : 0 ≤ blkUF p b x ∧ blkUF p b x ≤ 2147483646 := by
  have := hx.q0
  have := hx.q1
  unfold blkUF
  split <;> omega
theorem blk_take_bd {l : List Ts} {p : Int} (h : Vs l) (k : Nat) : 0 ≤ (l.take k).foldl (blkUF p) 0 ∧ (l.take k).foldl (blkUF p) 0 ≤ 2147483646 := by
  have : ∀ (m : List Ts) (s : Int), (∀ x ∈ m, TsOk x) → (0 ≤ s ∧ s ≤ 2147483646) → (0 ≤ m.foldl (blkUF p) s ∧ m.foldl (blkUF p) s ≤ 2147483646) := by
    intro m
    induction m with
    | nil => intro s _ hs; exact hs
    | cons a r ih => intro s hm hs; exact ih _ (fun x hx => hm x (by simp [hx])) (blkUF_bd (hm a (by simp)) hs)
  exact this _ _ (fun x hx => h.all x (List.mem_of_mem_take hx)) ⟨by decide, by decide⟩
theorem blockI_bd (l : List Ts) (i : Int) : 0 ≤ blockI l i ∧ blockI l i ≤ 2147483646 := by
  unfold blockI
  split
  · rename_i h
    have := blk_take_bd (p := pOf l i) (isB_vs h) l.length
    rwa [List.take_length] at this
  · omega
theorem higherI_u (l : List Ts) (i w : Int) (hw : U w) : U (higherI l i w) := by
  unfold higherI
  split
  · rename_i h
    unfold hiU
    split
    · exact ⟨by decide, by decide⟩
    · have := hi_take_u (p := pOf l i) (isB_vs h) hw l.length
      rwa [List.take_length] at this
  · exact ⟨by decide, by decide⟩
theorem pOf_get {l : List Ts} {k : Nat} {y : Ts} (h : l[k]? = some y) : pOf l (k : Int) = y.p ∧ cOf l (k : Int) = y.c := by
  unfold pOf cOf
  rw [Int.toNat_natCast, List.getD_eq_getElem?_getD, h]
  exact ⟨rfl, rfl⟩
end Go.Proofs.YtepdaghbplfhdaaDoor
/- Own rows of tasks: what LTak holds of them (where LTak is there, it stands in this text's place). -/
namespace Go.Proofs.YtepdaghbplfhdaaDoor
open Go.RowKit
set_option linter.unusedVariables false
set_option linter.unusedSimpArgs false
theorem own_len {w : World} {B e size n : Nat} {v : Value} {xs : List Value} (h : w.ownsRow B e size v n xs) : ∃ A cap, v = .slice A n cap ∧ n ≤ cap ∧ cap ≤ maxLen := by
  rcases h.2 with ⟨hv, h0⟩ | ⟨g, cap, cur, hv, hb, hh, hle, hmx, _, _⟩
  · exact ⟨none, 0, by rw [hv, h0], by omega, by unfold maxLen; omega⟩
  · exact ⟨_, cap, hv, hle, hmx⟩
theorem SetIn.rowR {B : Nat} {w : World} {v : Value} {k : Nat} {ts : List Ts} (h : SetIn B w v k ts) : ∃ A cap, v = .slice A ts.length cap ∧ Row w A cap ts := by
  rcases Nat.eq_zero_or_pos k with h0 | h0
  · subst h0
    obtain rfl := List.eq_nil_of_length_eq_zero h.len
    obtain ⟨A, cap, hv, hl, hm⟩ := Go.Proofs.YtepdaghbplfhdaaDoor.own_len h.row
    exact ⟨A, cap, hv, Row.nil _ _ (by unfold maxLen at hm; omega)⟩
  · obtain ⟨g, cap, hv, hO⟩ := h.own h0
    exact ⟨_, cap, by rw [h.len]; exact hv, hO.row⟩
theorem SetIn.snoc {B : Nat} {w w' : World} {v v' : Value} {k : Nat} {ts : List Ts} {x : Ts} (h : SetIn B w v k ts) (hx : TsW x) (ho : w'.ownsRow B 43 7 v' (k + 1) (tsCells ts ++ tsL x)) : SetIn B w' v' (k + 1) (ts ++ [x]) :=
  ⟨by simp [h.len], fun y hy => by
    rcases List.mem_append.1 hy with hy | hy
    · exact h.wf y hy
    · obtain rfl := List.mem_singleton.1 hy
      exact hx, by rw [tsCells_snoc]; exact ho⟩
end Go.Proofs.YtepdaghbplfhdaaDoor
/- A set, all of whose times are so many times as great. -/
namespace Go.Proofs.YtepdaghbplfhdaaDoor
open Go.RowKit
set_option linter.unusedVariables false
set_option linter.unusedSimpArgs false
theorem low25 (n : Int) : ∃ m : Nat, m < 33554432 ∧ bits .and .i64 n 33554431 = (m : Int) := by
  have h : (BitVec.ofInt 64 n &&& BitVec.ofInt 64 33554431).toNat ≤ 33554431 := by
    rw [BitVec.toNat_and]
    exact Nat.and_le_right
  have e : bits .and .i64 n 33554431 = IntKind.i64.wrap (((BitVec.ofInt 64 n &&& BitVec.ofInt 64 33554431).toNat : Nat) : Int) := rfl
  rw [e]
  generalize (BitVec.ofInt 64 n &&& BitVec.ofInt 64 33554431).toNat = z at *
  exact ⟨z, by omega, IntWalk.i64_in _ (by omega)⟩
/-- How many times. -/
def kOf (n : Int) : Int := 1 + bits .and .i64 n 33554431
theorem kOf_bd (n : Int) : 1 ≤ kOf n ∧ kOf n ≤ 33554432 := by
  obtain ⟨m, hm, e⟩ := low25 n
  unfold kOf
  rw [e]
  omega
def sclG (k : Int) (x : Ts) : Ts := ⟨x.n, x.c * k, x.t * k, x.d * k, x.j * k, x.q * k, x.p⟩
/-- Times that are small. -/
structure Sm20 (x : Ts) : Prop where
  c : 0 ≤ x.c ∧ x.c ≤ 20
  t : 0 ≤ x.t ∧ x.t ≤ 20
  d : 0 ≤ x.d ∧ x.d ≤ 20
  j : 0 ≤ x.j ∧ x.j ≤ 20
  q : 0 ≤ x.q ∧ x.q ≤ 20
theorem sm20_of {ts : List Ts} (h : SFs ts) : ∀ x ∈ ts, Sm20 x := fun x hx => by
  obtain ⟨i, hi, rfl⟩ := List.getElem_of_mem hx
  have s := h i _ (List.getElem?_eq_getElem hi)
  have := s.c0; have := s.c1; have := s.d0; have := s.d1; have := s.j0; have := s.t0; have := s.t1; have := s.q0; have := s.q1
  exact ⟨by omega, by omega, by omega, by omega, by omega⟩
theorem mul20 {a k : Int} (ha : 0 ≤ a ∧ a ≤ 20) (hk : 1 ≤ k ∧ k ≤ 33554432) : 0 ≤ a * k ∧ a * k ≤ 671088640 :=
  ⟨Int.mul_nonneg ha.1 (by omega), Int.mul_le_mul ha.2 hk.2 (by omega) (by omega)⟩
theorem sclG_w {x : Ts} {k : Int} (hx : TsW x) (hs : Sm20 x) (hk : 1 ≤ k ∧ k ≤ 33554432) : TsW (sclG k x) := by
  have h1 := mul20 hs.c hk
  have h2 := mul20 hs.t hk
  have h3 := mul20 hs.d hk
  have h4 := mul20 hs.j hk
  have h5 := mul20 hs.q hk
  exact ⟨hx.n, (show in64 (x.c * k) from ⟨by omega, by omega⟩), (show in64 (x.t * k) from ⟨by omega, by omega⟩), (show in64 (x.d * k) from ⟨by omega, by omega⟩), (show in64 (x.j * k) from ⟨by omega, by omega⟩), (show in64 (x.q * k) from ⟨by omega, by omega⟩), hx.p⟩
theorem scl_step {k : Int} {l : List Ts} {i : Nat} {x : Ts} (hx : l[i]? = some x) : (l.take (i + 1)).map (sclG k) = (l.take i).map (sclG k) ++ [sclG k x] := by
  obtain ⟨hk, e⟩ := List.getElem?_eq_some_iff.1 hx
  rw [List.take_succ_eq_append_getElem hk, List.map_append, e]
  rfl
/-- What great tells. -/
def GrP (l : List Ts) (k : Int) (w : World) (e : Ending) (w' : World) : Prop := ∃ A cap, e = .returned (.slice A (l.map (sclG k)).length cap) ∧ Row w' A cap (l.map (sclG k)) ∧ Below w.heap.size w w'
set_option maxRecDepth 100000 in
set_option maxHeartbeats 8000000 in
theorem great_any (A : Option Addr) (cap : Nat) (l : List Ts) (n : Int) (w : World) (hR : Row w A cap l) (hn : in64 n) (h8 : l.length ≤ 8) (hs : ∀ x ∈ l, Sm20 x) :
    Calls Tryd.prog 13 #[.slice A l.length cap, .int .i64 n] w (GrP l (kOf n) w) := by
  obtain ⟨i0, hi, hz0, hz1, hz2⟩ := info_parts infoTs
  have hkb := kOf_bd n
  obtain ⟨z, hz, hze⟩ := low25 n
  have hke : kOf n = 1 + (z : Int) := by unfold kOf; rw [hze]
  have HKE := Lib.hid hke.symm
  generalize kOf n = k at *
  have hle := hR.le
  have hmx := hR.mx
  have ROW := Lib.hid hR
  have HSM := Lib.hid hs
  clear hR hs
  generalize hN : l.length = N at *
  have HN := Lib.hid hN
  clear hN hke
  go_enter Tryd.func13, Tryd.ntmps13
  go_upto_region 2 with (fail)
  rw [HKE.out]
  clear hz hze
  go_wp2
  go_loopw [6, 7] (fun vv i wr => ∃ j : Nat, j ≤ N ∧ i = .int .i64 j ∧ Hid (SetIn w.heap.size wr vv j ((l.take j).map (sclG k))) ∧ Hid (Lt w wr)) (fun _ i _ => N - (intOf i).toNat)
  case atStart => exact ⟨0, Nat.zero_le _, rfl, Lib.hid (SetIn.nil _ _), Lib.hid (Below.refl _ _)⟩
  case round =>
    obtain ⟨j, hj, rfl, HI, HL⟩ := hrel
    obtain ⟨A2, cap2, hv2, hl2, hm2⟩ := own_len HI.out.row
    subst hv2
    by_cases hlt : j < N
    · obtain ⟨b', o, x, rfl, hx, hxw, hbl, hT⟩ := ROW.out.get (k := j) (by rw [HN.out]; exact hlt)
      have hTr := hT.later HL.out
      have c0 := hTr.c0
      have c1 := hTr.c1
      have c2 := hTr.c2
      have c3 := hTr.c3
      have c4 := hTr.c4
      have c5 := hTr.c5
      have c6 := hTr.c6
      have hi0 : (0 : Int) ≤ (j : Int) := by omega
      have hi1 : (j : Int) < ((N : Nat) : Int) := by omega
      have hsm := HSM.out x (List.mem_of_getElem? hx)
      obtain ⟨a1, b1⟩ := mul20 hsm.c hkb
      obtain ⟨a2, b2⟩ := mul20 hsm.t hkb
      obtain ⟨a3, b3⟩ := mul20 hsm.d hkb
      obtain ⟨a4, b4⟩ := mul20 hsm.j hkb
      obtain ⟨a5, b5⟩ := mul20 hsm.q hkb
      have HST := Lib.hid (scl_step (k := k) hx)
      have HXW := Lib.hid (sclG_w hxw hsm hkb)
      obtain ⟨nm, xc, xt, xd, xj, xq, xp⟩ := x
      simp only at *
      have H7 := seven_new (wr.alloc (.cells #[.string nm, .int .i64 (xc * k), .int .i64 (xt * k), .int .i64 (xd * k), .int .i64 (xj * k), .int .i64 (xq * k), .int .i64 xp] 43)) (sclG k ⟨nm, xc, xt, xd, xj, xq, xp⟩)
      rw [World.size_alloc] at H7
      have H7 := Lib.hid H7
      clear hT hTr hx hxw hbl hsm
      go_upto_region 12 with (fail)
      go_wp2_with (at_builtin; refine wpList_append_own _ rfl _ _ 23 rfl w.heap.size 43 i0 _ 7 64 Tryd.underlying23 hi hz0 hz1 hz2 rfl (by decide) _ _ _ rfl ((HI.out.row.alloc _).alloc _) ⟨wr.heap.size + 1, 0, none⟩ 1 1 (tsL (sclG k ⟨nm, xc, xt, xd, xj, xq, xp⟩)) rfl rfl H7.out (tsL_one _) (by unfold maxLen; omega) (by omega) (by have := Below.size HL.out; simp; omega) ?_; intro v' w4 hown' hgrow hnil')
      go_roundw
      case rel =>
        have hb0 := Below.size HL.out
        exact ⟨j + 1, by omega, by go_num, Lib.hid (by rw [HST.out]; exact HI.out.snoc HXW.out hown'), Lib.hid (((((Below.refl w.heap.size w).trans HL.out).alloc hb0 _).alloc (by simp; omega) _).grown hgrow (by simp; omega) (fun q hq => (HI.out.row.lt q hq).1))⟩
      case measure => simp [intOf]; omega
    · obtain rfl : j = N := by omega
      have hfull : l.take j = l := List.take_of_length_le (by rw [HN.out]; exact Nat.le_refl _)
      rw [hfull] at HI
      obtain ⟨A3, cap3, hv3, hF⟩ := HI.out.rowR
      have HF := Lib.hid hF
      have HV := Lib.hid hv3
      clear hF hv3 hfull
      go_wp2
      go_ret
      exact ⟨A3, cap3, by rw [← HV.out]; rfl, HF.out, HL.out⟩
end Go.Proofs.YtepdaghbplfhdaaDoor
