/- Texts about the program, one after the other: Set, JBase, SPure. -/
import Derived.WalkKit
import Derived.ProofKit
import Derived.Handy
import Derived.Lib.Hide
import Derived.Deep.MidRow
import Derived.Deep.QuietTactic
import Derived.BigQuiet
import Derived.Deep.RegionHeld3
import Derived.Laws.Externs
import Derived.RangeFuncBox
import Derived.Deep.CutBlock
import Derived.Deep.LoopGhost
import Derived.WalkMore
import Derived.Laws.BytesString
import Derived.Laws.AppendOwn
import Derived.RangeFuncRecord
import Derived.MapKept
import Derived.RangeFuncNested
import Derived.RangeFuncBound
import Derived.RangeFuncCalls
import Derived.RangeFuncLeaves
import Derived.RangeFuncWrites
import Derived.Shelf.Abstract
import Derived.OwnWalkIn
import Derived.TacticsInMore
import Derived.LoopNIn
import Derived.LoopIn
import Derived.Deep.Quiet
import Derived.Shelf.Small.Bits
import Derived.Shelf.Small.Strs
import Derived.Shelf.Small.Wraps
import Derived.Shelf.Strconv.Itoa0
import Derived.Shelf.LaysM
import Derived.Shelf.Strconv.Clone
import Derived.Shelf.Strings.Search1
import Derived.Shelf.Bits.Mul64
import Derived.Ground.Names2Prog
import Derived.Shelf.Slices.SearchI
import Derived.Below
import Derived.ChangeOld
import Derived.OpenShut
import Derived.LaidMore
import Derived.Maps.AppendAt
import Derived.Test.YthfkbbiaemmndaaGreatDoorRows
import Derived.Test.YthfkbbiaemmndaaGreatDoorProg
import Derived.Laws.OwnMore
import Derived.Test.YthfkbbiaemmndaaGreatDoorG3
import Derived.Test.YthfkbbiaemmndaaGreatDoorG4
set_option linter.unusedVariables false
set_option linter.unusedSimpArgs false
set_option maxRecDepth 100000
set_option maxHeartbeats 16000000
namespace Go.Proofs.YthfkbbiaemmndaaGreatDoor
section
open Go.RowKit
theorem bs_app (a b : List UInt8) : bs a ++ bs b = bs (a ++ b) := by
 apply ByteArray.ext
 simp [bs]
def RestPost (n : Int) (w : World) (e : Ending) (w' : World) : Prop := ∃ r, e = .returned (.int .i64 r) ∧ 0 ≤ r ∧ r < n ∧ w = w'
theorem rrest_ex (x n : Int) (w : World) (hx : in64 x) (hn : 0 < n) (hn2 : n ≤ 100000) : Calls Tryz.prog 21 #[.int .i64 x, .int .i64 n] w (RestPost n w) :=
 (rrest_any x n w hx hn hn2).mono fun e w' h => ⟨_, h.1, (restI_bd x n hn hn2).1, (restI_bd x n hn hn2).2, h.2⟩
def turnsI (n : Nat) (t : Int) : Nat := if 2 < n ∧ restI (t.tdiv n) 2 = 1 then n - 1 else 1
theorem tdiv_in (t : Int) (n : Nat) (h : in64 t) (hn : 2 < n) : in64 (t.tdiv n) := by
 obtain ⟨h1, h2⟩ := h
 have hp : (0 : Int) < n := by omega
 rcases Int.le_total 0 t with h0 | h0
 ·rw [Int.tdiv_eq_ediv_of_nonneg h0]
  have a := Int.ediv_nonneg h0 (show (0 : Int) ≤ n by omega)
  have b := Int.ediv_le_self n h0
  exact ⟨by omega, by omega⟩
 ·obtain ⟨m, rfl⟩ : ∃ m, t = -m := ⟨-t, by omega⟩
  have hm : 0 ≤ m := by omega
  rw [Int.neg_tdiv, Int.tdiv_eq_ediv_of_nonneg hm]
  have a := Int.ediv_nonneg hm (show (0 : Int) ≤ n by omega)
  have b : m / (n : Int) ≤ 4611686018427387904 := by
   refine Int.ediv_le_of_le_mul hp ?_
   have : (4611686018427387904 : Int) * 3 ≤ 4611686018427387904 * n := by
    apply Int.mul_le_mul_of_nonneg_left <;> omega
   omega
  exact ⟨by omega, by omega⟩
theorem turns_any (n : Nat) (t : Int) (w : World) (ht : in64 t) (hn : 1 ≤ n) (hn8 : n ≤ 8) : Calls Tryz.prog 22 #[.int .i64 (n : Int), .int .i64 t] w fun e w' => e = .returned (.int .i64 (turnsI n t : Int)) ∧ w = w' := by
 unfold turnsI
 by_cases h2 : 2 < n
 ·have hq := tdiv_in t n ht h2
  have hb := restI_bd (t.tdiv n) 2 (by omega) (by omega)
  have R := Lib.hid (fun w => rrest_any (t.tdiv n) 2 w hq (by omega) (by omega))
  have hww : IntKind.i64.wrap (t.tdiv n) = t.tdiv n := IntWalk.i64_in _ (by obtain ⟨a, b⟩ := hq; omega)
  have hw64 : wrap64 (t.tdiv n) = t.tdiv n := IntWalk.wrap64_in _ (by obtain ⟨a, b⟩ := hq; omega)
  generalize restI (t.tdiv n) 2 = r at *
  generalize hd : t.tdiv n = d at *
  have h2i : (2 : Int) < (n : Int) := by omega
  have hnz : (n : Int) ≠ 0 := by omega
  have e1 : ((n - 1 : Nat) : Int) = (n : Int) - 1 := by omega
  by_cases hr : r = 1
  ·subst hr
   rw [if_pos ⟨h2, rfl⟩, e1]
   clear e1 hb
   go_enter Tryz.func22, Tryz.ntmps22
   go_wp2_with (go_at_call 21; (with_reducible refine (R.out _).mono ?_); rintro e w' ⟨rfl, rfl⟩)
   go_ret
   exact ⟨rfl, rfl⟩
  ·obtain rfl : r = 0 := by omega
   rw [if_neg (by omega)]
   clear e1 hb
   go_enter Tryz.func22, Tryz.ntmps22
   go_wp2_with (go_at_call 21; (with_reducible refine (R.out _).mono ?_); rintro e w' ⟨rfl, rfl⟩)
   go_ret
   exact ⟨rfl, rfl⟩
 ·rw [if_neg (by omega)]
  have h2' : decide ((n : Int) > 2) = false := decide_eq_false (by omega)
  have h2'' : decide (2 < n) = false := decide_eq_false (by omega)
  go_enter Tryz.func22, Tryz.ntmps22
  go_wp2
  go_ret
  exact ⟨rfl, rfl⟩
theorem turnsI_is (n : Nat) (t : Int) (hn : 1 ≤ n) : turnsI n t = 1 ∨ (2 < n ∧ turnsI n t = n - 1) := by
 unfold turnsI
 by_cases h : 2 < n ∧ restI (t.tdiv n) 2 = 1
 ·rw [if_pos h]; exact .inr ⟨h.1, rfl⟩
 ·rw [if_neg h]; exact .inl rfl
theorem turned_ne1 : ∀ n, n < 9 → ∀ r, r < 9 → ∀ i, i < n → ∀ j, j < n → (i * 1 + r) % n = (j * 1 + r) % n → i = j := by decide +kernel
theorem turned_ne2 : ∀ n, n < 9 → ∀ r, r < 9 → ∀ i, i < n → ∀ j, j < n → (i * (n - 1) + r) % n = (j * (n - 1) + r) % n → i = j := by decide +kernel
structure SF (i : Nat) (x : Ts) : Prop where
 n : x.n = bs [116, UInt8.ofNat (97 + i)]
 c0 : 1 ≤ x.c
 c1 : x.c ≤ 4
 d0 : x.c + x.j ≤ x.d
 d1 : x.d ≤ 14
 j0 : 0 ≤ x.j
 t0 : x.d ≤ x.t
 t1 : x.t ≤ 20
 q0 : 1 ≤ x.q
 q1 : x.q ≤ x.c
def SFs (ts : List Ts) : Prop := ∀ (i : Nat) (x : Ts), ts[i]? = some x → SF i x
theorem SFs.snoc {ts : List Ts} {x : Ts} {k : Nat} (h : SFs ts) (hk : ts.length = k) (hx : SF k x) : SFs (ts ++ [x]) := by
 intro i y hy
 subst hk
 rcases Nat.lt_or_ge i ts.length with hl | hl
 ·rw [List.getElem?_append_left hl] at hy; exact h i y hy
 ·rw [List.getElem?_append_right hl] at hy
  have := (List.getElem?_eq_some_iff.1 hy).1
  simp at this
  obtain rfl : i = ts.length := by omega
  simp at hy
  exact hy ▸ hx
theorem SFs.setP {ts : List Ts} {x : Ts} {k : Nat} (h : SFs ts) (hx : ts[k]? = some x) (p : Int) : SFs (ts.set k { x with p := p }) := by
 intro i y hy
 have hkl : k < ts.length := (List.getElem?_eq_some_iff.1 hx).1
 by_cases e : k = i
 ·subst e
  rw [List.getElem?_set_self hkl] at hy
  have h1 := h k x hx
  obtain rfl : { x with p := p } = y := by simpa using hy
  exact ⟨h1.n, h1.c0, h1.c1, h1.d0, h1.d1, h1.j0, h1.t0, h1.t1, h1.q0, h1.q1⟩
 ·rw [List.getElem?_set_ne e] at hy
  exact h i y hy
theorem name_of (k : Nat) : ({ data := #[116] } : ByteArray) ++ chr (97 + (k : Int)) = bs [116, UInt8.ofNat (97 + k)] := by
 rw [show (97 + (k : Int)) = ((97 + k : Nat) : Int) by omega, chr, Int.toNat_natCast, show ({ data := #[116] } : ByteArray) = bs [116] from rfl, bs_app]
 rfl
theorem p_bd {ts : List Ts} {n τ r : Nat} (h1 : 1 ≤ n) (h8 : n ≤ 8)
  (hp : ∀ (i : Nat) (x : Ts), ts[i]? = some x → x.p = 1 + ((i : Int) * (τ : Int) + (r : Int)) % (n : Int)) : ∀ (i : Nat) (x : Ts), ts[i]? = some x → 1 ≤ x.p ∧ x.p ≤ 8 := by
 intro i x hx
 have h := hp i x hx
 have a := Int.emod_nonneg ((i : Int) * (τ : Int) + (r : Int)) (show (n : Int) ≠ 0 by omega)
 have b := Int.emod_lt_of_pos ((i : Int) * (τ : Int) + (r : Int)) (show (0 : Int) < (n : Int) by omega)
 omega
def Dist (ts : List Ts) : Prop := ∀ (i j : Nat) (x y : Ts), ts[i]? = some x → ts[j]? = some y → x.p = y.p → i = j
theorem in64_p {k : Nat} (z : Int) (h0 : 0 ≤ z) (h1 : z < (k : Int)) (h8 : k ≤ 8) : in64 (1 + z) := ⟨by omega, by omega⟩
theorem wrap_p {k : Nat} (z : Int) (h0 : 0 ≤ z) (h1 : z < (k : Int)) (h8 : k ≤ 8) : wrap64 (1 + z) = 1 + z := IntWalk.wrap64_in _ (by omega)
theorem dist_of {ts : List Ts} {n τ r : Nat} (h1 : 1 ≤ n) (h8 : n ≤ 8) (hr : r < n) (hτ : τ = 1 ∨ (2 < n ∧ τ = n - 1)) (hl : ts.length = n)
  (hp : ∀ (i : Nat) (x : Ts), ts[i]? = some x → x.p = 1 + ((i : Int) * (τ : Int) + (r : Int)) % (n : Int)) : Dist ts := by
 intro i j x y hx hy he
 have hi := (List.getElem?_eq_some_iff.1 hx).1
 have hj := (List.getElem?_eq_some_iff.1 hy).1
 have e1 := hp i x hx
 have e2 := hp j y hy
 have e3 : ((i : Int) * (τ : Int) + (r : Int)) % (n : Int) = ((j : Int) * (τ : Int) + (r : Int)) % (n : Int) := by omega
 rw [← Int.natCast_mul, ← Int.natCast_mul, ← Int.natCast_add, ← Int.natCast_add, ← Int.natCast_emod, ← Int.natCast_emod] at e3
 have e4 : (i * τ + r) % n = (j * τ + r) % n := Int.ofNat.inj e3
 rcases hτ with rfl | ⟨h2, rfl⟩
 ·exact turned_ne1 n (by omega) r (by omega) i (by omega) j (by omega) e4
 ·exact turned_ne2 n (by omega) r (by omega) i (by omega) j (by omega) e4
def SetPost (M : Int) (w : World) (e : Ending) (w' : World) : Prop := ∃ A cap ts, e = .returned (.slice A ts.length cap) ∧ Row w' A cap ts ∧ 1 ≤ ts.length ∧ (ts.length : Int) ≤ M ∧ Dist ts ∧ SFs ts ∧ (∀ (i : Nat) (x : Ts), ts[i]? = some x → 1 ≤ x.p ∧ x.p ≤ 8) ∧ Below w.heap.size w w'
theorem set_some (M : Int) (hM1 : 1 ≤ M) (hM8 : M ≤ 8) (A : Option Addr) (cap : Nat) (l : List Sp) (turn : Int) (w : World) (hR : SRow w A cap l) (ht : in64 turn) (h0 : l.length ≠ 0) :
  Calls Tryz.prog 8 #[.slice A l.length cap, .int .i64 M, .int .i64 turn] w (SetPost M w) := by
 obtain ⟨i0, hi, hz0, hz1, hz2⟩ := info_parts infoTs
 have hmx := hR.mx
 have hle := hR.le
 have t0 : ((l.length : Int) == 0) = false := by rw [beq_eq_false_iff_ne]; omega
 have ROW := Lib.hid hR
 have HB : Hid (Below w.heap.size w w) := Lib.hid (Below.refl _ _)
 clear hR
 go_enter Tryz.func8, Tryz.ntmps8
 go_wp2
 go_loopw [7, 8] (fun v i wr => ∃ (k : Nat) (ts : List Ts), k ≤ l.length ∧ (k : Int) ≤ M ∧ i = .int .i64 k ∧ SetIn w.heap.size wr v k ts ∧ Hid (SFs ts) ∧ Lt w wr) (fun _ i _ => 8 - (intOf i).toNat)
 case atStart => exact ⟨0, [], Nat.zero_le _, by omega, rfl, SetIn.nil _ _, Lib.hid (fun i x h => by simp at h), Below.refl _ _⟩
 case round =>
  obtain ⟨k, ts, hk, hkM, rfl, hI, hsf, hL⟩ := hrel
  have hk8 : k ≤ 8 := by omega
  by_cases hgo : k < l.length ∧ (k : Int) < M
  ·obtain ⟨hlt, h8⟩ := hgo
   obtain ⟨b, o, x, rfl, hx, hxw, hbl, hT⟩ := ROW.out.get hlt
   have hTr := hT.later hL
   have s0 := hTr.c0
   have s1 := hTr.c1
   have s2 := hTr.c2
   have s3 := hTr.c3
   have s4 := hTr.c4
   have hi0 : (0 : Int) ≤ (k : Int) := by omega
   have hi1 : (k : Int) < ((l.length : Nat) : Int) := by omega
   have HXW := Lib.hid hxw
   clear hT hTr hx hxw hbl
   go_upto_region 8 with (go_at_call 21; refine (rrest_ex _ _ _ HXW.out.c (by omega) (by omega)).mono ?_; rintro e w' ⟨rc, rfl, rc0, rc1, rfl⟩)
   go_upto_region 9 with (go_at_call 21; refine (rrest_ex _ _ _ HXW.out.d (by omega) (by omega)).mono ?_; rintro e w' ⟨rd, rfl, rd0, rd1, rfl⟩)
   go_upto_region 10 with (go_at_call 21; refine (rrest_ex _ _ _ HXW.out.j (by omega) (by omega)).mono ?_; rintro e w' ⟨rj, rfl, rj0, rj1, rfl⟩)
   go_upto_region 11 with (go_at_call 21; refine (rrest_ex _ _ _ HXW.out.t (by omega) (by omega)).mono ?_; rintro e w' ⟨rt, rfl, rt0, rt1, rfl⟩)
   go_upto_region 12 with (go_at_call 21; refine (rrest_ex _ _ _ HXW.out.q (by omega) (by omega)).mono ?_; rintro e w' ⟨rq, rfl, rq0, rq1, rfl⟩)
   have hcv := fun W => conv_n W (97 + (k : Int)) (by omega) (by omega)
   have hwr : IntKind.u8.wrap (97 + (k : Int)) = 97 + (k : Int) := by rw [IntKind.wrap_u8]; omega
   obtain ⟨nm, hnm, hnms⟩ : ∃ nm, ({ data := #[116] } : ByteArray) ++ chr (97 + (k : Int)) = nm ∧ nm.size ≤ 10 := ⟨_, rfl, by rw [ByteArray.size_append, chr_size]; decide⟩
   have hnk := Lib.hid (hnm.symm.trans (name_of k))
   have hseven := seven_new (wr.alloc (.cells #[.int .u8 (97 + (k : Int))] 5)) ⟨nm, 1 + rc, 1 + rc + rd + rt, 1 + rc + rd, rj, 1 + rq, 0⟩
   rw [World.size_alloc] at hseven
   have HI := Lib.hid hI
   have HL := Lib.hid hL
   have H7 := Lib.hid hseven
   clear hseven hI hL s0 s1 s2 s3 s4
   go_wp2_with (at_builtin; refine wpList_append_own _ rfl _ _ 23 rfl w.heap.size 26 i0 _ 7 64 Tryz.underlying23 hi hz0 hz1 hz2 rfl (by decide) _ _ _ rfl ((HI.out.row.alloc _).alloc _) ⟨wr.heap.size + 1, 0, none⟩ 1 1 (tsL ⟨nm, 1 + rc, 1 + rc + rd + rt, 1 + rc + rd, rj, 1 + rq, 0⟩) rfl rfl H7.out (tsL_one _) (by unfold maxLen; omega) (by omega) (by have := Below.size HL.out; simp; omega) ?_; intro v' w4 hown' hgrow hnil')
   go_roundw
   case rel =>
    have hb0 := Below.size HL.out
    refine ⟨k + 1, ts ++ [⟨nm, 1 + rc, 1 + rc + rd + rt, 1 + rc + rd, rj, 1 + rq, 0⟩], by omega, by omega, by go_num, ⟨by simp [HI.out.len], fun y hy => ?_, by rw [tsCells_snoc]; exact hown'⟩, Lib.hid (hsf.out.snoc HI.out.len ⟨hnk.out, by show 1 ≤ 1 + rc; omega, by show 1 + rc ≤ 4; omega, by show 1 + rc + rj ≤ 1 + rc + rd; omega, by show 1 + rc + rd ≤ 14; omega, by show 0 ≤ rj; omega, by show 1 + rc + rd ≤ 1 + rc + rd + rt; omega, by show 1 + rc + rd + rt ≤ 20; omega, by show 1 ≤ 1 + rq; omega, by show 1 + rq ≤ 1 + rc; omega⟩), ?_⟩
    ·rcases List.mem_append.1 hy with hy | hy
     ·exact HI.out.wf y hy
     ·obtain rfl := List.mem_singleton.1 hy
      exact ⟨by show nm.size ≤ _; omega, ⟨by show _ ≤ 1 + rc; omega, by show 1 + rc ≤ _; omega⟩, ⟨by show _ ≤ 1 + rc + rd + rt; omega, by show 1 + rc + rd + rt ≤ _; omega⟩, ⟨by show _ ≤ 1 + rc + rd; omega, by show 1 + rc + rd ≤ _; omega⟩, ⟨by show _ ≤ rj; omega, by show rj ≤ _; omega⟩, ⟨by show _ ≤ 1 + rq; omega, by show 1 + rq ≤ _; omega⟩, by show in64 0; unfold in64; omega⟩
    ·exact ((((Below.refl w.heap.size w).trans HL.out).alloc hb0 _).alloc (by simp; omega) _).grown hgrow (by simp; omega) (fun q hq => (HI.out.row.lt q hq).1)
   case measure => simp [intOf]; omega
  ·have hk1 : 1 ≤ k := by omega
   have HSF := hsf
   clear hsf
   obtain ⟨g, cap2, rfl, hO⟩ := hI.own (by omega)
   have TN := Lib.hid (fun w => turns_any k turn w ht hk1 hk8)
   have RN := fun w => rrest_any turn k w ht (by omega) (by omega)
   obtain ⟨r0, r1⟩ := restI_bd turn k (by omega) (by omega)
   have hti := turnsI_is k turn hk1
   obtain ⟨r, hr⟩ : ∃ r : Nat, restI turn k = (r : Int) := ⟨(restI turn k).toNat, by omega⟩
   rw [hr] at RN r0 r1
   have RN := Lib.hid RN
   generalize turnsI k turn = τ at *
   have hτ : τ ≤ 8 := by omega
   have HTI := Lib.hid hti
   have HLEN := Lib.hid hI.len
   have HO0 := Lib.hid hO
   have HL0 := Lib.hid hL
   clear hr hti hI hO hL
   by_cases hl : k < l.length
   ·have g1 : decide ((k : Int) < ((l.length : Nat) : Int)) = true := decide_eq_true (by omega)
    have g2 : decide ((k : Int) < M) = false := decide_eq_false (by omega)
    clear hgo
    go_wp2
    go_loopw [15] (fun i wr2 => ∃ (m : Nat) (ts2 : List Ts), m ≤ k ∧ i = .int .i64 m ∧ OwnT w.heap.size wr2 g cap2 ts2 ∧ ts2.length = k ∧ Hid (SFs ts2) ∧ Hid (∀ (i : Nat) (x : Ts), ts2[i]? = some x → i < m → x.p = 1 + ((i : Int) * (τ : Int) + (r : Int)) % ((k : Nat) : Int)) ∧ Lt w wr2) (fun i _ => k - (intOf i).toNat)
    case atStart => exact ⟨0, ts, Nat.zero_le _, rfl, HO0.out, HLEN.out, HSF, Lib.hid (fun i x _ h => absurd h (by omega)), HL0.out⟩
    case round =>
     obtain ⟨m, ts2, hm, rfl, hO2, hl2, hsf2, hq, hL2⟩ := hrel
     by_cases hmk : m < k
     ·obtain ⟨x, hx⟩ : ∃ x, ts2[m]? = some x := ⟨ts2[m], List.getElem?_eq_getElem (by omega)⟩
      have c6 := (hO2.at_ m x hx).c6
      have fz := hO2.fz (m * 7 + 6)
      have hi0 : (0 : Int) ≤ (m : Int) := by omega
      have hi1 : (m : Int) < ((k : Nat) : Int) := by omega
      have hkz : (0 : Int) < ((k : Nat) : Int) := by omega
      have hmul : ((m * τ : Nat) : Int) = (m : Int) * (τ : Int) := Int.natCast_mul m τ
      have hmm : m * τ ≤ 8 * 8 := Nat.mul_le_mul (by omega) hτ
      have hm0 : (0 : Int) ≤ (m : Int) * (τ : Int) := by rw [← hmul]; omega
      have hm1 : (m : Int) * (τ : Int) ≤ 64 := by rw [← hmul]; omega
      have hp0 : 0 ≤ ((m : Int) * (τ : Int) + (r : Int)) % ((k : Nat) : Int) := Int.emod_nonneg _ (by omega)
      have hp1 : ((m : Int) * (τ : Int) + (r : Int)) % ((k : Nat) : Int) < ((k : Nat) : Int) := Int.emod_lt_of_pos _ hkz
      have HX := Lib.hid hx
      have HO2 := Lib.hid hO2
      have HL2 := Lib.hid hL2
      have HLL := Lib.hid hl2
      clear hmul hmm hx hO2 hL2 hl2 hp0 hp1
      go_wp2_with (first
       | (go_at_call 22; (with_reducible refine (TN.out _).mono ?_); rintro e w' ⟨rfl, rfl⟩)
       | (go_at_call 21; (with_reducible refine (RN.out _).mono ?_); rintro e w' ⟨rfl, rfl⟩))
      go_roundw
      case rel =>
       have hp0 : 0 ≤ ((m : Int) * (τ : Int) + (r : Int)) % ((k : Nat) : Int) := Int.emod_nonneg _ (by omega)
       have hp1 : ((m : Int) * (τ : Int) + (r : Int)) % ((k : Nat) : Int) < ((k : Nat) : Int) := Int.emod_lt_of_pos _ (by omega)
       refine ⟨m + 1, ts2.set m { x with p := 1 + ((m : Int) * (τ : Int) + (r : Int)) % ((k : Nat) : Int) }, by omega, by go_num, (by rw [wrap_p _ hp0 hp1 hk8]; exact HO2.out.setP HX.out _ (in64_p _ hp0 hp1 hk8)), by rw [List.length_set]; exact HLL.out, Lib.hid (hsf2.out.setP HX.out _), Lib.hid (fun i y hy hi => ?_), setCell_own HL2.out HO2.out.hB _⟩
       by_cases e : m = i
       ·subst e
        rw [List.getElem?_set_self (by rw [HLL.out]; omega)] at hy
        cases hy
        rfl
       ·rw [List.getElem?_set_ne e] at hy
        exact hq.out i y hy (by omega)
      case measure => simp [intOf]; omega
     ·obtain rfl : m = k := by omega
      have HL2 := Lib.hid hL2
      have HO2 := Lib.hid hO2
      have HLL := Lib.hid hl2
      clear hL2 hO2 hl2
      go_wp2
      go_ret
      refine ⟨_, cap2, ts2, by rw [HLL.out]; rfl, HO2.out.row, by rw [HLL.out]; omega, by rw [HLL.out]; omega, ?_, hsf2.out, ?_, Below.trans HB.out (Below.mono HL2.out (Below.size HB.out))⟩
      ·exact dist_of (by omega) hk8 (by omega) HTI.out HLL.out (fun i x hx => hq.out i x hx (by have := (List.getElem?_eq_some_iff.1 hx).1; rw [HLL.out] at this; exact this))
      ·exact p_bd (by omega) hk8 (fun i x hx => hq.out i x hx (by have := (List.getElem?_eq_some_iff.1 hx).1; rw [HLL.out] at this; exact this))
   ·have g1 : decide ((k : Int) < ((l.length : Nat) : Int)) = false := decide_eq_false (by omega)
    clear hgo
    go_wp2
    go_loopw [15] (fun i wr2 => ∃ (m : Nat) (ts2 : List Ts), m ≤ k ∧ i = .int .i64 m ∧ OwnT w.heap.size wr2 g cap2 ts2 ∧ ts2.length = k ∧ Hid (SFs ts2) ∧ Hid (∀ (i : Nat) (x : Ts), ts2[i]? = some x → i < m → x.p = 1 + ((i : Int) * (τ : Int) + (r : Int)) % ((k : Nat) : Int)) ∧ Lt w wr2) (fun i _ => k - (intOf i).toNat)
    case atStart => exact ⟨0, ts, Nat.zero_le _, rfl, HO0.out, HLEN.out, HSF, Lib.hid (fun i x _ h => absurd h (by omega)), HL0.out⟩
    case round =>
     obtain ⟨m, ts2, hm, rfl, hO2, hl2, hsf2, hq, hL2⟩ := hrel
     by_cases hmk : m < k
     ·obtain ⟨x, hx⟩ : ∃ x, ts2[m]? = some x := ⟨ts2[m], List.getElem?_eq_getElem (by omega)⟩
      have c6 := (hO2.at_ m x hx).c6
      have fz := hO2.fz (m * 7 + 6)
      have hi0 : (0 : Int) ≤ (m : Int) := by omega
      have hi1 : (m : Int) < ((k : Nat) : Int) := by omega
      have hkz : (0 : Int) < ((k : Nat) : Int) := by omega
      have hmul : ((m * τ : Nat) : Int) = (m : Int) * (τ : Int) := Int.natCast_mul m τ
      have hmm : m * τ ≤ 8 * 8 := Nat.mul_le_mul (by omega) hτ
      have hm0 : (0 : Int) ≤ (m : Int) * (τ : Int) := by rw [← hmul]; omega
      have hm1 : (m : Int) * (τ : Int) ≤ 64 := by rw [← hmul]; omega
      have hp0 : 0 ≤ ((m : Int) * (τ : Int) + (r : Int)) % ((k : Nat) : Int) := Int.emod_nonneg _ (by omega)
      have hp1 : ((m : Int) * (τ : Int) + (r : Int)) % ((k : Nat) : Int) < ((k : Nat) : Int) := Int.emod_lt_of_pos _ hkz
      have HX := Lib.hid hx
      have HO2 := Lib.hid hO2
      have HL2 := Lib.hid hL2
      have HLL := Lib.hid hl2
      clear hmul hmm hx hO2 hL2 hl2 hp0 hp1
      go_wp2_with (first
       | (go_at_call 22; (with_reducible refine (TN.out _).mono ?_); rintro e w' ⟨rfl, rfl⟩)
       | (go_at_call 21; (with_reducible refine (RN.out _).mono ?_); rintro e w' ⟨rfl, rfl⟩))
      go_roundw
      case rel =>
       have hp0 : 0 ≤ ((m : Int) * (τ : Int) + (r : Int)) % ((k : Nat) : Int) := Int.emod_nonneg _ (by omega)
       have hp1 : ((m : Int) * (τ : Int) + (r : Int)) % ((k : Nat) : Int) < ((k : Nat) : Int) := Int.emod_lt_of_pos _ (by omega)
       refine ⟨m + 1, ts2.set m { x with p := 1 + ((m : Int) * (τ : Int) + (r : Int)) % ((k : Nat) : Int) }, by omega, by go_num, (by rw [wrap_p _ hp0 hp1 hk8]; exact HO2.out.setP HX.out _ (in64_p _ hp0 hp1 hk8)), by rw [List.length_set]; exact HLL.out, Lib.hid (hsf2.out.setP HX.out _), Lib.hid (fun i y hy hi => ?_), setCell_own HL2.out HO2.out.hB _⟩
       by_cases e : m = i
       ·subst e
        rw [List.getElem?_set_self (by rw [HLL.out]; omega)] at hy
        cases hy
        rfl
       ·rw [List.getElem?_set_ne e] at hy
        exact hq.out i y hy (by omega)
      case measure => simp [intOf]; omega
     ·obtain rfl : m = k := by omega
      have HL2 := Lib.hid hL2
      have HO2 := Lib.hid hO2
      have HLL := Lib.hid hl2
      clear hL2 hO2 hl2
      go_wp2
      go_ret
      refine ⟨_, cap2, ts2, by rw [HLL.out]; rfl, HO2.out.row, by rw [HLL.out]; omega, by rw [HLL.out]; omega, ?_, hsf2.out, ?_, Below.trans HB.out (Below.mono HL2.out (Below.size HB.out))⟩
      ·exact dist_of (by omega) hk8 (by omega) HTI.out HLL.out (fun i x hx => hq.out i x hx (by have := (List.getElem?_eq_some_iff.1 hx).1; rw [HLL.out] at this; exact this))
      ·exact p_bd (by omega) hk8 (fun i x hx => hq.out i x hx (by have := (List.getElem?_eq_some_iff.1 hx).1; rw [HLL.out] at this; exact this))
theorem set_none (M : Int) (hM1 : 1 ≤ M) (hM8 : M ≤ 8) (A : Option Addr) (cap : Nat) (turn : Int) (w : World) (ht : in64 turn) :
  Calls Tryz.prog 8 #[.slice A 0 cap, .int .i64 M, .int .i64 turn] w (SetPost M w) := by
 obtain ⟨i0, hi, hz0, hz1, hz2⟩ := info_parts infoTs
 obtain ⟨W0, hW0, hR, hB⟩ : ∃ W0, w.alloc (.cells #[.int .i64 turn, .int .i64 0, .int .i64 0, .int .i64 0, .int .i64 0] 55) = W0 ∧ SRow W0 (some ⟨w.heap.size, 0, none⟩) 1 [⟨turn, 0, 0, 0, 0⟩] ∧ Below w.heap.size w W0 := by
  refine ⟨_, rfl, ⟨by simp, by omega, fun x hx => ?_, fun i x hx => ?_⟩, (Below.refl _ _).alloc (Nat.le_refl _) _⟩
  ·obtain rfl := List.mem_singleton.1 hx
   exact ⟨ht, by show in64 0; unfold in64; omega, by show in64 0; unfold in64; omega, by show in64 0; unfold in64; omega, by show in64 0; unfold in64; omega⟩
  ·have hi : i = 0 := by
    have := (List.getElem?_eq_some_iff.1 hx).1
    simp at this
    exact this
   subst hi
   obtain rfl : (⟨turn, 0, 0, 0, 0⟩ : Sp) = x := by simpa using hx
   refine ⟨_, _, rfl, ⟨fun j v hv => ?_⟩⟩
   rw [cell_of_row _ _ _ _ _ _ (heap_alloc_new w _)]
   simpa [spL] using hv
 have HW := Lib.hid hW0
 have ROW := Lib.hid hR
 have HB := Lib.hid hB
 clear hW0 hR hB
 go_enter Tryz.func8, Tryz.ntmps8
 go_upto_region 4 with (fail)
 rw [HW.out]
 generalize (some ⟨w.heap.size, 0, none⟩ : Option Addr) = A2 at *
 have hmx : 1 ≤ 9223372036854775807 := by omega
 go_wp2
 go_loopw [7, 8] (fun v i wr => ∃ (k : Nat) (ts : List Ts), k ≤ 1 ∧ (k : Int) ≤ M ∧ i = .int .i64 k ∧ SetIn W0.heap.size wr v k ts ∧ Hid (SFs ts) ∧ Lt W0 wr) (fun _ i _ => 8 - (intOf i).toNat)
 case atStart => exact ⟨0, [], Nat.zero_le _, by omega, rfl, SetIn.nil _ _, Lib.hid (fun i x h => by simp at h), Below.refl _ _⟩
 case round =>
  obtain ⟨k, ts, hk, hkM, rfl, hI, hsf, hL⟩ := hrel
  have hk8 : k ≤ 8 := by omega
  by_cases hgo : k < 1 ∧ (k : Int) < M
  ·obtain ⟨hlt, h8⟩ := hgo
   obtain ⟨b, o, x, rfl, hx, hxw, hbl, hT⟩ := ROW.out.get hlt
   have hTr := hT.later hL
   have s0 := hTr.c0
   have s1 := hTr.c1
   have s2 := hTr.c2
   have s3 := hTr.c3
   have s4 := hTr.c4
   have hi0 : (0 : Int) ≤ (k : Int) := by omega
   have hi1 : (k : Int) < ((1 : Nat) : Int) := by omega
   have HXW := Lib.hid hxw
   clear hT hTr hx hxw hbl
   go_upto_region 8 with (go_at_call 21; refine (rrest_ex _ _ _ HXW.out.c (by omega) (by omega)).mono ?_; rintro e w' ⟨rc, rfl, rc0, rc1, rfl⟩)
   go_upto_region 9 with (go_at_call 21; refine (rrest_ex _ _ _ HXW.out.d (by omega) (by omega)).mono ?_; rintro e w' ⟨rd, rfl, rd0, rd1, rfl⟩)
   go_upto_region 10 with (go_at_call 21; refine (rrest_ex _ _ _ HXW.out.j (by omega) (by omega)).mono ?_; rintro e w' ⟨rj, rfl, rj0, rj1, rfl⟩)
   go_upto_region 11 with (go_at_call 21; refine (rrest_ex _ _ _ HXW.out.t (by omega) (by omega)).mono ?_; rintro e w' ⟨rt, rfl, rt0, rt1, rfl⟩)
   go_upto_region 12 with (go_at_call 21; refine (rrest_ex _ _ _ HXW.out.q (by omega) (by omega)).mono ?_; rintro e w' ⟨rq, rfl, rq0, rq1, rfl⟩)
   have hcv := fun W => conv_n W (97 + (k : Int)) (by omega) (by omega)
   have hwr : IntKind.u8.wrap (97 + (k : Int)) = 97 + (k : Int) := by rw [IntKind.wrap_u8]; omega
   obtain ⟨nm, hnm, hnms⟩ : ∃ nm, ({ data := #[116] } : ByteArray) ++ chr (97 + (k : Int)) = nm ∧ nm.size ≤ 10 := ⟨_, rfl, by rw [ByteArray.size_append, chr_size]; decide⟩
   have hnk := Lib.hid (hnm.symm.trans (name_of k))
   have hseven := seven_new (wr.alloc (.cells #[.int .u8 (97 + (k : Int))] 5)) ⟨nm, 1 + rc, 1 + rc + rd + rt, 1 + rc + rd, rj, 1 + rq, 0⟩
   rw [World.size_alloc] at hseven
   have HI := Lib.hid hI
   have HL := Lib.hid hL
   have H7 := Lib.hid hseven
   clear hseven hI hL s0 s1 s2 s3 s4
   go_wp2_with (at_builtin; refine wpList_append_own _ rfl _ _ 23 rfl W0.heap.size 26 i0 _ 7 64 Tryz.underlying23 hi hz0 hz1 hz2 rfl (by decide) _ _ _ rfl ((HI.out.row.alloc _).alloc _) ⟨wr.heap.size + 1, 0, none⟩ 1 1 (tsL ⟨nm, 1 + rc, 1 + rc + rd + rt, 1 + rc + rd, rj, 1 + rq, 0⟩) rfl rfl H7.out (tsL_one _) (by unfold maxLen; omega) (by omega) (by have := Below.size HL.out; simp; omega) ?_; intro v' w4 hown' hgrow hnil')
   go_roundw
   case rel =>
    have hb0 := Below.size HL.out
    refine ⟨k + 1, ts ++ [⟨nm, 1 + rc, 1 + rc + rd + rt, 1 + rc + rd, rj, 1 + rq, 0⟩], by omega, by omega, by go_num, ⟨by simp [HI.out.len], fun y hy => ?_, by rw [tsCells_snoc]; exact hown'⟩, Lib.hid (hsf.out.snoc HI.out.len ⟨hnk.out, by show 1 ≤ 1 + rc; omega, by show 1 + rc ≤ 4; omega, by show 1 + rc + rj ≤ 1 + rc + rd; omega, by show 1 + rc + rd ≤ 14; omega, by show 0 ≤ rj; omega, by show 1 + rc + rd ≤ 1 + rc + rd + rt; omega, by show 1 + rc + rd + rt ≤ 20; omega, by show 1 ≤ 1 + rq; omega, by show 1 + rq ≤ 1 + rc; omega⟩), ?_⟩
    ·rcases List.mem_append.1 hy with hy | hy
     ·exact HI.out.wf y hy
     ·obtain rfl := List.mem_singleton.1 hy
      exact ⟨by show nm.size ≤ _; omega, ⟨by show _ ≤ 1 + rc; omega, by show 1 + rc ≤ _; omega⟩, ⟨by show _ ≤ 1 + rc + rd + rt; omega, by show 1 + rc + rd + rt ≤ _; omega⟩, ⟨by show _ ≤ 1 + rc + rd; omega, by show 1 + rc + rd ≤ _; omega⟩, ⟨by show _ ≤ rj; omega, by show rj ≤ _; omega⟩, ⟨by show _ ≤ 1 + rq; omega, by show 1 + rq ≤ _; omega⟩, by show in64 0; unfold in64; omega⟩
    ·exact ((((Below.refl W0.heap.size W0).trans HL.out).alloc hb0 _).alloc (by simp; omega) _).grown hgrow (by simp; omega) (fun q hq => (HI.out.row.lt q hq).1)
   case measure => simp [intOf]; omega
  ·have hk1 : 1 ≤ k := by omega
   have HSF := hsf
   clear hsf
   obtain ⟨g, cap2, rfl, hO⟩ := hI.own (by omega)
   have TN := Lib.hid (fun w => turns_any k turn w ht hk1 hk8)
   have RN := fun w => rrest_any turn k w ht (by omega) (by omega)
   obtain ⟨r0, r1⟩ := restI_bd turn k (by omega) (by omega)
   have hti := turnsI_is k turn hk1
   obtain ⟨r, hr⟩ : ∃ r : Nat, restI turn k = (r : Int) := ⟨(restI turn k).toNat, by omega⟩
   rw [hr] at RN r0 r1
   have RN := Lib.hid RN
   generalize turnsI k turn = τ at *
   have hτ : τ ≤ 8 := by omega
   have HTI := Lib.hid hti
   have HLEN := Lib.hid hI.len
   have HO0 := Lib.hid hO
   have HL0 := Lib.hid hL
   clear hr hti hI hO hL
   have hl : ¬ k < 1 := by omega
   ·have g1 : decide ((k : Int) < ((1 : Nat) : Int)) = false := decide_eq_false (by omega)
    clear hgo
    go_wp2
    go_loopw [15] (fun i wr2 => ∃ (m : Nat) (ts2 : List Ts), m ≤ k ∧ i = .int .i64 m ∧ OwnT W0.heap.size wr2 g cap2 ts2 ∧ ts2.length = k ∧ Hid (SFs ts2) ∧ Hid (∀ (i : Nat) (x : Ts), ts2[i]? = some x → i < m → x.p = 1 + ((i : Int) * (τ : Int) + (r : Int)) % ((k : Nat) : Int)) ∧ Lt W0 wr2) (fun i _ => k - (intOf i).toNat)
    case atStart => exact ⟨0, ts, Nat.zero_le _, rfl, HO0.out, HLEN.out, HSF, Lib.hid (fun i x _ h => absurd h (by omega)), HL0.out⟩
    case round =>
     obtain ⟨m, ts2, hm, rfl, hO2, hl2, hsf2, hq, hL2⟩ := hrel
     by_cases hmk : m < k
     ·obtain ⟨x, hx⟩ : ∃ x, ts2[m]? = some x := ⟨ts2[m], List.getElem?_eq_getElem (by omega)⟩
      have c6 := (hO2.at_ m x hx).c6
      have fz := hO2.fz (m * 7 + 6)
      have hi0 : (0 : Int) ≤ (m : Int) := by omega
      have hi1 : (m : Int) < ((k : Nat) : Int) := by omega
      have hkz : (0 : Int) < ((k : Nat) : Int) := by omega
      have hmul : ((m * τ : Nat) : Int) = (m : Int) * (τ : Int) := Int.natCast_mul m τ
      have hmm : m * τ ≤ 8 * 8 := Nat.mul_le_mul (by omega) hτ
      have hm0 : (0 : Int) ≤ (m : Int) * (τ : Int) := by rw [← hmul]; omega
      have hm1 : (m : Int) * (τ : Int) ≤ 64 := by rw [← hmul]; omega
      have hp0 : 0 ≤ ((m : Int) * (τ : Int) + (r : Int)) % ((k : Nat) : Int) := Int.emod_nonneg _ (by omega)
      have hp1 : ((m : Int) * (τ : Int) + (r : Int)) % ((k : Nat) : Int) < ((k : Nat) : Int) := Int.emod_lt_of_pos _ hkz
      have HX := Lib.hid hx
      have HO2 := Lib.hid hO2
      have HL2 := Lib.hid hL2
      have HLL := Lib.hid hl2
      clear hmul hmm hx hO2 hL2 hl2 hp0 hp1
      go_wp2_with (first
       | (go_at_call 22; (with_reducible refine (TN.out _).mono ?_); rintro e w' ⟨rfl, rfl⟩)
       | (go_at_call 21; (with_reducible refine (RN.out _).mono ?_); rintro e w' ⟨rfl, rfl⟩))
      go_roundw
      case rel =>
       have hp0 : 0 ≤ ((m : Int) * (τ : Int) + (r : Int)) % ((k : Nat) : Int) := Int.emod_nonneg _ (by omega)
       have hp1 : ((m : Int) * (τ : Int) + (r : Int)) % ((k : Nat) : Int) < ((k : Nat) : Int) := Int.emod_lt_of_pos _ (by omega)
       refine ⟨m + 1, ts2.set m { x with p := 1 + ((m : Int) * (τ : Int) + (r : Int)) % ((k : Nat) : Int) }, by omega, by go_num, (by rw [wrap_p _ hp0 hp1 hk8]; exact HO2.out.setP HX.out _ (in64_p _ hp0 hp1 hk8)), by rw [List.length_set]; exact HLL.out, Lib.hid (hsf2.out.setP HX.out _), Lib.hid (fun i y hy hi => ?_), setCell_own HL2.out HO2.out.hB _⟩
       by_cases e : m = i
       ·subst e
        rw [List.getElem?_set_self (by rw [HLL.out]; omega)] at hy
        cases hy
        rfl
       ·rw [List.getElem?_set_ne e] at hy
        exact hq.out i y hy (by omega)
      case measure => simp [intOf]; omega
     ·obtain rfl : m = k := by omega
      have HL2 := Lib.hid hL2
      have HO2 := Lib.hid hO2
      have HLL := Lib.hid hl2
      clear hL2 hO2 hl2
      go_wp2
      go_ret
      refine ⟨_, cap2, ts2, by rw [HLL.out]; rfl, HO2.out.row, by rw [HLL.out]; omega, by rw [HLL.out]; omega, ?_, hsf2.out, ?_, Below.trans HB.out (Below.mono HL2.out (Below.size HB.out))⟩
      ·exact dist_of (by omega) hk8 (by omega) HTI.out HLL.out (fun i x hx => hq.out i x hx (by have := (List.getElem?_eq_some_iff.1 hx).1; rw [HLL.out] at this; exact this))
      ·exact p_bd (by omega) hk8 (fun i x hx => hq.out i x hx (by have := (List.getElem?_eq_some_iff.1 hx).1; rw [HLL.out] at this; exact this))
theorem set_any (M : Int) (hM1 : 1 ≤ M) (hM8 : M ≤ 8) (A : Option Addr) (cap : Nat) (l : List Sp) (turn : Int) (w : World) (hR : SRow w A cap l) (ht : in64 turn) :
  Calls Tryz.prog 8 #[.slice A l.length cap, .int .i64 M, .int .i64 turn] w (SetPost M w) := by
 by_cases h0 : l.length = 0
 ·rw [h0]; exact set_none M hM1 hM8 A cap turn w ht
 ·exact set_some M hM1 hM8 A cap l turn w hR ht h0
end
section
open Go.RowKit
structure Kept (X : List Nat) (w w' : World) : Prop where
 os : w'.os = w.os
 tape : w'.tape = w.tape
 output : w'.output = w.output
 size : w.heap.size ≤ w'.heap.size
 block : ∀ k, k < w.heap.size → k ∉ X → w'.heap[k]? = w.heap[k]?
theorem Kept.refl (X : List Nat) (w : World) : Kept X w w := ⟨rfl, rfl, rfl, Nat.le_refl _, fun _ _ _ => rfl⟩
theorem Kept.trans {X : List Nat} {a b c : World} (h : Kept X a b) (k : Kept X b c) : Kept X a c :=
 ⟨k.os.trans h.os, k.tape.trans h.tape, k.output.trans h.output, Nat.le_trans h.size k.size, fun i hi hx => (k.block i (Nat.lt_of_lt_of_le hi h.size) hx).trans (h.block i hi hx)⟩
theorem Kept.of (X : List Nat) {w w' : World} (h : Below w.heap.size w w') : Kept X w w' := ⟨h.os, h.tape, h.output, h.size, fun k hk _ => h.block k hk⟩
theorem Kept.mono {X Y : List Nat} {w w' : World} (h : Kept X w w') (hs : ∀ k ∈ X, k ∈ Y) : Kept Y w w' := ⟨h.os, h.tape, h.output, h.size, fun k hk hx => h.block k hk (fun hm => hx (hs k hm))⟩
theorem Kept.less {X Y : List Nat} {w w' : World} (h : Kept X w w') (hs : ∀ k ∈ X, k ∈ Y ∨ w.heap.size ≤ k) : Kept Y w w' := ⟨h.os, h.tape, h.output, h.size, fun k hk hx => h.block k hk (fun hm => by rcases hs k hm with h | h; exact hx h; omega)⟩
theorem Kept.later {X : List Nat} {a w w' : World} (h : Kept X a w) (hb : Below w.heap.size w w') : Kept X a w' := h.trans (Kept.of X hb)
theorem Kept.set {X : List Nat} {a w : World} (h : Kept X a w) (b i : Nat) (v : Value) (hb : b ∈ X) : Kept X a (w.setCell ⟨b, i, none⟩ v) :=
 h.trans ⟨rfl, rfl, rfl, by simp [World.setCell], fun k hk hx => Below.heap_setCell _ _ _ _ (fun e => hx (by rw [e]; exact hb))⟩
theorem Kept.put {X : List Nat} {a w : World} (h : Kept X a w) (b : Nat) (o : Obj) (hb : b ∈ X) : Kept X a (w.putObj b o) :=
 h.trans ⟨rfl, rfl, rfl, by simp, fun k hk hx => World.putObj_heap_other (fun e => hx (by rw [e]; exact hb))⟩
theorem Kept.below {X : List Nat} {w w' : World} {B : Nat} (h : Kept X w w') (hB : B ≤ w.heap.size) (hX : ∀ k ∈ X, B ≤ k) : Below B w w' :=
 ⟨h.os, h.tape, h.output, h.size, fun k hk => h.block k (by omega) (fun hm => by have := hX k hm; omega)⟩
theorem Kept.cell {X : List Nat} {w w' : World} (h : Kept X w w') {b i : Nat} (hl : b < w.heap.size) (hx : b ∉ X) : w'.cell? ⟨b, i, none⟩ = w.cell? ⟨b, i, none⟩ :=
 World.cell?_of_block (w := w) (h.block b hl hx)
theorem kept_grown {X : List Nat} {w w' : World} {row : Option Nat} (hg : w.grownBy w' row) (h : ∀ k, row = some k → k ∈ X) : Kept X w w' :=
 ⟨hg.os, hg.tape, hg.output, hg.size, fun k hk hx => hg.block k hk (fun e => hx (h k e.symm))⟩
theorem Kept.row {X : List Nat} {W W' : World} (h : Kept X W W') {base e size k : Nat} {v : Value} {xs : List Value} (hr : W.ownsRow base e size v k xs) (hx : ∀ g, v.ownBlock = some g → g ∉ X) : W'.ownsRow base e size v k xs := by
 obtain ⟨h1, h2⟩ := hr
 refine ⟨h1, ?_⟩
 rcases h2 with h2 | ⟨g, cap, cur, hv, hg, hh, r⟩
 ·exact .inl h2
 ·subst hv
  exact .inr ⟨g, cap, cur, rfl, hg, (h.block g (Array.getElem?_eq_some_iff.1 hh).1 (hx g rfl)).trans hh, r⟩
theorem own_len {w : World} {B e size n : Nat} {v : Value} {xs : List Value} (h : w.ownsRow B e size v n xs) : ∃ A cap, v = .slice A n cap ∧ n ≤ cap ∧ cap ≤ maxLen := by
 rcases h.2 with ⟨hv, h0⟩ | ⟨g, cap, cur, hv, hb, hh, hle, hmx, _, _⟩
 ·exact ⟨none, 0, by rw [hv, h0], by omega, by unfold maxLen; omega⟩
 ·exact ⟨_, cap, hv, hle, hmx⟩
theorem own_form {w : World} {B e size n : Nat} {v : Value} {xs : List Value} (h : w.ownsRow B e size v n xs) (hn : 0 < n) : ∃ g cap, v = .slice (some ⟨g, 0, none⟩) n cap ∧ B ≤ g ∧ g < w.heap.size ∧ n ≤ cap ∧ cap ≤ maxLen ∧ (∀ i, w.frozen? ⟨g, i, none⟩ = false) := by
 rcases h.2 with ⟨hv, h0⟩ | ⟨g, cap, cur, hv, hb, hh, hle, hmx, _, _⟩
 ·omega
 ·exact ⟨g, cap, hv, hb, (Array.getElem?_eq_some_iff.1 hh).1, hle, hmx, fun i => by simp [World.frozen?, hh]⟩
theorem own_cell {w : World} {B e size n g i : Nat} {v : Value} {xs : List Value} (h : w.ownsRow B e size v n xs) (hg : v.ownBlock = some g) {u : Value} (hu : xs[i]? = some u) : w.cell? ⟨g, i, none⟩ = some u := by
 have := h.cells hg i u hu
 rwa [add_none, Nat.zero_add] at this
theorem own_ne {w : World} {B e size n b : Nat} {v : Value} {xs : List Value} {cs : Array Value} {T : TypeId} {fr : Nat × Nat} (h : w.ownsRow B e size v n xs) (hb : w.heap[b]? = some (.cells cs T fr)) (hT : T ≠ e) : v.ownBlock ≠ some b := by
 rcases h.2 with ⟨rfl, _⟩ | ⟨g, cap, cur, rfl, _, hg, _⟩
 ·simp [Value.ownBlock]
 ·intro hh
  simp only [Value.ownBlock, Option.some.injEq] at hh
  subst hh
  rw [hg] at hb
  simp only [Option.some.injEq, Obj.cells.injEq] at hb
  exact hT hb.2.1.symm
theorem own_set {w : World} {B e size n i g : Nat} {v : Value} {xs : List Value} (h : w.ownsRow B e size v n xs) (hg : v.ownBlock = some g) (hi : i < n * size) (u : Value) : (w.setCell ⟨g, i, none⟩ u).ownsRow B e size v n (xs.set i u) := by
 obtain ⟨h1, h2⟩ := h
 rcases h2 with ⟨rfl, _⟩ | ⟨g', cap, cur, rfl, hb, hh, hn, hm, hs, ht⟩
 ·simp [Value.ownBlock] at hg
 ·simp only [Value.ownBlock, Option.some.injEq] at hg
  subst hg
  refine ⟨by rw [List.length_set]; exact h1, .inr ⟨g', cap, cur.setIfInBounds i u, rfl, hb, ?_, hn, hm, by simpa using hs, ?_⟩⟩
  ·rw [setCell_eq_setRow w g' i cur e (0, 0) u hh]
   exact setRow_heap w g' cur _ e _ hh
  ·rw [Array.toList_setIfInBounds, ← ht, List.take_set]
def Cells (w w' : World) : Prop := ∀ b o v, w.cell? ⟨b, o, none⟩ = some v → w'.cell? ⟨b, o, none⟩ = some v
theorem cells_below {w w' : World} (h : Below w.heap.size w w') : Cells w w' := fun b o v hv => (h.cell (p := ⟨b, o, none⟩) (World.block_lt_of_cell? w _ hv)).trans hv
structure CRow (w : World) (A : Option Addr) (cap : Nat) (l : List Int) : Prop where
 le : l.length ≤ cap
 mx : cap ≤ 9223372036854775807
 wf : ∀ x ∈ l, in64 x
 at_ : ∀ i x, l[i]? = some x → ∃ b o, A = some ⟨b, o, none⟩ ∧ w.cell? ⟨b, o + i, none⟩ = some (.int .i64 x)
theorem CRow.cells {w w' : World} {A : Option Addr} {cap : Nat} {l : List Int} (h : CRow w A cap l) (hc : Cells w w') : CRow w' A cap l :=
 ⟨h.le, h.mx, h.wf, fun i x hx => by
  obtain ⟨b, o, e, ht⟩ := h.at_ i x hx
  exact ⟨b, o, e, hc _ _ _ ht⟩⟩
theorem CRow.later {w w' : World} {A : Option Addr} {cap : Nat} {l : List Int} (h : CRow w A cap l) (hb : Below w.heap.size w w') : CRow w' A cap l := h.cells (cells_below hb)
theorem CRow.nil {w : World} (A : Option Addr) (cap : Nat) (h : cap ≤ 9223372036854775807) : CRow w A cap [] := ⟨by simp, h, by simp, by simp⟩
theorem CRow.get {w : World} {A : Option Addr} {cap : Nat} {l : List Int} (h : CRow w A cap l) {k : Nat} (hk : k < l.length) : ∃ b o x, A = some ⟨b, o, none⟩ ∧ l[k]? = some x ∧ in64 x ∧ b < w.heap.size ∧ w.cell? ⟨b, o + k, none⟩ = some (.int .i64 x) := by
 obtain ⟨b, o, e, ht⟩ := h.at_ k l[k] (List.getElem?_eq_getElem hk)
 exact ⟨b, o, l[k], e, List.getElem?_eq_getElem hk, h.wf _ (List.getElem_mem hk), World.block_lt_of_cell? w _ ht, ht⟩
def numL (l : List Int) : List Value := l.map (Value.int .i64)
theorem crow_own {w : World} {B e n : Nat} {v : Value} {l : List Int} (h : w.ownsRow B e 1 v n (numL l)) (hw : ∀ x ∈ l, in64 x) : ∃ A cap, v = .slice A l.length cap ∧ n = l.length ∧ CRow w A cap l ∧ (l ≠ [] → ∀ a, A = some a → B ≤ a.block ∧ ∃ cs fr, w.heap[a.block]? = some (.cells cs e fr)) := by
 have hn : n = l.length := by have := h.1; simp [numL] at this; omega
 subst hn
 obtain ⟨A, cap, hv, hle, hmx⟩ := own_len h
 refine ⟨A, cap, hv, rfl, ⟨hle, hmx, hw, fun i x hx => ?_⟩, fun hne a ha => ?_⟩
 ·rcases h.2 with ⟨h1, h0⟩ | ⟨g, cap', cur, h1, _, hg, _⟩
  ·have := (List.getElem?_eq_some_iff.1 hx).1
   omega
  ·rw [hv] at h1
   simp only [Value.slice.injEq] at h1
   obtain ⟨rfl, _, rfl⟩ := h1
   refine ⟨g, 0, rfl, ?_⟩
   have := own_cell h (g := g) (by rw [hv]; rfl) (i := i) (u := .int .i64 x) (by simp [numL, hx])
   rwa [Nat.zero_add]
 ·rcases h.2 with ⟨h1, h0⟩ | ⟨g, cap', cur, h1, hB, hg, _⟩
  ·rw [List.length_eq_zero_iff] at h0
   exact absurd h0 hne
  ·rw [hv] at h1
   simp only [Value.slice.injEq] at h1
   obtain ⟨rfl, _, rfl⟩ := h1
   cases ha
   exact ⟨hB, _, _, hg⟩
structure Fv where
 t : Int
 a : Int
 r : Int
 k : Int
 c : List Int
deriving DecidableEq
structure FvW (x : Fv) : Prop where
 t : in64 x.t
 a : in64 x.a
 r : in64 x.r
 k : in64 x.k
def fvL (x : Fv) (A : Option Addr) (cap : Nat) : List Value := [.int .i64 x.t, .int .i64 x.a, .int .i64 x.r, .int .i64 x.k, .slice A x.c.length cap]
abbrev fvV (x : Fv) (A : Option Addr) (cap : Nat) : Value := .agg #[.int .i64 x.t, .int .i64 x.a, .int .i64 x.r, .int .i64 x.k, .slice A x.c.length cap]
theorem fvL_one (x : Fv) (A : Option Addr) (cap : Nat) : ∀ u ∈ fvL x A cap, u.oneCell' = true := by
 intro u hu
 simp only [fvL, List.mem_cons, List.not_mem_nil, or_false] at hu
 rcases hu with rfl | rfl | rfl | rfl | rfl <;> rfl
structure FAt (w : World) (b o : Nat) (x : Fv) (A : Option Addr) (cap : Nat) : Prop where
 r : w.rangeAt b o (fvL x A cap)
 wf : FvW x
 s : CRow w A cap x.c
theorem FAt.c0 {w : World} {b o cap : Nat} {x : Fv} {A : Option Addr} (h : FAt w b o x A cap) : w.cell? ⟨b, o, none⟩ = some (.int .i64 x.t) := h.r 0 _ rfl
theorem FAt.c1 {w : World} {b o cap : Nat} {x : Fv} {A : Option Addr} (h : FAt w b o x A cap) : w.cell? ⟨b, o + 1, none⟩ = some (.int .i64 x.a) := h.r 1 _ rfl
theorem FAt.c2 {w : World} {b o cap : Nat} {x : Fv} {A : Option Addr} (h : FAt w b o x A cap) : w.cell? ⟨b, o + 2, none⟩ = some (.int .i64 x.r) := h.r 2 _ rfl
theorem FAt.c3 {w : World} {b o cap : Nat} {x : Fv} {A : Option Addr} (h : FAt w b o x A cap) : w.cell? ⟨b, o + 3, none⟩ = some (.int .i64 x.k) := h.r 3 _ rfl
theorem FAt.c4 {w : World} {b o cap : Nat} {x : Fv} {A : Option Addr} (h : FAt w b o x A cap) : w.cell? ⟨b, o + 4, none⟩ = some (.slice A x.c.length cap) := h.r 4 _ rfl
theorem FAt.z {w : World} {b cap : Nat} {x : Fv} {A : Option Addr} (h : FAt w b 0 x A cap) : w.cell? ⟨b, 0, none⟩ = some (.int .i64 x.t) ∧ w.cell? ⟨b, 1, none⟩ = some (.int .i64 x.a) ∧ w.cell? ⟨b, 2, none⟩ = some (.int .i64 x.r) ∧ w.cell? ⟨b, 3, none⟩ = some (.int .i64 x.k) ∧ w.cell? ⟨b, 4, none⟩ = some (.slice A x.c.length cap) := ⟨h.c0, h.c1, h.c2, h.c3, h.c4⟩
theorem FAt.lt {w : World} {b o cap : Nat} {x : Fv} {A : Option Addr} (h : FAt w b o x A cap) : b < w.heap.size := World.block_lt_of_cell? w _ h.c0
theorem FAt.cells {w w' : World} {b o cap : Nat} {x : Fv} {A : Option Addr} (h : FAt w b o x A cap) (hc : Cells w w') : FAt w' b o x A cap := ⟨fun j v hv => hc _ _ _ (h.r j v hv), h.wf, h.s.cells hc⟩
theorem FAt.later {w w' : World} {b o cap : Nat} {x : Fv} {A : Option Addr} (h : FAt w b o x A cap) (hb : Below w.heap.size w w') : FAt w' b o x A cap := h.cells (cells_below hb)
theorem infoJ : (Tryz.prog.info? 74).map (·.size) = some 5 := by kernel_rfl
theorem infoJs : (Tryz.prog.info? 74).map (fun i => (i.zero, i.size, i.bytes)) = some (some (.agg #[.int .i64 0, .int .i64 0, .int .i64 0, .int .i64 0, .slice none 0 0]), 5, 56) := by kernel_rfl
theorem infoI : (Tryz.prog.info? 3).map (fun i => (i.zero, i.size, i.bytes)) = some (some (.int .i64 0), 1, 8) := by kernel_rfl
theorem FAt.loadJ {w : World} {b o cap : Nat} {x : Fv} {A : Option Addr} (h : FAt w b o x A cap) : (loadVar 74 ⟨b, o, none⟩).run Tryz.prog w = .ok (fvV x A cap) w :=
 run_loadVar_mid w b o 74 (fvL x A cap) _ h.r Tryz.underlying74 rfl infoJ
theorem FAt.new (w : World) (x : Fv) (A : Option Addr) (cap : Nat) (T : TypeId) (hw : FvW x) (hs : CRow w A cap x.c) :
  FAt (w.alloc (.cells #[.int .i64 x.t, .int .i64 x.a, .int .i64 x.r, .int .i64 x.k, .slice A x.c.length cap] T)) w.heap.size 0 x A cap :=
 ⟨fun j v hv => by rw [Nat.zero_add, cell_of_row _ _ j _ _ _ (heap_alloc_new w _)]; simpa [fvL] using hv, hw, hs.later ((Below.refl _ _).alloc (Nat.le_refl _) _)⟩
structure FRow (w : World) (A : Option Addr) (cap : Nat) (l : List Fv) : Prop where
 le : l.length ≤ cap
 mx : cap ≤ 9223372036854775807
 at_ : ∀ i x, l[i]? = some x → ∃ b o C cc, A = some ⟨b, o, none⟩ ∧ FAt w b (o + i * 5) x C cc
theorem FRow.cells {w w' : World} {A : Option Addr} {cap : Nat} {l : List Fv} (h : FRow w A cap l) (hc : Cells w w') : FRow w' A cap l :=
 ⟨h.le, h.mx, fun i x hx => by
  obtain ⟨b, o, C, cc, e, ht⟩ := h.at_ i x hx
  exact ⟨b, o, C, cc, e, ht.cells hc⟩⟩
theorem FRow.later {w w' : World} {A : Option Addr} {cap : Nat} {l : List Fv} (h : FRow w A cap l) (hb : Below w.heap.size w w') : FRow w' A cap l := h.cells (cells_below hb)
theorem FRow.get {w : World} {A : Option Addr} {cap : Nat} {l : List Fv} (h : FRow w A cap l) {k : Nat} (hk : k < l.length) : ∃ b o x C cc, A = some ⟨b, o, none⟩ ∧ l[k]? = some x ∧ b < w.heap.size ∧ FAt w b (o + k * 5) x C cc := by
 obtain ⟨b, o, C, cc, e, ht⟩ := h.at_ k l[k] (List.getElem?_eq_getElem hk)
 exact ⟨b, o, l[k], C, cc, e, List.getElem?_eq_getElem hk, ht.lt, ht⟩
structure Gv where
 x : Fv
 A : Option Addr
 cap : Nat
def gvC (gs : List Gv) : List Value := gs.flatMap (fun g => fvL g.x g.A g.cap)
theorem gvC_snoc (gs : List Gv) (g : Gv) : gvC (gs ++ [g]) = gvC gs ++ fvL g.x g.A g.cap := by simp [gvC]
theorem gvC_get (gs : List Gv) : ∀ (i : Nat) (g : Gv), gs[i]? = some g → ∀ j v, (fvL g.x g.A g.cap)[j]? = some v → (gvC gs)[i * 5 + j]? = some v := by
 induction gs with
 | nil => intro i x h; simp at h
 | cons a r ih =>
   intro i x h j v hv
   cases i with
   | zero =>
     simp at h; subst h
     have hj : j < 5 := (List.getElem?_eq_some_iff.1 hv).1
     rw [Nat.zero_mul, Nat.zero_add, gvC, List.flatMap_cons, List.getElem?_append_left (by simp [fvL]; omega)]
     exact hv
   | succ i =>
     simp only [List.getElem?_cons_succ] at h
     have := ih i x h j v hv
     rw [gvC, List.flatMap_cons, List.getElem?_append_right (by simp [fvL]; omega)]
     rw [show (i + 1) * 5 + j - (fvL a.x a.A a.cap).length = i * 5 + j by simp [fvL]; omega]
     exact this
def Safe (e : TypeId) (B : Nat) (w : World) (A : Option Addr) (c : List Int) : Prop := c ≠ [] → ∀ a, A = some a → a.block < B ∨ ∃ cs T fr, w.heap[a.block]? = some (.cells cs T fr) ∧ T ≠ e
structure GOk (e : TypeId) (B : Nat) (w : World) (g : Gv) : Prop where
 wf : FvW g.x
 s : CRow w g.A g.cap g.x.c
 safe : Safe e B w g.A g.x.c
structure FOwn (e : TypeId) (B : Nat) (w : World) (v : Value) (gs : List Gv) : Prop where
 row : w.ownsRow B e 5 v gs.length (gvC gs)
 each : ∀ g ∈ gs, GOk e B w g
theorem FOwn.nil (e : TypeId) (B : Nat) (w : World) : FOwn e B w (.slice none 0 0) [] := ⟨World.ownsRow_nil _ _ _ _, by simp⟩
theorem GOk.kept {e : TypeId} {B : Nat} {w w' : World} {g : Gv} (h : GOk e B w g) (hk : ∀ b, b < w.heap.size → b < B ∨ (∃ cs T fr, w.heap[b]? = some (.cells cs T fr) ∧ T ≠ e) → w'.heap[b]? = w.heap[b]?) : GOk e B w' g := by
 have hblk : g.x.c ≠ [] → ∀ a, g.A = some a → w'.heap[a.block]? = w.heap[a.block]? := fun hne a ha => by
  obtain ⟨b, o, x, hA, _, _, hlt, _⟩ := h.s.get (k := 0) (by rcases Nat.eq_zero_or_pos g.x.c.length with h0 | h0; exact absurd (List.length_eq_zero_iff.1 h0) hne; exact h0)
  rw [ha] at hA
  cases hA
  rcases h.safe hne _ ha with h1 | h1
  ·exact hk _ hlt (.inl h1)
  ·exact hk _ hlt (.inr h1)
 refine ⟨h.wf, ⟨h.s.le, h.s.mx, h.s.wf, fun i x hx => ?_⟩, fun hne a ha => ?_⟩
 ·obtain ⟨b, o, hA, hc⟩ := h.s.at_ i x hx
  exact ⟨b, o, hA, (World.cell?_of_block (w := w) (a := ⟨b, o + i, none⟩) (hblk (by intro h0; rw [h0] at hx; simp at hx) ⟨b, o, none⟩ hA)).trans hc⟩
 ·rcases h.safe hne a ha with h1 | ⟨cs, T, fr, h1, h2⟩
  ·exact .inl h1
  ·exact .inr ⟨cs, T, fr, (hblk hne a ha).trans h1, h2⟩
theorem FOwn.later {e : TypeId} {B : Nat} {w w' : World} {v : Value} {gs : List Gv} (h : FOwn e B w v gs) (hb : Below w.heap.size w w') : FOwn e B w' v gs :=
 ⟨(Kept.of [] hb).row h.row (by simp), fun g hg => (h.each g hg).kept fun b hl _ => hb.block b hl⟩
theorem FOwn.push {e : TypeId} {B : Nat} {w w' : World} {v v' : Value} {gs : List Gv} {g : Gv} (h : FOwn e B w v gs) (hg : GOk e B w g) (hown : w'.ownsRow B e 5 v' (gs.length + 1) (gvC gs ++ fvL g.x g.A g.cap)) (hgr : w.grownBy w' v.ownBlock) : FOwn e B w' v' (gs ++ [g]) := by
 have hk : ∀ b, b < w.heap.size → b < B ∨ (∃ cs T fr, w.heap[b]? = some (.cells cs T fr) ∧ T ≠ e) → w'.heap[b]? = w.heap[b]? := fun b hl hs => hgr.block b hl (fun hb => by
  rcases hs with hs | ⟨cs, T, fr, hs, hT⟩
  ·have := (h.row.lt b hb.symm).1; omega
  ·exact own_ne h.row hs hT hb.symm)
 refine ⟨by rw [List.length_append, gvC_snoc]; exact hown, fun y hy => ?_⟩
 rcases List.mem_append.1 hy with hy | hy
 ·exact (h.each y hy).kept hk
 ·rw [List.mem_singleton] at hy
  subst hy
  exact hg.kept hk
theorem FOwn.frow {e : TypeId} {B : Nat} {w : World} {v : Value} {gs : List Gv} (h : FOwn e B w v gs) : ∃ A cap, v = .slice A gs.length cap ∧ FRow w A cap (gs.map (·.x)) := by
 obtain ⟨A, cap, hv, hle, hmx⟩ := own_len h.row
 refine ⟨A, cap, hv, ⟨by simpa using hle, hmx, fun i x hx => ?_⟩⟩
 obtain ⟨g, hg, rfl⟩ : ∃ g, gs[i]? = some g ∧ g.x = x := by
  rw [List.getElem?_map] at hx
  cases hgi : gs[i]? with
  | none => rw [hgi] at hx; cases hx
  | some g => rw [hgi] at hx; exact ⟨g, rfl, by simpa using hx⟩
 have hi := (List.getElem?_eq_some_iff.1 hg).1
 obtain ⟨b, cap', hv', hB, hl, _, _, _⟩ := own_form h.row (by omega)
 rw [hv] at hv'
 simp only [Value.slice.injEq] at hv'
 obtain ⟨rfl, _, rfl⟩ := hv'
 have ho := h.each g (List.mem_of_getElem? hg)
 exact ⟨b, 0, g.A, g.cap, rfl, ⟨fun j u hu => by rw [Nat.zero_add]; exact own_cell h.row (g := b) (by rw [hv]; rfl) (gvC_get gs i g hg j u hu), ho.wf, ho.s⟩⟩
end
section
def kO (ks : List Int) (i : Nat) : Int := (ks[i]?).getD 0
def Ahead (ks : List Int) (a b : Nat) : Prop := kO ks a < kO ks b ∨ (kO ks a = kO ks b ∧ a < b)
instance (ks : List Int) (a b : Nat) : Decidable (Ahead ks a b) := by unfold Ahead; infer_instance
structure IsOrd (ks : List Int) (o : List Nat) : Prop where
 perm : o.Perm (List.range ks.length)
 srt : o.Pairwise (Ahead ks)
theorem IsOrd.len {ks : List Int} {o : List Nat} (h : IsOrd ks o) : o.length = ks.length := by rw [h.perm.length_eq, List.length_range]
theorem IsOrd.mem {ks : List Int} {o : List Nat} (h : IsOrd ks o) {i : Nat} : i ∈ o ↔ i < ks.length := by rw [h.perm.mem_iff]; simp
theorem IsOrd.nodup {ks : List Int} {o : List Nat} (h : IsOrd ks o) : o.Nodup := h.perm.nodup_iff.2 List.nodup_range
end
end Go.Proofs.YthfkbbiaemmndaaGreatDoor
