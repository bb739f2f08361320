/- DemandTells: the walk. -/
import Derived.Test.YtepdaghbplfhdaaDoorG5
import Derived.Test.YtepdaghbplfhdaaDoorG4
import Derived.Test.YtepdaghbplfhdaaDoorG7
import Derived.Deep.RegionHeld3
namespace Go.Proofs.YtepdaghbplfhdaaDoor
open Go.RowKit
set_option linter.unusedVariables false
set_option linter.unusedSimpArgs false
abbrev QA (N : Nat) (a b : Int) (W : World) : Prop := N < W.heap.size ∧ W.cell? ⟨N, 0, none⟩ = some (.int .i64 a) ∧ W.cell? ⟨N, 1, none⟩ = some (.int .u64 b)
theorem QA.step {N : Nat} {a b : Int} {W W' : World} (h : QA N a b W) (hb : Below W.heap.size W W') : QA N a b W' := ⟨Nat.lt_of_lt_of_le h.1 (Below.size hb), by rw [hb.cell h.1]; exact h.2.1, by rw [hb.cell h.1]; exact h.2.2⟩
theorem QA.new (w : World) (t : TypeId) (v0 v1 : Int) : QA w.heap.size v0 v1 (w.alloc (.cells #[.int .i64 v0, .int .u64 v1] t)) := by
  have hc := fun i => cell_of_row (w.alloc (.cells #[.int .i64 v0, .int .u64 v1] t)) w.heap.size i _ _ _ (heap_alloc_new w _)
  exact ⟨by simp, hc 0, hc 1⟩
/-- What holds while the last statement is reckoned. -/
structure TeI (v : World) (bq : Nat) (x0 x1 : Int) (W : World) : Prop where
  l : Lt v W
  q : QA bq x0 x1 W
theorem TeI.step {v W W' : World} {bq : Nat} {x0 x1 : Int} (h : TeI v bq x0 x1 W) (hb : Below W.heap.size W W') : TeI v bq x0 x1 W' := ⟨lt_step _ _ h.l hb, h.q.step hb⟩
theorem low6 (n : Int) : ∃ m : Nat, m < 64 ∧ bits .and .u64 n 63 = (m : Int) := by
  have h : (BitVec.ofInt 64 n &&& BitVec.ofInt 64 63).toNat ≤ 63 := by
    rw [BitVec.toNat_and]
    exact Nat.and_le_right
  have e : bits .and .u64 n 63 = IntKind.u64.wrap (((BitVec.ofInt 64 n &&& BitVec.ofInt 64 63).toNat : Nat) : Int) := rfl
  rw [e]
  generalize (BitVec.ofInt 64 n &&& BitVec.ofInt 64 63).toNat = z at *
  exact ⟨z, by omega, by rw [IntKind.wrap_u64]; omega⟩
set_option maxRecDepth 100000 in
set_option maxHeartbeats 16000000 in
theorem dte_walk (A0 : Option Addr) (cap0 : Nat) (l0 : List Sp) (A1 : Option Addr) (cap1 : Nat) (l1 : List Ts) (x0 x1 : Int) (w : World) (hT : Tab w) (h0 : SRow w A0 cap0 l0) (h1 : Row w A1 cap1 l1) (i0 : in64 x0) (i1 : U x1) :
    Calls Tryd.prog 3 #[.slice A0 l0.length cap0, .slice A1 l1.length cap1, .agg #[.int .i64 x0, .int .u64 x1]] w fun e w' => e = .returned (.bool true) ∧ Below w.heap.size w w' := by
  have KA := Lib.hid awake_any
  have KS := Lib.hid (fun W (h : Lt w W) => set_any 6 (by omega) (by omega) A0 cap0 l0 x0 W (h0.later h) i0)
  have HTB := Lib.hid (fun W (h : Lt w W) => hT.below h)
  have HR1 := Lib.hid (fun W (h : Lt w W) => h1.later h)
  have hle1 := h1.le
  have hmx1 := h1.mx
  generalize l0.length = m0 at *
  clear h0 hT h1
  go_enter Tryd.func3, Tryd.ntmps3
  go_upto_region 1 with (fail)
  obtain ⟨V0, hV0, HQ, HL⟩ : ∃ V0, w.alloc (.cells #[.int .i64 x0, .int .u64 x1] 26) = V0 ∧ Hid (QA w.heap.size x0 x1 V0) ∧ Hid (Lt w V0) := ⟨_, rfl, Lib.hid (QA.new w _ x0 x1), Lib.hid ((Below.refl _ _).alloc (Nat.le_refl _) _)⟩
  rw [hV0]
  clear hV0
  generalize w.heap.size = bq at *
  go_upto_region 2 with (go_at_call 9; (with_reducible refine (KA.out _ (HTB.out _ HL.out)).mono ?_); rintro e v0 ⟨rfl, h⟩; have HQ := Lib.hid (HQ.out.step h); have HL := Lib.hid (lt_step _ _ HL.out h); clear h)
  generalize hL1 : l1.length = n1 at *
  have HL1 := Lib.hid hL1
  clear hL1
  obtain ⟨pb, u1⟩ : ∃ pb, decide ((n1 : Int) > 4) = pb := ⟨_, rfl⟩
  have u1' : decide ((4 : Int) < (n1 : Int)) = pb := u1
  have HP := Lib.hid u1
  go_upto_if 13 with (fail)
  clear u1 u1'
  go_cut [1] from 11 to 15 (fun s1 wx => ∃ (A : Option Addr) (cap : Nat) (r : List Ts) (n : Nat), s1 = .slice A n cap ∧ r.length = n ∧ Hid (∀ W, Lt w W → Row W A cap r) ∧ v0 = wx)
  case first =>
    cases pb
    · go_wp2
      go_meet
      exact ⟨A1, cap1, l1, n1, rfl, HL1.out, HR1, rfl⟩
    · have hp : (4 : Int) < (n1 : Int) := of_decide_eq_true HP.out
      obtain ⟨b1, o1, x, rfl, hx, hxw, hbl, hT⟩ := (HR1.out _ HL.out).get (k := 0) (by rw [HL1.out]; omega)
      have hlen : (l1.take 4).length = 4 := by rw [List.length_take, HL1.out]; omega
      clear hT hx hxw hbl
      go_wp2
      go_meet
      exact ⟨_, _, l1.take 4, 4, rfl, hlen, Lib.hid (fun W h => (HR1.out W h).take 4), rfl⟩
  case rest =>
    obtain ⟨Ar, cr, r, nr, rfl, hr, HRR, rfl⟩ := hcut
    have HNR := Lib.hid hr
    clear hr HR1 HP
    obtain ⟨-, q0, q1⟩ := HQ.out
    go_upto_region 5 with (go_at_call 10; (with_reducible refine (KS.out _ HL.out).mono ?_); rintro e v ⟨A, cap, ts, rfl, hR, hn1, hn6, hd, hsf, hp, h⟩; have HR := Lib.hid hR; have HST := Lib.hid (St.mk hn1 (by omega) hd hsf hp); have HQ := Lib.hid (HQ.out.step h); have HL := Lib.hid (lt_step _ _ HL.out h); clear h hR hsf hd hp)
    clear q0 q1
    obtain ⟨-, q0, q1⟩ := HQ.out
    have hle := HR.out.le
    have hmx := HR.out.mx
    obtain ⟨r0, r1⟩ := restI_bd x0 ((ts.length : Int) + 2) (by omega) (by omega)
    have KR := Lib.hid (fun W => rest_any x0 ((ts.length : Int) + 2) W i0 (by omega) (by omega))
    generalize restI x0 ((ts.length : Int) + 2) = z at *
    generalize hN : ts.length = N at *
    have HN := Lib.hid hN
    clear hN
    go_upto_region 6 with (go_at_call 11; (with_reducible refine (KR.out _).mono ?_); rintro e v1 ⟨rfl, rfl⟩)
    obtain ⟨m, hm, hme⟩ := low6 x1
    have im : U (m : Int) := ⟨by omega, by omega⟩
    have iu : U (x1 / 16777216) := ⟨by have := i1.1; omega, by have := i1.2; omega⟩
    have iz : in64 (z - 1) := ⟨by omega, by omega⟩
    have KT := fun W (h : Lt v W) (i u : Int) (hi : in64 i) (hu : U u) => tells_any A cap ts i u W (HR.out.later h) hi hu (HTB.out _ (lt_step _ _ HL.out h))
    have KTR := fun W (h : Lt v W) (i u : Int) (hi : in64 i) (hu : U u) => tells_any Ar cr r i u W (HRR.out W (lt_step _ _ HL.out h)) hi hu (HTB.out _ (lt_step _ _ HL.out h))
    have KTG := fun A c W (h : Lt v W) (hg : Row W A c (ts.map (sclG (kOf x0)))) (i u : Int) (hi : in64 i) (hu : U u) => tells_any A c _ i u W hg hi hu (HTB.out _ (lt_step _ _ HL.out h))
    have hgl : (ts.map (sclG (kOf x0))).length = ts.length := List.length_map _
    have h8 : ts.length ≤ 8 := by rw [HN.out]; omega
    have KG := fun W (h : Lt v W) => great_any A cap ts x0 W (HR.out.later h) i0 h8 (sm20_of HST.out.s)
    rw [hgl] at KTG
    have HGL := Lib.hid (hgl.trans HN.out)
    rw [HN.out] at KT KTG KG
    rw [HNR.out] at KTR
    have T1 := Lib.hid (fun W (h : Lt v W) => KT W h (z - 1) x1 iz i1)
    have T2 := Lib.hid (fun W (h : Lt v W) => KT W h (z - 1) m iz im)
    have T3 := Lib.hid (fun A c W (h : Lt v W) (hg : Row W A c (ts.map (sclG (kOf x0)))) => KTG A c W h hg (z - 1) x1 iz i1)
    have T4 := Lib.hid (fun A c W (h : Lt v W) (hg : Row W A c (ts.map (sclG (kOf x0)))) => KTG A c W h hg (z - 1) (x1 / 16777216) iz iu)
    have T5 := Lib.hid (fun W (h : Lt v W) => KTR W h x0 x1 i0 i1)
    have T6 := Lib.hid (fun W (h : Lt v W) => KTR W h (z - 1) m iz im)
    have T7 := Lib.hid (fun W (h : Lt v W) => KT W h x0 x1 i0 i1)
    have KG := Lib.hid KG
    have HV : Hid (TeI v bq x0 x1 v) := Lib.hid ⟨Below.refl _ _, HQ.out⟩
    have HV := Lib.hid (HV.out.step (below_drew v))
    obtain ⟨i10, i11⟩ := i1
    clear KT KTR KTG hgl h8 iz im iu HR HRR KR KA KS hn1 hn6 q0 q1
    go_region_held3 (fun W => Lt v W ∧ W.cell? ⟨bq, 0, none⟩ = some (.int .i64 x0) ∧ W.cell? ⟨bq, 1, none⟩ = some (.int .u64 x1))
      (first | (with_reducible assumption) | exact ⟨HV.out.l, HV.out.q.2.1, HV.out.q.2.2⟩ | fail)
      (first
      | (go_at_call 12; (first | (with_reducible refine (T1.out _ HV.out.l).mono ?_) | (with_reducible refine (T2.out _ HV.out.l).mono ?_) | (with_reducible refine (T3.out _ _ _ HV.out.l HG.out).mono ?_) | (with_reducible refine (T4.out _ _ _ HV.out.l HG.out).mono ?_) | (with_reducible refine (T5.out _ HV.out.l).mono ?_) | (with_reducible refine (T6.out _ HV.out.l).mono ?_) | (with_reducible refine (T7.out _ HV.out.l).mono ?_)); rintro e wn ⟨rfl, h⟩; have HV := Lib.hid (HV.out.step h); clear h)
      | (go_at_call 13; (with_reducible refine (KG.out _ HV.out.l).mono ?_); rintro e wn ⟨A2, c2, rfl, hG, h⟩; rw [HGL.out]; have HG := Lib.hid hG; have HV := Lib.hid (HV.out.step h); clear h hG)
      | fail)
    all_goals
      go_wp2
      go_ret
      exact ⟨rfl, Below.trans HL.out (Below.mono HV.out.l (Below.size HL.out))⟩
end Go.Proofs.YtepdaghbplfhdaaDoor
