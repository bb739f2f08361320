/- A heap's Pop. -/
import Derived.Test.YtebbpgokhelmdaaHFM
namespace Go.Proofs.Ytebbpgokhelmdaa
open Go.RowKit
set_option linter.unusedVariables false
set_option linter.unusedSimpArgs false
attribute [local go_sem ↓] Go.wp_at_zero Go.wp_at_succ

def zeroM : It := ⟨0, 0⟩
theorem zero_okM : okM zeroM := by
  exact ⟨by unfold in64 zeroM; simp, by unfold in64 zeroM; simp⟩
/-- clear of one thing. -/
theorem run_clearM {B : Nat} {w : World} {b c g n cap m k : Nat} {l : List (It × Nat)} (ty : TypeId) (h : HBM B w b (.slice (some ⟨g, 0, none⟩) n cap) c l) (hm : m < l.length) : (Builtin.clear_ #[68] ty #[.slice (some ⟨g, m * 3, none⟩) 1 k]).run Try.prog w = .ok (.tuple #[]) (ptM w g m (zeroM, 0)) := by
  obtain ⟨i0, hi, hz0, hz1, hz2⟩ := info_parts infoTM
  obtain ⟨p, hp⟩ : ∃ p, l[m]? = some p := ⟨l[m], List.getElem?_eq_getElem hm⟩
  have x0 : w.cell? ⟨g, m * 3, none⟩ = some (.int .i64 p.1.k) := h.th rfl hp 0 _ rfl
  have x1 : w.cell? ⟨g, m * 3 + 1, none⟩ = some (.int .i64 p.1.w) := h.th rfl hp 1 _ rfl
  have x2 : w.cell? ⟨g, m * 3 + 2, none⟩ = some (.int .i64 (p.2 : Int)) := h.th rfl hp 2 _ rfl
  have f := h.gfz rfl
  have a0 : (⟨g, m * 3, none⟩ : Addr).add 0 = ⟨g, m * 3, none⟩ := by rw [add_none]; rfl
  have a1 : (⟨g, m * 3, none⟩ : Addr).add 1 = ⟨g, m * 3 + 1, none⟩ := add_none _ _ _
  have a2 : (⟨g, m * 3, none⟩ : Addr).add 2 = ⟨g, m * 3 + 2, none⟩ := add_none _ _ _
  have hu := run_underlying (P := Try.prog) Try.underlying68
  unfold ptM zeroM
  simp [Builtin.clear_, hu, zeroValue, typeInfo, hi, hz0, Builtin.zeroCells, storeCells, a0, a1, a2, x0, x1, x2, f, go_sem]
/-- A heap's row is cut. -/
theorem HBM.cut {B : Nat} {w : World} {b c g n cap m : Nat} {l : List (It × Nat)} (h : HBM B w b (.slice (some ⟨g, 0, none⟩) n cap) c l) (hl : l.length = n) (hm : m ≤ n) : HBM B (w.setCell ⟨b, 1, none⟩ (.slice (some ⟨g, 0, none⟩) m cap)) b (.slice (some ⟨g, 0, none⟩) m cap) c (l.take m) := by
  subst hl
  have hne : b ≠ g := fun e => h.ne (by rw [e]; rfl)
  have hln : (l.take m).length = m := List.length_take_of_le hm
  refine ⟨h.hB, heap_setCell_same _ b 1 _ _ _ h.is, ?_, fun p hp => h.ok p (List.mem_of_mem_take hp), fun p hp => h.few p (List.mem_of_mem_take hp), h.lim⟩
  rw [hln, thC_takeM l m hm]
  have := own_take h.row hm
  exact ((Kept.refl [b] w).set b 1 _ (by simp)).row this (fun k hk => by simp [Value.ownBlock] at hk; simp; omega)
def PopPostM (B b c : Nat) (v : Value) (l : List (It × Nat)) (p : It × Nat) (w : World) (e : Ending) (w' : World) : Prop := e = .returned (.tuple #[.agg #[.int .i64 (p.1).k, .int .i64 (p.1).w], .bool true]) ∧ ∃ v' l', (p :: l').Perm l ∧ Hp keyM l' ∧ HBM B w' b v' c l' ∧ Kept (blk b v) w w' ∧ blk b v' = blk b v
set_option maxRecDepth 100000 in
set_option maxHeartbeats 4000000 in
theorem pop_someM {B b c : Nat} {v : Value} {l : List (It × Nat)} {p : It × Nat} (w : World) (h : HBM B w b v c l) (hh : Hp keyM l) (hp : l[0]? = some p) (hlim : l.length ≤ 1000000) : Calls Try.prog 30 #[.pointer (some ⟨b, 0, none⟩)] w (PopPostM B b c v l p w) := by
  have h0 : 0 < l.length := (List.getElem?_eq_some_iff.1 hp).1
  obtain ⟨g, cap, rfl, -, hgl, hle, hmx, -⟩ := own_form h.row h0
  obtain ⟨m, hm⟩ : ∃ m, l.length = m + 1 := ⟨l.length - 1, by omega⟩
  obtain ⟨y, hy⟩ : ∃ y, l[m]? = some y := ⟨l[m], List.getElem?_eq_getElem (by omega)⟩
  rw [hm] at hle hlim h
  have HM := Lib.hid hm
  have HP := Lib.hid hp
  have HY := Lib.hid hy
  have HH := Lib.hid hh
  have H0 := Lib.hid h
  have PK := fun W (hB : Below w.heap.size w W) => peek_someM W (h.later hB) hp
  have hmI : ((m + 1 : Nat) : Int) - 1 = (m : Int) := by omega
  clear hm hp hy hh h h0
  have PK := Lib.hid PK
  have B0 : Below w.heap.size w (w.alloc (.cells #[.int .i64 0, .int .i64 0] 31)) := (Below.refl _ _).alloc (Nat.le_refl _) _
  have HB0 := Lib.hid B0
  have IZ := Lib.hid (IB.new w ⟨0, 0⟩)
  clear B0
  go_enter Try.func30, Try.ntmps30
  go_upto_region 4 with (go_at_call 15; (with_reducible refine (PK.out _ HB0.out).mono ?_); rintro e w1 ⟨rfl, hB1⟩)
  obtain ⟨w2, hw2, B2, I4, I2⟩ : ∃ w2, w1.alloc (.cells #[.int .i64 p.1.k, .int .i64 p.1.w] 31) = w2 ∧ Below w.heap.size w w2 ∧ IB w2 w1.heap.size p.1 ∧ IB w2 w.heap.size ⟨0, 0⟩ :=
    ⟨_, rfl, (HB0.out.trans (hB1.mono HB0.out.size)).alloc (HB0.out.trans (hB1.mono HB0.out.size)).size _, IB.new _ _, (IZ.out.later hB1).later ((Below.refl _ _).alloc (Nat.le_refl _) _)⟩
  have hs1 : w.heap.size < w1.heap.size := by have := hB1.size; simp at this; omega
  generalize w1.heap.size = b4 at *
  rw [hw2]
  have h2 := H0.out.later B2
  have c1 := h2.c1
  have fb := h2.fz 1
  have x0 : w2.cell? ⟨g, 0, none⟩ = some (.int .i64 p.1.k) := by have := h2.th rfl HP.out 0 _ rfl; rwa [Nat.zero_mul] at this
  have x1 : w2.cell? ⟨g, 1, none⟩ = some (.int .i64 p.1.w) := by have := h2.th rfl HP.out 1 _ rfl; rwa [Nat.zero_mul] at this
  have x2 : w2.cell? ⟨g, 2, none⟩ = some (.int .i64 (p.2 : Int)) := by have := h2.th rfl HP.out 2 _ rfl; rwa [Nat.zero_mul] at this
  have y0 : w2.cell? ⟨g, m * 3, none⟩ = some (.int .i64 y.1.k) := h2.th rfl HY.out 0 _ rfl
  have y1 : w2.cell? ⟨g, m * 3 + 1, none⟩ = some (.int .i64 y.1.w) := h2.th rfl HY.out 1 _ rfl
  have y2 : w2.cell? ⟨g, m * 3 + 2, none⟩ = some (.int .i64 (y.2 : Int)) := h2.th rfl HY.out 2 _ rfl
  have f0 := h2.gfz rfl 0
  have f1 := h2.gfz rfl 1
  have f2 := h2.gfz rfl 2
  have im : (m : Int) < ((m + 1 : Nat) : Int) := by omega
  have im0 : (0 : Int) ≤ (m : Int) := by omega
  have iz : (0 : Int) < ((m + 1 : Nat) : Int) := by omega
  have H2 := Lib.hid h2
  have HB2 := Lib.hid B2
  clear hw2 hB1 h2 B2
  go_upto_region 5 with (fail)
  go_region
  go_upto_region 6 with (fail)
  obtain ⟨w3, hw3⟩ : ∃ w3, (ptM w2 g 0 y).drew = w3 := ⟨_, rfl⟩
  have hym := List.mem_of_getElem? HY.out
  have h3 := (H2.out.put rfl (i := 0) (p := y) (by rw [HM.out]; omega) (H2.out.ok y hym) (H2.out.few y hym)).later (below_drew _)
  have k3 : Kept [b, g] w w3 := by rw [← hw3]; exact (((Kept.of _ HB2.out).storedM g 0 y (by simp)).later (below_drew _))
  rw [hw3] at h3
  have I43 : IB w3 b4 p.1 := by rw [← hw3]; exact I4.kept (((Kept.refl [g] w2).storedM g 0 y (by simp)).later (below_drew _)) (by simp; omega)
  have I23 : IB w3 w.heap.size ⟨0, 0⟩ := by rw [← hw3]; exact I2.kept (((Kept.refl [g] w2).storedM g 0 y (by simp)).later (below_drew _)) (by simp; omega)
  have hw3' := hw3
  unfold ptM at hw3'
  try rw [Nat.zero_mul] at hw3'
  rw [show (0 + 1 : Nat) = 1 from rfl, show (0 + 2 : Nat) = 2 from rfl] at hw3'
  rw [hw3']
  have hl3 : (l.set 0 y).length = m + 1 := by rw [List.length_set, HM.out]
  have hcl := run_clearM (k := cap - m) 0 h3 (m := m) (by rw [hl3]; omega)
  obtain ⟨w4, hw4⟩ : ∃ w4, ptM w3 g m (zeroM, 0) = w4 := ⟨_, rfl⟩
  have h4 := h3.put rfl (i := m) (p := (zeroM, 0)) (by rw [hl3]; omega) zero_okM (show (0 : Nat) < 1000000 by omega)
  have k4 : Kept [b, g] w w4 := by rw [← hw4]; exact k3.storedM g m _ (by simp)
  have I44 : IB w4 b4 p.1 := by rw [← hw4]; exact I43.kept ((Kept.refl [g] w3).storedM g m _ (by simp)) (by simp; omega)
  have I24 : IB w4 w.heap.size ⟨0, 0⟩ := by rw [← hw4]; exact I23.kept ((Kept.refl [g] w3).storedM g m _ (by simp)) (by simp; omega)
  rw [hw4] at hcl h4
  have h5 := h4.cut (by rw [List.length_set, hl3]) (m := m) (by omega)
  rw [take_set_same] at h5
  have k5 := k4.set b 1 (.slice (some ⟨g, 0, none⟩) m cap) (by simp)
  have hl5 : ((l.set 0 y).take m).length = m := by rw [List.length_take, hl3]; omega
  have d1 := h3.c1
  have e1 := h4.c1
  have fb4 := h4.fz 1
  have SK := Lib.hid (sinkM _ h5 hl5 ((HH.out.dn y).take) (by omega))
  have LT := Lib.hid (last_top HP.out (show l[l.length - 1]? = some y by rw [HM.out]; exact HY.out))
  have hcm : cap ≠ m := by omega
  have hcm2 : ¬ cap = m := hcm
  have hmc : (m : Int) ≤ (cap : Int) := by omega
  have hm1 : m + 1 - m = 1 := by omega
  have K5 := Lib.hid k5
  have J4 := Lib.hid I44
  have J2 := Lib.hid I24
  have hbw := (H0.out.lt)
  clear I43 I23 I44 I24
  clear hw3 hw3' hw4 h3 h4 h5 k3 k4 k5 hl3 hl5 hym c1 fb x0 x1 y0 y1 f0 f1 x2 y2 f2 
  go_wp2_with (go_at_call 42; (with_reducible refine SK.out.mono ?_); rintro e w6 ⟨rfl, l6, hP6, hHp6, hH6, hK6⟩; have c40 := (J4.out.kept ((Kept.refl [b] w4).set b 1 (.slice (some ⟨g, 0, none⟩) m cap) (by simp)) (by simp; omega)).kept hK6 (by simp; omega); have c20 := (J2.out.kept ((Kept.refl [b] w4).set b 1 (.slice (some ⟨g, 0, none⟩) m cap) (by simp)) (by simp; omega)).kept hK6 (by simp; omega); have q0 := c40.c0; have q1 := c40.c1; have r0 := c20.c0; have r1 := c20.c1; have rf := c20.frozen)
  have kz : Kept [w.heap.size] w6 ((w6.setCell ⟨w.heap.size, 0, none⟩ (.int .i64 p.1.k)).setCell ⟨w.heap.size, 1, none⟩ (.int .i64 p.1.w)) := ((Kept.refl _ w6).set _ _ _ (by simp)).set _ _ _ (by simp)
  refine bodyPost_ret (v := .tuple #[.agg #[.int .i64 p.1.k, .int .i64 p.1.w], .bool true]) (results_it (x := p.1) rfl _ _ _ _ rfl rfl (c20.whole (y := p.1))) rfl ⟨rfl, _, l6, (hP6.cons p).trans (by have := LT.out; rw [HM.out] at this; exact this), hHp6, hH6.kept kz (by intro k hk; simp [blk, Value.ownBlock] at hk; simp; omega), ?_, rfl⟩
  have k6 : Kept (w.heap.size :: [b, g]) w w6 := (K5.out.mono (by simp)).trans (hK6.mono (by simp))
  exact (k6.trans (kz.mono (by simp))).less (fun k hk => by
    rcases List.mem_cons.1 hk with rfl | hk
    · exact .inr (Nat.le_refl _)
    · exact .inl hk)
end Go.Proofs.Ytebbpgokhelmdaa
