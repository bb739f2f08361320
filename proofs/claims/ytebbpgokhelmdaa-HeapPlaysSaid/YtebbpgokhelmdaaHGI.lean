/- A heap's Pop. -/
import Derived.Test.YtebbpgokhelmdaaHFI
namespace Go.Proofs.Ytebbpgokhelmdaa
open Go.RowKit
set_option linter.unusedVariables false
set_option linter.unusedSimpArgs false
attribute [local go_sem ↓] Go.wp_at_zero Go.wp_at_succ

def zeroI : Int := 0
theorem zero_okI : okI zeroI := by
  unfold okI in64 zeroI; omega
/-- clear of one thing. -/
theorem run_clearI {B : Nat} {w : World} {b c g n cap m k : Nat} {l : List (Int × Nat)} (ty : TypeId) (h : HBI B w b (.slice (some ⟨g, 0, none⟩) n cap) c l) (hm : m < l.length) : (Builtin.clear_ #[78] ty #[.slice (some ⟨g, m * 2, none⟩) 1 k]).run Try.prog w = .ok (.tuple #[]) (ptI w g m (zeroI, 0)) := by
  obtain ⟨i0, hi, hz0, hz1, hz2⟩ := info_parts infoTI
  obtain ⟨p, hp⟩ : ∃ p, l[m]? = some p := ⟨l[m], List.getElem?_eq_getElem hm⟩
  have x0 : w.cell? ⟨g, m * 2, none⟩ = some (.int .i64 p.1) := h.th rfl hp 0 _ rfl
  have x1 : w.cell? ⟨g, m * 2 + 1, none⟩ = some (.int .i64 (p.2 : Int)) := h.th rfl hp 1 _ rfl
  have f := h.gfz rfl
  have a0 : (⟨g, m * 2, none⟩ : Addr).add 0 = ⟨g, m * 2, none⟩ := by rw [add_none]; rfl
  have a1 : (⟨g, m * 2, none⟩ : Addr).add 1 = ⟨g, m * 2 + 1, none⟩ := add_none _ _ _
  have hu := run_underlying (P := Try.prog) Try.underlying78
  unfold ptI zeroI
  simp [Builtin.clear_, hu, zeroValue, typeInfo, hi, hz0, Builtin.zeroCells, storeCells, a0, a1, x0, x1, f, go_sem]
/-- A heap's row is cut. -/
theorem HBI.cut {B : Nat} {w : World} {b c g n cap m : Nat} {l : List (Int × Nat)} (h : HBI B w b (.slice (some ⟨g, 0, none⟩) n cap) c l) (hl : l.length = n) (hm : m ≤ n) : HBI B (w.setCell ⟨b, 1, none⟩ (.slice (some ⟨g, 0, none⟩) m cap)) b (.slice (some ⟨g, 0, none⟩) m cap) c (l.take m) := by
  subst hl
  have hne : b ≠ g := fun e => h.ne (by rw [e]; rfl)
  have hln : (l.take m).length = m := List.length_take_of_le hm
  refine ⟨h.hB, heap_setCell_same _ b 1 _ _ _ h.is, ?_, fun p hp => h.ok p (List.mem_of_mem_take hp), fun p hp => h.few p (List.mem_of_mem_take hp), h.lim⟩
  rw [hln, thC_takeI l m hm]
  have := own_take h.row hm
  exact ((Kept.refl [b] w).set b 1 _ (by simp)).row this (fun k hk => by simp [Value.ownBlock] at hk; simp; omega)
def PopPostI (B b c : Nat) (v : Value) (l : List (Int × Nat)) (p : Int × Nat) (w : World) (e : Ending) (w' : World) : Prop := e = .returned (.tuple #[.int .i64 p.1, .bool true]) ∧ ∃ v' l', (p :: l').Perm l ∧ Hp keyI l' ∧ HBI B w' b v' c l' ∧ Kept (blk b v) w w' ∧ blk b v' = blk b v
set_option maxRecDepth 100000 in
set_option maxHeartbeats 4000000 in
theorem pop_someI {B b c : Nat} {v : Value} {l : List (Int × Nat)} {p : Int × Nat} (w : World) (h : HBI B w b v c l) (hh : Hp keyI l) (hp : l[0]? = some p) (hlim : l.length ≤ 1000000) : Calls Try.prog 24 #[.pointer (some ⟨b, 0, none⟩)] w (PopPostI B b c v l p w) := by
  have h0 : 0 < l.length := (List.getElem?_eq_some_iff.1 hp).1
  obtain ⟨g, cap, rfl, -, hgl, hle, hmx, -⟩ := own_form h.row h0
  obtain ⟨m, hm⟩ : ∃ m, l.length = m + 1 := ⟨l.length - 1, by omega⟩
  obtain ⟨y, hy⟩ : ∃ y, l[m]? = some y := ⟨l[m], List.getElem?_eq_getElem (by omega)⟩
  rw [hm] at hle hlim h
  have HM := Lib.hid hm
  have HP := Lib.hid hp
  have HY := Lib.hid hy
  have HH := Lib.hid hh
  have H0 := Lib.hid h
  have PK := fun W (hB : Below w.heap.size w W) => peek_someI W (h.later hB) hp
  have hmI : ((m + 1 : Nat) : Int) - 1 = (m : Int) := by omega
  clear hm hp hy hh h h0
  have PK := Lib.hid PK
  go_enter Try.func24, Try.ntmps24
  go_upto_region 4 with (go_at_call 32; (with_reducible refine (PK.out _ (Below.refl _ _)).mono ?_); rintro e w1 ⟨rfl, hB1⟩)
  obtain ⟨w2, hw2, B2⟩ : ∃ w2, w1 = w2 ∧ Below w.heap.size w w2 := ⟨_, rfl, hB1⟩
  rw [hw2]
  have h2 := H0.out.later B2
  have c1 := h2.c1
  have fb := h2.fz 1
  have x0 : w2.cell? ⟨g, 0, none⟩ = some (.int .i64 p.1) := by have := h2.th rfl HP.out 0 _ rfl; rwa [Nat.zero_mul] at this
  have x1 : w2.cell? ⟨g, 1, none⟩ = some (.int .i64 (p.2 : Int)) := by have := h2.th rfl HP.out 1 _ rfl; rwa [Nat.zero_mul] at this
  have y0 : w2.cell? ⟨g, m * 2, none⟩ = some (.int .i64 y.1) := h2.th rfl HY.out 0 _ rfl
  have y1 : w2.cell? ⟨g, m * 2 + 1, none⟩ = some (.int .i64 (y.2 : Int)) := h2.th rfl HY.out 1 _ rfl
  have f0 := h2.gfz rfl 0
  have f1 := h2.gfz rfl 1
  have im : (m : Int) < ((m + 1 : Nat) : Int) := by omega
  have im0 : (0 : Int) ≤ (m : Int) := by omega
  have iz : (0 : Int) < ((m + 1 : Nat) : Int) := by omega
  have H2 := Lib.hid h2
  have HB2 := Lib.hid B2
  clear hw2 hB1 h2 B2
  go_upto_region 5 with (fail)
  go_region
  go_upto_region 6 with (fail)
  obtain ⟨w3, hw3⟩ : ∃ w3, (ptI w2 g 0 y).drew = w3 := ⟨_, rfl⟩
  have hym := List.mem_of_getElem? HY.out
  have h3 := (H2.out.put rfl (i := 0) (p := y) (by rw [HM.out]; omega) (H2.out.ok y hym) (H2.out.few y hym)).later (below_drew _)
  have k3 : Kept [b, g] w w3 := by rw [← hw3]; exact (((Kept.of _ HB2.out).storedI g 0 y (by simp)).later (below_drew _))
  rw [hw3] at h3
  have hw3' := hw3
  unfold ptI at hw3'
  try rw [Nat.zero_mul] at hw3'
  rw [show (0 + 1 : Nat) = 1 from rfl] at hw3'
  rw [hw3']
  have hl3 : (l.set 0 y).length = m + 1 := by rw [List.length_set, HM.out]
  have hcl := run_clearI (k := cap - m) 0 h3 (m := m) (by rw [hl3]; omega)
  obtain ⟨w4, hw4⟩ : ∃ w4, ptI w3 g m (zeroI, 0) = w4 := ⟨_, rfl⟩
  have h4 := h3.put rfl (i := m) (p := (zeroI, 0)) (by rw [hl3]; omega) zero_okI (show (0 : Nat) < 1000000 by omega)
  have k4 : Kept [b, g] w w4 := by rw [← hw4]; exact k3.storedI g m _ (by simp)
  rw [hw4] at hcl h4
  have h5 := h4.cut (by rw [List.length_set, hl3]) (m := m) (by omega)
  rw [take_set_same] at h5
  have k5 := k4.set b 1 (.slice (some ⟨g, 0, none⟩) m cap) (by simp)
  have hl5 : ((l.set 0 y).take m).length = m := by rw [List.length_take, hl3]; omega
  have d1 := h3.c1
  have e1 := h4.c1
  have fb4 := h4.fz 1
  have SK := Lib.hid (sinkI _ h5 hl5 ((HH.out.dn y).take) (by omega))
  have LT := Lib.hid (last_top HP.out (show l[l.length - 1]? = some y by rw [HM.out]; exact HY.out))
  have hcm : cap ≠ m := by omega
  have hcm2 : ¬ cap = m := hcm
  have hmc : (m : Int) ≤ (cap : Int) := by omega
  have hm1 : m + 1 - m = 1 := by omega
  have K5 := Lib.hid k5
  clear hw3 hw3' hw4 h3 h4 h5 k3 k4 k5 hl3 hl5 hym c1 fb x0 x1 y0 y1 f0 f1 
  go_wp2_with (go_at_call 37; (with_reducible refine SK.out.mono ?_); rintro e w6 ⟨rfl, l6, hP6, hHp6, hH6, hK6⟩)
  go_ret2
  refine ⟨rfl, _, l6, (hP6.cons p).trans (by have := LT.out; rw [HM.out] at this; exact this), hHp6, hH6, ?_, rfl⟩
  exact K5.out.trans (hK6.mono (by simp))
end Go.Proofs.Ytebbpgokhelmdaa
