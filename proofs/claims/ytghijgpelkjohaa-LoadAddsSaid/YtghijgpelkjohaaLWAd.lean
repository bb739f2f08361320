/- LoadAdds: the walk. -/
import Derived.Test.YtghijgpelkjohaaLSml
import Derived.Test.YtghijgpelkjohaaLTak
import Derived.Test.YtghijgpelkjohaaLAwk
namespace Go.Proofs.Ytghijgpelkjohaa
open Go.RowKit
set_option linter.unusedVariables false
set_option linter.unusedSimpArgs false
/-- The boxes of the walk. -/
structure AD (w0 : World) (b7 b8 b10 b12 : Nat) (x : Ts) (f g o : Fr) (W : World) : Prop where
  t : TAt W b7 0 x
  f : FB W b8 f
  g : FB W b10 g
  o : FB W b12 o
  l : Lt w0 W
theorem AD.later {w0 W W' : World} {b7 b8 b10 b12 : Nat} {x : Ts} {f g o : Fr} (h : AD w0 b7 b8 b10 b12 x f g o W) (hb : Below W.heap.size W W') : AD w0 b7 b8 b10 b12 x f g o W' :=
  ⟨h.t.later hb, h.f.later hb, h.g.later hb, h.o.later hb, lt_step _ _ h.l hb⟩
theorem AD.cells {w0 W : World} {b7 b8 b10 b12 : Nat} {x : Ts} {f g o : Fr} (h : AD w0 b7 b8 b10 b12 x f g o W) : W.cell? ⟨b7, 2, none⟩ = some (.int .i64 x.t) ∧ W.cell? ⟨b8, 0, none⟩ = some (.int .u64 f.n) ∧ W.cell? ⟨b8, 1, none⟩ = some (.int .u64 f.d) ∧ W.cell? ⟨b10, 0, none⟩ = some (.int .u64 g.n) ∧ W.cell? ⟨b10, 1, none⟩ = some (.int .u64 g.d) ∧ W.cell? ⟨b12, 0, none⟩ = some (.int .u64 o.n) ∧ W.cell? ⟨b12, 1, none⟩ = some (.int .u64 o.d) := by
  refine ⟨?_, h.f.c0, h.f.c1, h.g.c0, h.g.c1, h.o.c0, h.o.c1⟩
  have := h.t.c2
  rwa [Nat.zero_add] at this
set_option maxRecDepth 100000 in
set_option maxHeartbeats 8000000 in
theorem lad_walk (A0 : Option Addr) (cap0 : Nat) (l0 : List Sp) (a1 : Int) (w : World) (h0 : SRow w A0 cap0 l0) (i1 : in64 a1) :
    Calls Try.prog 6 #[.slice A0 l0.length cap0, .int .i64 a1] w fun e w' => e = .returned (.bool true) ∧ Below w.heap.size w w' := by
  have KA := Lib.hid awake_any
  have KS := Lib.hid (fun W (h : Lt w W) => set_any 6 (by omega) (by omega) A0 cap0 l0 a1 W (h0.later h) i1)
  have HL : Hid (Lt w w) := Lib.hid (Below.refl _ _)
  generalize l0.length = n0 at *
  clear h0
  go_enter Try.func6, Try.ntmps6
  go_upto_region 3 with (first
    | (go_at_call 9; (with_reducible refine (KA.out _).mono ?_); rintro e v ⟨rfl, h⟩; have HL := Lib.hid (lt_step _ _ HL.out h); clear h)
    | (go_at_call 11; (with_reducible refine (KS.out _ HL.out).mono ?_); rintro e v ⟨A, cap, ts, rfl, hR, hn1, hn6, -, hsf, -, h⟩; have HR := Lib.hid hR; have HSF := Lib.hid hsf; have HL := Lib.hid (lt_step _ _ HL.out h); clear h hR hsf)
    | fail)
  obtain ⟨m, hm⟩ : ∃ m, ts.length = m + 1 := ⟨ts.length - 1, by omega⟩
  obtain ⟨b, o, x, rfl, hx, hxw, hbl, hT⟩ := HR.out.get (k := m) (by omega)
  have HM := Lib.hid hm
  have hle := HR.out.le
  have hmx := HR.out.mx
  rw [hm] at hle hn6 ⊢
  have c0 := hT.c0
  have c1 := hT.c1
  have c2 := hT.c2
  have c3 := hT.c3
  have c4 := hT.c4
  have c5 := hT.c5
  have c6 := hT.c6
  clear hm hT
  have hi0 : (0 : Int) ≤ (m : Int) := by omega
  go_upto_region 4 with (fail)
  obtain ⟨V0, hV0, T0, R0, L0⟩ : ∃ V0, v.alloc (.cells #[.string x.n, .int .i64 x.c, .int .i64 x.t, .int .i64 x.d, .int .i64 x.j, .int .i64 x.q, .int .i64 x.p] 40) = V0 ∧ Hid (TAt V0 v.heap.size 0 x) ∧ Hid (Row V0 (some ⟨b, o, none⟩) cap ts) ∧ Hid (Lt w V0) :=
    ⟨_, rfl, Lib.hid (TAt.new v x), Lib.hid (HR.out.later (boxT v x)), Lib.hid (lt_step _ _ HL.out (boxT v x))⟩
  rw [hV0]
  clear hV0 HL HR c0 c1 c2 c3 c4 c5 c6
  generalize v.heap.size = b7 at *
  have hsp : ts.take m ++ [x] = ts := by
    obtain ⟨hk, e⟩ := List.getElem?_eq_some_iff.1 hx
    rw [← e, ← List.take_succ_eq_append_getElem hk, List.take_of_length_le (by rw [HM.out]; exact Nat.le_refl _)]
  have hml : (ts.take m).length = m := by rw [List.length_take, HM.out]; omega
  have hsm := sml_of HSF.out
  have hwf := R0.out.wf
  have hxs := hsm x (List.mem_of_getElem? hx)
  have hof := of_small hxs
  have how := ofF_w hxw.c hxw.t
  have hap := adds_pure (l := ts.take m) (x := x) (by rw [hsp]; exact hsm) (by rw [hsp, HM.out]; omega) (by rw [hsp]; exact hwf)
  rw [hsp] at hap
  have KS1 := Lib.hid (fun W (h : Row W (some ⟨b, o, none⟩) cap ts) => sum_any _ cap ts W h)
  have KS2 := Lib.hid (fun W (h : Row W (some ⟨b, o, none⟩) cap (ts.take m)) => sum_any _ cap (ts.take m) W h)
  have KO := Lib.hid (fun W => of_any x hxw W)
  obtain ⟨e1, e2, wf, wg, hcr⟩ := hap
  rw [e1, HM.out] at KS1
  rw [e2, hml] at KS2
  obtain ⟨ts1, ht1⟩ : ∃ z, ts.take m = z := ⟨_, rfl⟩
  have HT1 := Lib.hid ht1
  rw [ht1] at KS2 wg hcr
  generalize hf : sumF ts = f at *
  generalize hg : sumF ts1 = g at *
  generalize ho : ofF x.c x.t = fo at *
  have hlt := adds_lt hcr (by omega) hof.2.1 wg.p wf.p
  have hcf : cmpF f ⟨g.n * fo.d + fo.n * g.d, g.d * fo.d⟩ = 0 := by
    rw [cmpF_pos wf.p (Int.mul_pos wg.p hof.2.1)]
    simp only
    rw [hcr, cmpI_eq]
  have hcg : cmpF g f = -1 := by rw [cmpF_pos wg.p wf.p]; exact cmpI_lt hlt
  have hco : cmpF fo ⟨1, 1⟩ ≤ 0 := by
    rw [cmpF_pos hof.2.1 (by decide)]
    simp only [Int.mul_one, Int.one_mul]
    have := hof.2.2.2
    unfold cmpI
    split
    · omega
    · rw [if_neg (by omega)]; omega
  have hgd := le_of_dvd_big wg.d
  have hod : fo.d ≤ 20 := by have := Int.le_of_dvd (by omega) hof.1; omega
  have hgn := wg.n
  have gn0 := wg.w.n.1
  have on1 := hof.2.2.1
  have on2 := hof.2.2.2
  have gp := wg.p
  have op := hof.2.1
  have hgn2 : g.n ≤ 1396755360 := by omega
  have m1 : 0 ≤ g.n * fo.d := Int.mul_nonneg gn0 (by omega)
  have m2 : g.n * fo.d ≤ 27935107200 := Int.mul_le_mul hgn2 hod (by omega) (by omega)
  have m3 : 0 ≤ fo.n * g.d := Int.mul_nonneg (by omega) (by omega)
  have m4 : fo.n * g.d ≤ 4655851200 := Int.mul_le_mul (show fo.n ≤ 20 by omega) hgd (by omega) (by omega)
  have m5 : 0 < g.d * fo.d := Int.mul_pos gp op
  have m6 : g.d * fo.d ≤ 4655851200 := Int.mul_le_mul hgd hod (by omega) (by omega)
  have m5' : 0 ≤ g.d * fo.d := by omega
  have m2' : g.n * fo.d ≤ 18446744073709551615 := by omega
  have m4' : fo.n * g.d ≤ 18446744073709551615 := by omega
  have m6' : g.d * fo.d ≤ 18446744073709551615 := by omega
  have m7 : 0 ≤ g.n * fo.d + fo.n * g.d := by omega
  have m7' : g.n * fo.d + fo.n * g.d ≤ 18446744073709551615 := by omega
  have KC1 := fun W => compare_any f ⟨g.n * fo.d + fo.n * g.d, g.d * fo.d⟩ wf.w ⟨⟨m7, m7'⟩, ⟨m5', m6'⟩⟩ W
  rw [hcf] at KC1
  have KC1 := Lib.hid KC1
  have KC2 := Lib.hid (fun W => compare_any fo ⟨1, 1⟩ how ⟨⟨by decide, by decide⟩, ⟨by decide, by decide⟩⟩ W)
  generalize cmpF fo ⟨1, 1⟩ = c2 at *
  have KC3 := fun W => compare_any g f wg.w wf.w W
  rw [hcg] at KC3
  have KC3 := Lib.hid KC3
  have d2 : decide (c2 ≤ 0) = true := decide_eq_true hco
  have zf : (f.d == 0) = false := by have := wf.p; simp; omega
  have zg : (g.d == 0) = false := by simp; omega
  have zo : (fo.d == 0) = false := by simp; omega
  have zon : fo.d ≠ 0 := by omega
  have hrem : x.t % fo.d = 0 := Int.emod_eq_zero_of_dvd hof.1
  have hrem' : (x.t % fo.d == 0) = true := by rw [hrem]; rfl
  have xt0 : 0 ≤ x.t := by omega
  have xt1 : x.t ≤ 20 := by omega
  have op' : 0 ≤ fo.d := by omega
  obtain ⟨fn, fd⟩ := f
  obtain ⟨gn, gd⟩ := g
  obtain ⟨on, od⟩ := fo
  simp only at *
  clear hcf hcg hco hlt hcr hsm hwf hxs hof how e1 e2 wf wg hsp hml hrem hgd hod hgn gn0 on1 on2 gp hgn2 m2 m4 m6 m5 hx hxw hf hg ho ht1 hn1
  go_upto_region 5 with (go_at_call 17; (with_reducible refine (KS1.out _ R0.out).mono ?_); rintro e v1 ⟨rfl, h1⟩)
  obtain ⟨V1, hV1, T1, F1, R1, L1⟩ : ∃ V1, v1.alloc (.cells #[.int .u64 fn, .int .u64 fd] 32) = V1 ∧ Hid (TAt V1 b7 0 x) ∧ Hid (FB V1 v1.heap.size ⟨fn, fd⟩) ∧ Hid (Row V1 (some ⟨b, o, none⟩) cap ts1) ∧ Hid (Lt w V1) :=
    ⟨_, rfl, Lib.hid ((T0.out.later h1).alloc _), Lib.hid (FB.new v1 ⟨fn, fd⟩), Lib.hid (by rw [← HT1.out]; exact (((R0.out.later h1).later ((Below.refl _ _).alloc (Nat.le_refl _) _)).take m)), Lib.hid (lt_step _ _ (lt_step _ _ L0.out h1) ((Below.refl _ _).alloc (Nat.le_refl _) _))⟩
  rw [hV1]
  clear hV1 h1 T0 R0 L0
  generalize v1.heap.size = b8 at *
  go_upto_region 6 with (go_at_call 17; (with_reducible refine (KS2.out _ R1.out).mono ?_); rintro e v2 ⟨rfl, h2⟩)
  obtain ⟨V2, hV2, T2, F2, G2, L2⟩ : ∃ V2, v2.alloc (.cells #[.int .u64 gn, .int .u64 gd] 32) = V2 ∧ Hid (TAt V2 b7 0 x) ∧ Hid (FB V2 b8 ⟨fn, fd⟩) ∧ Hid (FB V2 v2.heap.size ⟨gn, gd⟩) ∧ Hid (Lt w V2) :=
    ⟨_, rfl, Lib.hid ((T1.out.later h2).alloc _), Lib.hid ((F1.out.later h2).later ((Below.refl _ _).alloc (Nat.le_refl _) _)), Lib.hid (FB.new v2 ⟨gn, gd⟩), Lib.hid (lt_step _ _ (lt_step _ _ L1.out h2) ((Below.refl _ _).alloc (Nat.le_refl _) _))⟩
  rw [hV2]
  clear hV2 h2 T1 F1 R1 L1
  generalize v2.heap.size = b10 at *
  have z0 := T2.out.c0
  have z1 := T2.out.c1
  have z2 := T2.out.c2
  have z3 := T2.out.c3
  have z4 := T2.out.c4
  have z5 := T2.out.c5
  have z6 := T2.out.c6
  simp only [Nat.zero_add] at z1 z2 z3 z4 z5 z6
  go_upto_region 7 with (go_at_call 18; (with_reducible refine (KO.out _).mono ?_); rintro e v3 ⟨rfl, h3⟩)
  obtain ⟨V3, hV3, HAD⟩ : ∃ V3, v3.alloc (.cells #[.int .u64 on, .int .u64 od] 32) = V3 ∧ Hid (AD w b7 b8 b10 v3.heap.size x ⟨fn, fd⟩ ⟨gn, gd⟩ ⟨on, od⟩ V3) :=
    ⟨_, rfl, Lib.hid ⟨(T2.out.later h3).alloc _, (F2.out.later h3).later ((Below.refl _ _).alloc (Nat.le_refl _) _), (G2.out.later h3).later ((Below.refl _ _).alloc (Nat.le_refl _) _), FB.new v3 ⟨on, od⟩, lt_step _ _ (lt_step _ _ L2.out h3) ((Below.refl _ _).alloc (Nat.le_refl _) _)⟩⟩
  rw [hV3]
  clear hV3 h3 T2 F2 G2 L2 z0 z1 z2 z3 z4 z5 z6
  generalize v3.heap.size = b12 at *
  obtain ⟨t2, f0, f1, g0, g1, o0, o1⟩ := HAD.out.cells
  go_upto_region 11 with (fail)
  go_wp2_with (first
    | (go_at_call 14; (with_reducible refine (KC1.out _).mono ?_); rintro e v4 ⟨rfl, h4⟩; have HAD := Lib.hid (HAD.out.later h4); obtain ⟨t2, f0, f1, g0, g1, o0, o1⟩ := HAD.out.cells; clear h4)
    | (go_at_call 14; (with_reducible refine (KC2.out _).mono ?_); rintro e v4 ⟨rfl, h4⟩; have HAD := Lib.hid (HAD.out.later h4); obtain ⟨t2, f0, f1, g0, g1, o0, o1⟩ := HAD.out.cells; clear h4)
    | (go_at_call 14; (with_reducible refine (KC3.out _).mono ?_); rintro e v4 ⟨rfl, h4⟩; have HAD := Lib.hid (HAD.out.later h4); obtain ⟨t2, f0, f1, g0, g1, o0, o1⟩ := HAD.out.cells; clear h4)
    | fail)
  go_ret
  exact ⟨rfl, HAD.out.l⟩
end Go.Proofs.Ytghijgpelkjohaa
