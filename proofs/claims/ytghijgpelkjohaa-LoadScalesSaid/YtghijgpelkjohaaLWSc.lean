/- LoadScales: the walk. -/
import Derived.Test.YtghijgpelkjohaaLSml
import Derived.Test.YtghijgpelkjohaaLTak
import Derived.Test.YtghijgpelkjohaaLAwk
namespace Go.Proofs.Ytghijgpelkjohaa
open Go.RowKit
set_option linter.unusedVariables false
set_option linter.unusedSimpArgs false
theorem low20 (n : Int) : ∃ m : Nat, m < 1048576 ∧ bits .and .i64 n 1048575 = (m : Int) := by
  have h : (BitVec.ofInt 64 n &&& BitVec.ofInt 64 1048575).toNat ≤ 1048575 := by
    rw [BitVec.toNat_and]
    exact Nat.and_le_right
  have e : bits .and .i64 n 1048575 = IntKind.i64.wrap (((BitVec.ofInt 64 n &&& BitVec.ofInt 64 1048575).toNat : Nat) : Int) := rfl
  rw [e]
  generalize (BitVec.ofInt 64 n &&& BitVec.ofInt 64 1048575).toNat = z at *
  exact ⟨z, by omega, IntWalk.i64_in _ (by omega)⟩
theorem scl_step {k : Int} {l : List Ts} {i : Nat} {x : Ts} (hx : l[i]? = some x) : (l.take (i + 1)).map (sclT k) = (l.take i).map (sclT k) ++ [sclT k x] := by
  obtain ⟨hk, e⟩ := List.getElem?_eq_some_iff.1 hx
  rw [List.take_succ_eq_append_getElem hk, List.map_append, e]
  rfl
theorem sclT_w {k : Int} {x : Ts} (h : in64 (x.c * k)) (h2 : in64 (x.t * k)) : TsW (sclT k x) := ctT_w h h2
set_option maxRecDepth 100000 in
set_option maxHeartbeats 8000000 in
theorem lsc_walk (A0 : Option Addr) (cap0 : Nat) (l0 : List Sp) (a1 a2 : Int) (w : World) (h0 : SRow w A0 cap0 l0) (i1 : in64 a1) (i2 : in64 a2) :
    Calls Try.prog 8 #[.slice A0 l0.length cap0, .int .i64 a1, .int .i64 a2] w fun e w' => e = .returned (.bool true) ∧ Below w.heap.size w w' := by
  have KA := Lib.hid awake_any
  have KS := Lib.hid (fun W (h : Lt w W) => set_any 5 (by omega) (by omega) A0 cap0 l0 a1 W (h0.later h) i1)
  have HL : Hid (Lt w w) := Lib.hid (Below.refl _ _)
  obtain ⟨z, hz, hze⟩ := low20 a2
  generalize l0.length = m0 at *
  clear h0
  go_enter Try.func8, Try.ntmps8
  go_upto_region 3 with (first
    | (go_at_call 9; (with_reducible refine (KA.out _).mono ?_); rintro e v ⟨rfl, h⟩; have HL := Lib.hid (lt_step _ _ HL.out h); clear h)
    | (go_at_call 11; (with_reducible refine (KS.out _ HL.out).mono ?_); rintro e v ⟨A, cap, ts, rfl, hR, hn1, hn6, -, hsf, -, h⟩; have HR := Lib.hid hR; have HSF := Lib.hid hsf; have HL := Lib.hid (lt_step _ _ HL.out h); clear h hR hsf)
    | fail)
  have hle := HR.out.le
  have hmx := HR.out.mx
  have hsm := sml_of HSF.out
  have hne : ts ≠ [] := fun e => by rw [e] at hn1; simp at hn1
  obtain ⟨k, hk⟩ : ∃ k : Int, k = 1 + (z : Int) := ⟨_, rfl⟩
  have hk1 : 1 ≤ k := by omega
  have hk2 : k ≤ 1048576 := by omega
  go_upto_region 4 with (fail)
  rw [← hk]
  clear hk hz hze
  have hsu := sum_small hsm (by omega) HR.out.wf
  have hss := sum_scale k (by omega) hsm
  have hpe := period_small hsm
  have hps := period_scale k (by omega) hk2 hsm hne
  have hgl : (ts.map (sclT k)).length = ts.length := List.length_map _
  have KS1 := Lib.hid (fun W (h : Row W A cap ts) => sum_any A cap ts W h)
  have KS2 := Lib.hid (fun W A cap (h : Row W A cap (ts.map (sclT k))) => sum_any A cap (ts.map (sclT k)) W h)
  have KP1 := Lib.hid (fun W (h : Row W A cap ts) => period_any A cap ts W h)
  have KP2 := Lib.hid (fun W A cap (h : Row W A cap (ts.map (sclT k))) => period_any A cap (ts.map (sclT k)) W h)
  rw [hsu.1] at KS1
  rw [hss.1, hss.2, hsu.1, hgl] at KS2
  rw [hpe.1, hpe.2.1] at KP1
  rw [hps.1, hps.2.1, hgl] at KP2
  have q0 := hps.2.2.2
  have q1 := hps.2.2.1
  have p0 := hpe.2.2.1
  have HSM := Lib.hid hsm
  generalize sumF ts = sf at *
  obtain ⟨fn, fd⟩ := sf
  generalize lcmL ts = p at *
  have p0' : 0 ≤ p := by omega
  have hwk : IntKind.u64.wrap k = k := by rw [IntKind.wrap_u64]; omega
  have hk0 : 0 ≤ k := by omega
  generalize hN : ts.length = N at *
  have HN := Lib.hid hN
  have HGL := Lib.hid hgl
  have HV0 : Hid (Lt v v) := Lib.hid (Below.refl _ _)
  clear hN hsu hss hpe hps hsm hgl hne i1 i2
  go_wp2
  go_loopw [10, 11] (fun vv i wr => ∃ j : Nat, j ≤ N ∧ i = .int .i64 j ∧ Hid (SetIn v.heap.size wr vv j ((ts.take j).map (sclT k))) ∧ Hid (Lt v wr)) (fun _ i _ => N - (intOf i).toNat)
  case atStart => exact ⟨0, Nat.zero_le _, rfl, Lib.hid (SetIn.nil _ _), Lib.hid (Below.refl _ _)⟩
  case round =>
    obtain ⟨j, hj, rfl, HI, HB⟩ := hrel
    obtain ⟨A2, cap2, hv2, hl2, hm2⟩ := own_len HI.out.row
    subst hv2
    by_cases hlt : j < N
    · obtain ⟨b', o, x, rfl, hx, hxw, hbl, hT⟩ := HR.out.get (k := j) (by rw [HN.out]; exact hlt)
      have hTr := hT.later HB.out
      have c1 := hTr.c1
      have c2 := hTr.c2
      have hs := HSM.out x (List.mem_of_getElem? hx)
      have hi0 : (0 : Int) ≤ (j : Int) := by omega
      have hi1 : (j : Int) < ((N : Nat) : Int) := by omega
      obtain ⟨s1, s2, s3⟩ := hs
      have m1 : 0 ≤ x.c * k := Int.mul_nonneg (by omega) (by omega)
      have m2 : x.c * k ≤ 20 * 1048576 := Int.mul_le_mul (by omega) hk2 (by omega) (by omega)
      have m3 : 0 ≤ x.t * k := Int.mul_nonneg (by omega) (by omega)
      have m4 : x.t * k ≤ 20 * 1048576 := Int.mul_le_mul s3 hk2 (by omega) (by omega)
      have HST := Lib.hid (scl_step (k := k) hx)
      have HXW := Lib.hid (sclT_w (k := k) (x := x) ⟨by omega, by omega⟩ ⟨by omega, by omega⟩)
      have w1 : IntKind.i64.wrap (x.c * k) = x.c * k := IntWalk.i64_in _ (by omega)
      have w2 : IntKind.i64.wrap (x.t * k) = x.t * k := IntWalk.i64_in _ (by omega)
      have HTN := Lib.hid (task_new wr (sclT k x))
      have HRW : Hid (((wr.alloc (.cells #[.string { data := #[] }, .int .i64 (x.c * k), .int .i64 (x.t * k), .int .i64 0, .int .i64 0, .int .i64 0, .int .i64 0] 40)).drew).ownsRow v.heap.size 40 7 (.slice A2 j cap2) j (tsCells ((ts.take j).map (sclT k)))) := Lib.hid (HI.out.row.alloc _)
      have HSZ : Hid (v.heap.size ≤ ((wr.alloc (.cells #[.string { data := #[] }, .int .i64 (x.c * k), .int .i64 (x.t * k), .int .i64 0, .int .i64 0, .int .i64 0, .int .i64 0] 40)).drew).heap.size) := Lib.hid (by have := Below.size HB.out; simp; omega)
      have HBW : Hid (Below v.heap.size v ((wr.alloc (.cells #[.string { data := #[] }, .int .i64 (x.c * k), .int .i64 (x.t * k), .int .i64 0, .int .i64 0, .int .i64 0, .int .i64 0] 40)).drew)) := Lib.hid (Below.trans (Below.alloc HB.out (Below.size HB.out) _) ((below_drew _).mono (by have := Below.size HB.out; simp; omega)))
      clear hT hTr hx hxw hbl s1 s2 s3 m1 m2 m3 m4
      go_upto_region 8 with (fail)
      go_region_law (refine step_append_task rfl (.tmp 33) (.tmp 49) rfl v.heap.size _ j (tsCells ((ts.take j).map (sclT k))) rfl HRW.out _ 1 1 (tsL (sclT k x)) rfl rfl HTN.out (tsL_one _) (by omega) HSZ.out ?_; intro v' w8 o1 g8; have HO := Lib.hid o1; have HG := Lib.hid g8; clear o1 g8)
      all_goals
        go_wp2
        go_roundw
        case rel => exact ⟨j + 1, by omega, by go_num, Lib.hid (by rw [HST.out]; exact HI.out.snoc HXW.out HO.out), Lib.hid (Below.grown HBW.out HG.out HSZ.out (fun q hq => (HI.out.row.lt q hq).1))⟩
        case measure => simp [intOf]; omega
    · obtain rfl : j = N := by omega
      have hfull : ts.take j = ts := List.take_of_length_le (by rw [HN.out]; exact Nat.le_refl _)
      rw [hfull] at HI
      obtain ⟨A3, cap3, hv3, hF⟩ := HI.out.rowR
      rw [HGL.out] at hv3
      simp only [Value.slice.injEq] at hv3
      obtain ⟨rfl, -, rfl⟩ := hv3
      have HF := Lib.hid hF
      have R0 := Lib.hid (HR.out.later HB.out)
      clear hF hfull HI HR
      go_upto_region 10 with (go_at_call 17; (with_reducible refine (KS1.out _ R0.out).mono ?_); rintro e v1 ⟨rfl, h1⟩)
      obtain ⟨V1, hV1, F1, R1, G1, L1⟩ : ∃ V1, v1.alloc (.cells #[.int .u64 fn, .int .u64 fd] 32) = V1 ∧ Hid (FB V1 v1.heap.size ⟨fn, fd⟩) ∧ Hid (Row V1 A cap ts) ∧ Hid (Row V1 A2 cap2 (ts.map (sclT k))) ∧ Hid (Lt v V1) :=
        ⟨_, rfl, Lib.hid (FB.new v1 ⟨fn, fd⟩), Lib.hid ((R0.out.later h1).later ((Below.refl _ _).alloc (Nat.le_refl _) _)), Lib.hid ((HF.out.later h1).later ((Below.refl _ _).alloc (Nat.le_refl _) _)), Lib.hid (lt_step _ _ (lt_step _ _ HB.out h1) ((Below.refl _ _).alloc (Nat.le_refl _) _))⟩
      rw [hV1]
      clear hV1 h1 R0 HF
      generalize v1.heap.size = b12 at *
      go_upto_region 11 with (go_at_call 17; (with_reducible refine (KS2.out _ _ _ G1.out).mono ?_); rintro e v2 ⟨rfl, h2⟩)
      obtain ⟨V2, hV2, F2, E2, R2, G2, L2⟩ : ∃ V2, v2.alloc (.cells #[.int .u64 fn, .int .u64 fd] 32) = V2 ∧ Hid (FB V2 b12 ⟨fn, fd⟩) ∧ Hid (FB V2 v2.heap.size ⟨fn, fd⟩) ∧ Hid (Row V2 A cap ts) ∧ Hid (Row V2 A2 cap2 (ts.map (sclT k))) ∧ Hid (Lt v V2) :=
        ⟨_, rfl, Lib.hid ((F1.out.later h2).later ((Below.refl _ _).alloc (Nat.le_refl _) _)), Lib.hid (FB.new v2 ⟨fn, fd⟩), Lib.hid ((R1.out.later h2).later ((Below.refl _ _).alloc (Nat.le_refl _) _)), Lib.hid ((G1.out.later h2).later ((Below.refl _ _).alloc (Nat.le_refl _) _)), Lib.hid (lt_step _ _ (lt_step _ _ L1.out h2) ((Below.refl _ _).alloc (Nat.le_refl _) _))⟩
      rw [hV2]
      clear hV2 h2 F1 R1 G1 L1
      generalize v2.heap.size = b14 at *
      go_upto_region 12 with (go_at_call 19; (with_reducible refine (KP1.out _ R2.out).mono ?_); rintro e v3 ⟨rfl, h3⟩; have G3 := Lib.hid (G2.out.later h3))
      go_upto_region 13 with (go_at_call 19; (with_reducible refine (KP2.out _ _ _ G3.out).mono ?_); rintro e v4 ⟨rfl, h4⟩)
      have F4 := Lib.hid ((F2.out.later h3).later h4)
      have E4 := Lib.hid ((E2.out.later h3).later h4)
      have L4 := Lib.hid (lt_step _ _ (lt_step _ _ L2.out h3) h4)
      have f0 := F4.out.c0
      have f1 := F4.out.c1
      have e0 := E4.out.c0
      have e1 := E4.out.c1
      clear h3 h4
      go_wp2
      go_ret
      exact ⟨rfl, Below.trans HL.out (Below.mono L4.out (Below.size HL.out))⟩
end Go.Proofs.Ytghijgpelkjohaa
