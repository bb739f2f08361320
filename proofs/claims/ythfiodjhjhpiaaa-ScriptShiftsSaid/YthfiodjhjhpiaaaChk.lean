/- CheckAll: the walk. -/
import Derived.Test.YthfiodjhjhpiaaaMaps
import Derived.Deep.LoopGhost
import Derived.WalkMore
namespace Go.Proofs.Ythfiodjhjhpiaaa
open Go.RowKit
set_option linter.unusedVariables false
set_option linter.unusedSimpArgs false

theorem run_store_func (P : Program) (w : World) (a : Addr) (m : Mode) (f : Fn) (x y : Array Value) : (store a (.func f x y) m).run P w = stored P w a (.func f x y) m := run_store P w a _ m rfl
attribute [local go_sem] run_store_func
theorem checkAll_many (A : Option Addr) (cap : Nat) (l : List Ts) (w : World) (h : l.length = 0 ∨ 1024 < l.length) (hl : l.length ≤ 9223372036854775807) :
    Calls Try.prog 43 #[.slice A l.length cap] w fun e w' => e = .returned (.tuple #[.int .i64 0, .int .i64 14]) ∧ Below w.heap.size w w' := by
  generalize l.length = n at *
  by_cases h0 : n = 0
  · subst h0
    go_enter Try.func43, Try.ntmps43
    go_wp2
    go_step3
    go_wp2
    rw [Exit.noGoto_ret]
    go_ret2
    exact ⟨rfl, Below.refl _ _⟩
  · have t0 : ((n : Int) == 0) = false := by rw [beq_eq_false_iff_ne]; omega
    have t1 : decide ((n : Int) > 1024) = true := decide_eq_true (by omega)
    have t2 : 1024 < (n : Int) := by omega
    go_enter Try.func43, Try.ntmps43
    go_wp2
    go_step3
    go_wp2
    rw [Exit.noGoto_ret]
    go_ret2
    exact ⟨rfl, Below.refl _ _⟩

/-- What the walk holds of memory, at each task: N is how much there was. -/
structure CA (N : Nat) (w0 w : World) (pre : List Ts) : Prop where
  c4 : w.cell? ⟨N + 1 + 1, 0, none⟩ = some (.map (some N))
  c5 : w.cell? ⟨N + 1 + 1 + 1, 0, none⟩ = some (.map (some (N + 1)))
  l0 : w.cell? ⟨N + 1 + 1 + 1 + 1, 0, none⟩ = some (.func (.func 47) #[] #[])
  l1 : w.cell? ⟨N + 1 + 1 + 1 + 1, 1, none⟩ = some (.func (.func 48) #[] #[.pointer (some ⟨N + 1 + 1, 0, none⟩)])
  l2 : w.cell? ⟨N + 1 + 1 + 1 + 1, 2, none⟩ = some (.func (.func 50) #[] #[.pointer (some ⟨N + 1 + 1 + 1, 0, none⟩)])
  m1 : MapOf w N (pre.map fun y => .string y.n)
  m2 : MapOf w (N + 1) (pre.map fun y => .int .i64 y.p)
  hB : Below N w0 w
  hs : N + 1 + 1 + 1 + 1 < w.heap.size
theorem CA.later {N : Nat} {w0 w w' : World} {pre : List Ts} (h : CA N w0 w pre) (hb : Below w.heap.size w w') : CA N w0 w' pre := by
  have hs := h.hs
  have hz := hb.size
  exact ⟨(hb.cell (p := ⟨N + 1 + 1, 0, none⟩) (by simp only; omega)).trans h.c4, (hb.cell (p := ⟨N + 1 + 1 + 1, 0, none⟩) (by simp only; omega)).trans h.c5,
    (hb.cell (p := ⟨N + 1 + 1 + 1 + 1, 0, none⟩) (by simp only; omega)).trans h.l0, (hb.cell (p := ⟨N + 1 + 1 + 1 + 1, 1, none⟩) (by simp only; omega)).trans h.l1, (hb.cell (p := ⟨N + 1 + 1 + 1 + 1, 2, none⟩) (by simp only; omega)).trans h.l2,
    h.m1.later hb, h.m2.later hb, h.hB.trans (hb.mono (by omega)), by omega⟩
theorem CA.start (w : World) : ∃ W, ((((w.alloc (.map #[] 0)).alloc (.map #[] 0)).alloc (.cells #[.map (some w.heap.size)] 84)).alloc (.cells #[.map (some (w.heap.size + 1))] 85)).alloc
    (.cells #[.func (.func 47) #[] #[], .func (.func 48) #[] #[.pointer (some ⟨w.heap.size + 1 + 1, 0, none⟩)], .func (.func 50) #[] #[.pointer (some ⟨w.heap.size + 1 + 1 + 1, 0, none⟩)]] 87) = W ∧ CA w.heap.size w W [] := by
  have b1 := (Below.refl w.heap.size w).alloc (Nat.le_refl _) (.map #[] 0)
  have hh : ∀ (W : World) (o : Obj) (k : Nat), k < W.heap.size → (W.alloc o).heap[k]? = W.heap[k]? := fun W o k hk => Below.heap_alloc W o k hk
  refine ⟨_, rfl, ?_, ?_, ?_, ?_, ?_, ⟨#[], 0, ?_, rfl, by simp⟩, ⟨#[], 0, ?_, rfl, by simp⟩, ?_, by simp⟩
  · rw [World.cell?_alloc_lt _ _ _ (by simp), World.cell?_alloc_lt _ _ _ (by simp)]
    have := cell_of_row _ _ 0 _ _ _ (heap_alloc_new ((w.alloc (.map #[] 0)).alloc (.map #[] 0)) (.cells #[.map (some w.heap.size)] 84))
    simp only [World.size_alloc] at this
    exact this
  · rw [World.cell?_alloc_lt _ _ _ (by simp)]
    have := cell_of_row _ _ 0 _ _ _ (heap_alloc_new (((w.alloc (.map #[] 0)).alloc (.map #[] 0)).alloc (.cells #[.map (some w.heap.size)] 84)) (.cells #[.map (some (w.heap.size + 1))] 85))
    simp only [World.size_alloc] at this
    exact this
  · have := cell_of_row _ _ 0 _ _ _ (heap_alloc_new ((((w.alloc (.map #[] 0)).alloc (.map #[] 0)).alloc (.cells #[.map (some w.heap.size)] 84)).alloc (.cells #[.map (some (w.heap.size + 1))] 85)) (.cells #[.func (.func 47) #[] #[], .func (.func 48) #[] #[.pointer (some ⟨w.heap.size + 1 + 1, 0, none⟩)], .func (.func 50) #[] #[.pointer (some ⟨w.heap.size + 1 + 1 + 1, 0, none⟩)]] 87))
    simp only [World.size_alloc] at this
    exact this
  · have := cell_of_row _ _ 1 _ _ _ (heap_alloc_new ((((w.alloc (.map #[] 0)).alloc (.map #[] 0)).alloc (.cells #[.map (some w.heap.size)] 84)).alloc (.cells #[.map (some (w.heap.size + 1))] 85)) (.cells #[.func (.func 47) #[] #[], .func (.func 48) #[] #[.pointer (some ⟨w.heap.size + 1 + 1, 0, none⟩)], .func (.func 50) #[] #[.pointer (some ⟨w.heap.size + 1 + 1 + 1, 0, none⟩)]] 87))
    simp only [World.size_alloc] at this
    exact this
  · have := cell_of_row _ _ 2 _ _ _ (heap_alloc_new ((((w.alloc (.map #[] 0)).alloc (.map #[] 0)).alloc (.cells #[.map (some w.heap.size)] 84)).alloc (.cells #[.map (some (w.heap.size + 1))] 85)) (.cells #[.func (.func 47) #[] #[], .func (.func 48) #[] #[.pointer (some ⟨w.heap.size + 1 + 1, 0, none⟩)], .func (.func 50) #[] #[.pointer (some ⟨w.heap.size + 1 + 1 + 1, 0, none⟩)]] 87))
    simp only [World.size_alloc] at this
    exact this
  · rw [hh _ _ _ (by first | (simp; done) | (simp; omega)), hh _ _ _ (by first | (simp; done) | (simp; omega)), hh _ _ _ (by first | (simp; done) | (simp; omega)), hh _ _ _ (by simp)]
    exact heap_alloc_new w _
  · rw [hh _ _ _ (by first | (simp; done) | (simp; omega)), hh _ _ _ (by first | (simp; done) | (simp; omega)), hh _ _ _ (by simp)]
    have := heap_alloc_new (w.alloc (.map #[] 0)) (.map #[] 0)
    rwa [World.size_alloc] at this
  · exact ((((b1.alloc (by simp) _).alloc (by first | (simp; done) | (simp; omega)) _).alloc (by first | (simp; done) | (simp; omega)) _).alloc (by first | (simp; done) | (simp; omega)) _)
theorem MapOf.put_other {w : World} {r r' : Nat} {keys : List Value} (h : MapOf w r keys) (o : Obj) (hne : r ≠ r') : MapOf (w.putObj r' o) r keys := by
  obtain ⟨es, c, h1, h2⟩ := h
  exact ⟨es, c, (World.putObj_heap_other hne).trans h1, h2⟩
theorem cell_put {w : World} {r b i : Nat} (o : Obj) (hne : b ≠ r) : (w.putObj r o).cell? ⟨b, i, none⟩ = w.cell? ⟨b, i, none⟩ := by
  unfold World.cell?
  simp only [World.putObj_heap_other (o := o) hne]
theorem below_put {B : Nat} {w0 w : World} {r : Nat} (h : Below B w0 w) (o : Obj) (hB : B ≤ r) : Below B w0 (w.putObj r o) :=
  h.trans ⟨rfl, rfl, rfl, by simp, fun k hk => World.putObj_heap_other (by omega)⟩
theorem CA.put {N : Nat} {w0 w : World} {pre : List Ts} (h : CA N w0 w pre) (x : Ts) (h1 : nameIn pre x = false) (h2 : prioIn pre x = false) :
    ∃ o1 o2, (Instr.mapUpdate 84 (.map (some N)) (.string x.n) (.bool true)).run Try.prog w = .ok () (w.putObj N o1) ∧
      (Instr.mapUpdate 85 (.map (some (N + 1))) (.int .i64 x.p) (.bool true)).run Try.prog (w.putObj N o1) = .ok () ((w.putObj N o1).putObj (N + 1) o2) ∧
      CA N w0 ((w.putObj N o1).putObj (N + 1) o2) (pre ++ [x]) := by
  obtain ⟨o1, p1, m1⟩ := put_name h.m1 x h1
  obtain ⟨o2, p2, m2⟩ := put_prio (h.m2.put_other (r' := N) o1 (by omega)) x h2
  refine ⟨o1, o2, p1, p2, ?_, ?_, ?_, ?_, ?_, m1.put_other (r' := N + 1) o2 (by omega), m2, below_put (below_put h.hB o1 (Nat.le_refl _)) o2 (by omega), by simp; exact h.hs⟩
  · rw [cell_put _ (by omega), cell_put _ (by omega)]; exact h.c4
  · rw [cell_put _ (by omega), cell_put _ (by omega)]; exact h.c5
  · rw [cell_put _ (by omega), cell_put _ (by omega)]; exact h.l0
  · rw [cell_put _ (by omega), cell_put _ (by omega)]; exact h.l1
  · rw [cell_put _ (by omega), cell_put _ (by omega)]; exact h.l2
/-- A task that lies at the beginning of a block. -/
theorem TAt.z {w : World} {b : Nat} {x : Ts} (h : TAt w b 0 x) : w.cell? ⟨b, 0, none⟩ = some (.string x.n) ∧ w.cell? ⟨b, 1, none⟩ = some (.int .i64 x.c) ∧ w.cell? ⟨b, 2, none⟩ = some (.int .i64 x.t) ∧ w.cell? ⟨b, 3, none⟩ = some (.int .i64 x.d) ∧ w.cell? ⟨b, 4, none⟩ = some (.int .i64 x.j) ∧ w.cell? ⟨b, 5, none⟩ = some (.int .i64 x.q) ∧ w.cell? ⟨b, 6, none⟩ = some (.int .i64 x.p) :=
  ⟨h.c0, h.c1, h.c2, h.c3, h.c4, h.c5, h.c6⟩
set_option maxRecDepth 100000 in
theorem three_idx (g0 g1 g2 : Fn) (a0 b0 a1 b1 a2 b2 : Array Value) (w : World) :
    (Instr.index 87 (.agg #[.func g0 a0 b0, .func g1 a1 b1, .func g2 a2 b2]) (.int .i64 0)).run Try.prog w = .ok (.func g0 a0 b0) w ∧
    (Instr.index 87 (.agg #[.func g0 a0 b0, .func g1 a1 b1, .func g2 a2 b2]) (.int .i64 1)).run Try.prog w = .ok (.func g1 a1 b1) w ∧
    (Instr.index 87 (.agg #[.func g0 a0 b0, .func g1 a1 b1, .func g2 a2 b2]) (.int .i64 2)).run Try.prog w = .ok (.func g2 a2 b2) w := by
  refine ⟨?_, ?_, ?_⟩ <;> rfl

set_option maxRecDepth 100000 in
set_option maxHeartbeats 8000000 in
theorem checkAll_few (A : Option Addr) (cap : Nat) (l : List Ts) (w : World) (hR : Row w A cap l) (h0 : l.length ≠ 0) (h1 : l.length ≤ 1024) :
    Calls Try.prog 43 #[.slice A l.length cap] w fun e w' => e = .returned (.tuple #[.int .i64 ((chkAll l).1 : Int), .int .i64 (chkAll l).2]) ∧ Below w.heap.size w w' := by
  have t0 : ((l.length : Int) == 0) = false := by rw [beq_eq_false_iff_ne]; omega
  have t1 : decide ((l.length : Int) > 1024) = false := decide_eq_false (by omega)
  have t2 : decide (1024 < l.length) = false := decide_eq_false (by omega)
  have hle := hR.le
  have hmx := hR.mx
  have HS := Lib.hid (chk_start h0 h1)
  have ROW := Lib.hid hR
  obtain ⟨a, e, he⟩ : ∃ a e, chkAll l = (a, e) := ⟨_, _, rfl⟩
  rw [he]
  have HE := Lib.hid he
  obtain ⟨W0, hW0, C0⟩ := CA.start w
  have HW0 := Lib.hid hW0
  have hmm := @run_makeMap Try.prog
  clear hR he hW0 h0
  go_enter Try.func43, Try.ntmps43
  go_wp2
  go_step3
  go_wp2
  go_step3
  go_wp2
  rw [HW0.out]
  clear hmm t0 t1 t2 HW0
  generalize hN : w.heap.size = N at *
  have HN := Lib.hid hN
  clear hN
  go_loopg [7, 8, 30] l.length (fun g s7 s8 i wr => ∃ k : Nat, k ≤ l.length ∧ l.length - k ≤ g ∧ i = .int .i64 k ∧ s7 = .int .i64 l.length ∧ s8 = .int .i64 0 ∧ CA N w wr (l.take k) ∧ Hid (chkAll l = chkFrom (l.take k) (l.drop k)))
  case atStart => exact ⟨0, Nat.zero_le _, by omega, rfl, rfl, rfl, C0, HS⟩
  case round =>
    obtain ⟨k, hk, hg, rfl, rfl, rfl, hC, hq⟩ := hrel
    by_cases hlt : k < l.length
    · obtain ⟨b, o, x, rfl, hx, hw, hbl, hT⟩ := ROW.out.get hlt
      have hTr := hT.below hC.hB (by rw [HN.out] at hbl; exact hbl)
      have c0 := hTr.c0
      have c1 := hTr.c1
      have c2 := hTr.c2
      have c3 := hTr.c3
      have c4 := hTr.c4
      have c5 := hTr.c5
      have c6 := hTr.c6
      have hi0 : (0 : Int) ≤ (k : Int) := by omega
      have hi1 : (k : Int) < (l.length : Int) := by omega
      have HX := Lib.hid hx
      have HC := Lib.hid hC
      clear hT hTr hx hw hC
      go_upto_region 9 with (fail)
      obtain ⟨W1, hW1, C1, T1⟩ : ∃ W1, wr.alloc (.cells #[.string x.n, .int .i64 x.c, .int .i64 x.t, .int .i64 x.d, .int .i64 x.j, .int .i64 x.q, .int .i64 x.p] 44) = W1 ∧ CA N w W1 (l.take k) ∧ TAt W1 wr.heap.size 0 x :=
        ⟨_, rfl, HC.out.later ((Below.refl _ _).alloc (Nat.le_refl _) _), TAt.new wr x⟩
      rw [hW1]
      have u0 := C1.l0
      have u1 := C1.l1
      have u2 := C1.l2
      obtain ⟨z0, z1, z2, z3, z4, z5, z6⟩ := T1.z
      have CA1 := Lib.hid C1
      have T1 := Lib.hid T1
      clear hW1 C1 c0 c1 c2 c3 c4 c5 c6
      have hbx : N < wr.heap.size := by have := HC.out.hs; omega
      generalize wr.heap.size = bx at *
      have K0 := Lib.hid (fun W => check_any x W)
      have I3 := fun W => three_idx (.func 47) (.func 48) (.func 50) #[] #[] #[] #[.pointer (some ⟨N + 1 + 1, 0, none⟩)] #[] #[.pointer (some ⟨N + 1 + 1 + 1, 0, none⟩)] W
      have i30 := fun W => (I3 W).1
      have i31 := fun W => (I3 W).2.1
      have i32 := fun W => (I3 W).2.2
      clear I3
      by_cases he0 : checkE x = 0
      · cases hn1 : nameIn (l.take k) x
        · cases hn2 : prioIn (l.take k) x
          · have HQ := Lib.hid (chk_next hq.out HX.out he0 hn1 hn2)
            rw [he0] at K0
            have hk1 : Hid (nameIn (l.take k) x = false) := Lib.hid hn1
            have hk2 : Hid (prioIn (l.take k) x = false) := Lib.hid hn2
            clear he0 hn1 hn2 hq
            go_wp2
            refine wp_loop_rounds 4 ?_
            rw [rounds_succ]
            go_wp2_with (go_at_call 47; (with_reducible refine (K0.out _).mono ?_); rintro e2 w2 ⟨rfl, h2⟩; have CA2 := CA1.out.later h2; have T2 := T1.out.later h2; obtain ⟨d0, d1, d2, d3, d4, d5, d6⟩ := T2.z; have K1 := Lib.hid (close1_any _ _ (l.take k) x w2 CA2.c4 CA2.m1); have HC2 := Lib.hid CA2; have HT2 := Lib.hid T2; clear CA2 T2 h2)
            rw [hk1.out] at K1
            have K1 : Hid (Calls Try.prog 48 #[tsV x, .pointer (some ⟨N + 1 + 1, 0, none⟩)] w2 fun e w' => e = .returned (.int .i64 0) ∧ Below w2.heap.size w2 w') := K1
            clear z0 z1 z2 z3 z4 z5 z6 u0 u1 u2
            rw [rounds_succ]
            go_wp2_with (go_at_call 48; (with_reducible refine K1.out.mono ?_); rintro e3 w3 ⟨rfl, h3⟩; have CA3 := HC2.out.later h3; have T3 := HT2.out.later h3; obtain ⟨f0, f1, f2, f3, f4, f5, f6⟩ := T3.z; have K2 := Lib.hid (close2_any _ _ (l.take k) x w3 CA3.c5 CA3.m2); have HC3 := Lib.hid CA3; have HT3 := Lib.hid T3; clear CA3 T3 h3)
            rw [hk2.out] at K2
            have K2 : Hid (Calls Try.prog 50 #[tsV x, .pointer (some ⟨N + 1 + 1 + 1, 0, none⟩)] w3 fun e w' => e = .returned (.int .i64 0) ∧ Below w3.heap.size w3 w') := K2
            clear d0 d1 d2 d3 d4 d5 d6
            rw [rounds_succ]
            go_wp2_with (go_at_call 50; (with_reducible refine K2.out.mono ?_); rintro e4 w4 ⟨rfl, h4⟩; have CA4 := HC3.out.later h4; have T4 := HT3.out.later h4; have HC4 := Lib.hid CA4; have HT4 := Lib.hid T4; clear CA4 T4 h4)
            rw [rounds_succ]
            go_wp2
            obtain ⟨o1, o2, p1, p2, CF⟩ := (HC4.out.later (below_drew w4)).put x hk1.out hk2.out
            have q4 := HC4.out.c4
            have q5 := HC4.out.c5
            obtain ⟨y0, y1, y2, y3, y4, y5, y6⟩ := HT4.out.z
            have HCF := Lib.hid CF
            have v4 : (w4.drew.putObj N o1).cell? ⟨N + 1 + 1, 0, none⟩ = _ := (cell_put o1 (by omega)).trans q4
            have v5 : (w4.drew.putObj N o1).cell? ⟨N + 1 + 1 + 1, 0, none⟩ = _ := (cell_put o1 (by omega)).trans q5
            have v0 : (w4.drew.putObj N o1).cell? ⟨bx, 0, none⟩ = _ := (cell_put o1 (by omega)).trans y0
            have v6 : (w4.drew.putObj N o1).cell? ⟨bx, 6, none⟩ = _ := (cell_put o1 (by omega)).trans y6
            clear CF f0 f1 f2 f3 f4 f5 f6 i30 i31 i32
            go_region
            all_goals
              go_wp2
              go_roundg (l.length - (k + 1))
              case measure => omega
              case rel => exact ⟨k + 1, by omega, by omega, by go_num, rfl, rfl, by rw [take_ts HX.out]; exact HCF.out, HQ⟩
          · have HQ := Lib.hid ((HE.out.symm.trans (chk_dup hq.out HX.out he0 (by rw [hn2]; simp))))
            rw [he0] at K0
            have hk1 : Hid (nameIn (l.take k) x = false) := Lib.hid hn1
            have hk2 : Hid (prioIn (l.take k) x = true) := Lib.hid hn2
            clear he0 hn1 hn2 hq
            go_wp2
            refine wp_loop_rounds 4 ?_
            rw [rounds_succ]
            go_wp2_with (go_at_call 47; (with_reducible refine (K0.out _).mono ?_); rintro e2 w2 ⟨rfl, h2⟩; have CA2 := CA1.out.later h2; have T2 := T1.out.later h2; obtain ⟨d0, d1, d2, d3, d4, d5, d6⟩ := T2.z; have K1 := Lib.hid (close1_any _ _ (l.take k) x w2 CA2.c4 CA2.m1); have HC2 := Lib.hid CA2; have HT2 := Lib.hid T2; clear CA2 T2 h2)
            rw [hk1.out] at K1
            have K1 : Hid (Calls Try.prog 48 #[tsV x, .pointer (some ⟨N + 1 + 1, 0, none⟩)] w2 fun e w' => e = .returned (.int .i64 0) ∧ Below w2.heap.size w2 w') := K1
            clear z0 z1 z2 z3 z4 z5 z6 u0 u1 u2
            rw [rounds_succ]
            go_wp2_with (go_at_call 48; (with_reducible refine K1.out.mono ?_); rintro e3 w3 ⟨rfl, h3⟩; have CA3 := HC2.out.later h3; have T3 := HT2.out.later h3; obtain ⟨f0, f1, f2, f3, f4, f5, f6⟩ := T3.z; have K2 := Lib.hid (close2_any _ _ (l.take k) x w3 CA3.c5 CA3.m2); have HC3 := Lib.hid CA3; have HT3 := Lib.hid T3; clear CA3 T3 h3)
            rw [hk2.out] at K2
            have K2 : Hid (Calls Try.prog 50 #[tsV x, .pointer (some ⟨N + 1 + 1 + 1, 0, none⟩)] w3 fun e w' => e = .returned (.int .i64 13) ∧ Below w3.heap.size w3 w') := K2
            clear d0 d1 d2 d3 d4 d5 d6
            rw [rounds_succ]
            go_wp2_with (go_at_call 50; (with_reducible refine K2.out.mono ?_); rintro e4 w4 ⟨rfl, h4⟩; have CA4 := HC3.out.later h4; have T4 := HT3.out.later h4; have HC4 := Lib.hid CA4; have HT4 := Lib.hid T4; clear CA4 T4 h4)
            rw [Exit.noGoto_ret]
            go_ret2
            exact ⟨by obtain ⟨rfl, rfl⟩ := Prod.mk.inj HQ.out; rfl, by rw [HN.out]; exact HC4.out.hB⟩
        · have HQ := Lib.hid ((HE.out.symm.trans (chk_dup hq.out HX.out he0 (by rw [hn1]; simp))))
          rw [he0] at K0
          have hk1 : Hid (nameIn (l.take k) x = true) := Lib.hid hn1
          clear he0 hn1 hq
          go_wp2
          refine wp_loop_rounds 4 ?_
          rw [rounds_succ]
          go_wp2_with (go_at_call 47; (with_reducible refine (K0.out _).mono ?_); rintro e2 w2 ⟨rfl, h2⟩; have CA2 := CA1.out.later h2; have T2 := T1.out.later h2; obtain ⟨d0, d1, d2, d3, d4, d5, d6⟩ := T2.z; have K1 := Lib.hid (close1_any _ _ (l.take k) x w2 CA2.c4 CA2.m1); have HC2 := Lib.hid CA2; have HT2 := Lib.hid T2; clear CA2 T2 h2)
          rw [hk1.out] at K1
          have K1 : Hid (Calls Try.prog 48 #[tsV x, .pointer (some ⟨N + 1 + 1, 0, none⟩)] w2 fun e w' => e = .returned (.int .i64 13) ∧ Below w2.heap.size w2 w') := K1
          clear z0 z1 z2 z3 z4 z5 z6 u0 u1 u2
          rw [rounds_succ]
          go_wp2_with (go_at_call 48; (with_reducible refine K1.out.mono ?_); rintro e3 w3 ⟨rfl, h3⟩; have CA3 := HC2.out.later h3; have T3 := HT2.out.later h3; obtain ⟨f0, f1, f2, f3, f4, f5, f6⟩ := T3.z; have K2 := Lib.hid (close2_any _ _ (l.take k) x w3 CA3.c5 CA3.m2); have HC3 := Lib.hid CA3; have HT3 := Lib.hid T3; clear CA3 T3 h3)
          rw [Exit.noGoto_ret]
          go_ret2
          exact ⟨by obtain ⟨rfl, rfl⟩ := Prod.mk.inj HQ.out; rfl, by rw [HN.out]; exact HC3.out.hB⟩
      · have HQ := Lib.hid ((HE.out.symm.trans (chk_bad hq.out HX.out he0)))
        have t5 : (checkE x != 0) = true := by simpa using he0
        generalize checkE x = ce at *
        clear he0 hq
        go_wp2
        refine wp_loop_rounds 4 ?_
        rw [rounds_succ]
        go_wp2_with (go_at_call 47; (with_reducible refine (K0.out _).mono ?_); rintro e2 w2 ⟨rfl, h2⟩; have CA2 := CA1.out.later h2; have T2 := T1.out.later h2; obtain ⟨d0, d1, d2, d3, d4, d5, d6⟩ := T2.z; have K1 := Lib.hid (close1_any _ _ (l.take k) x w2 CA2.c4 CA2.m1); have HC2 := Lib.hid CA2; have HT2 := Lib.hid T2; clear CA2 T2 h2)
        rw [Exit.noGoto_ret]
        go_ret2
        exact ⟨by obtain ⟨rfl, rfl⟩ := Prod.mk.inj HQ.out; rfl, by rw [HN.out]; exact HC2.out.hB⟩
    · obtain rfl : k = l.length := by omega
      have HQ := Lib.hid (HE.out.symm.trans (chk_end hq.out))
      have HC := Lib.hid hC
      clear hq hC
      go_wp2
      rw [Exit.noGoto_ret]
      go_ret2
      exact ⟨by obtain ⟨rfl, rfl⟩ := Prod.mk.inj HQ.out; rfl, by rw [HN.out]; exact HC.out.hB⟩
end Go.Proofs.Ythfiodjhjhpiaaa
