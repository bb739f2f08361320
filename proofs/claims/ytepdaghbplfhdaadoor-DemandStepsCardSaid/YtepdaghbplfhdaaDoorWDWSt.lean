/- DemandSteps: the walk. -/
import Derived.Test.YtepdaghbplfhdaaDoorG8
import Derived.Test.YtepdaghbplfhdaaDoorG7
namespace Go.Proofs.YtepdaghbplfhdaaDoor
open Go.RowKit Go.Shelf
set_option linter.unusedVariables false
set_option linter.unusedSimpArgs false
attribute [local go_sem] Oper.semAt_some
/-- Ahead of the loops. -/
structure SwA (w : World) (x0 x1 x2 : Int) (V : World) : Prop where
  q : Q3 w.heap.size x0 x1 x2 V
  r : Boxed V (w.heap.size + 1) 4 (.bool false)
  b : Below w.heap.size w V
theorem SwA.later {w V V' : World} {x0 x1 x2 : Int} (h : SwA w x0 x1 x2 V) (hb : Below V.heap.size V V') : SwA w x0 x1 x2 V' := ⟨h.q.step hb, boxed_later2 h.r hb, h.b.trans (hb.mono h.b.size)⟩
theorem SwA.new (w : World) (x0 x1 x2 : Int) : SwA w x0 x1 x2 ((w.alloc (.cells #[.int .i64 x0, .int .i64 x1, .int .i64 x2] 34)).alloc (.cells #[.bool false] 4)) := by
  refine ⟨(Q3.new w _ x0 x1 x2).step (lt_alloc _ _), ?_, ((Below.refl _ _).alloc (Nat.le_refl _) _).alloc (by simp) _⟩
  have := Boxed.new (w.alloc (.cells #[.int .i64 x0, .int .i64 x1, .int .i64 x2] 34)) 4 (.bool false)
  rwa [World.size_alloc] at this
/-- What is wanted, in memory. -/
structure WaR (A : Option Addr) (n c : Nat) (ns : List Int) (N0 : Nat) (V : World) : Prop where
  len : ns.length = n
  le : n ≤ c
  mx : c ≤ 9223372036854775807
  at_ : ∀ k z, ns[k]? = some z → ∃ g, A = some ⟨g, 0, none⟩ ∧ g < N0 ∧ V.cell? ⟨g, k, none⟩ = some (.int .u64 z)
theorem WaR.of {B : Nat} {V : World} {v : Value} {ns : List Int} (h : OwnU B V v ns) : ∃ A c, v = .slice A ns.length c ∧ WaR A ns.length c ns V.heap.size V := by
  obtain ⟨A, c, hv, hl, hm⟩ := own_len h
  refine ⟨A, c, hv, rfl, hl, by unfold maxLen at hm; omega, fun k z hz => ?_⟩
  rcases h.2 with ⟨hv2, h0⟩ | ⟨g, cap, cur, hv2, hb, hh, _⟩
  · have := (List.getElem?_eq_some_iff.1 hz).1; omega
  · refine ⟨g, ?_, (Array.getElem?_eq_some_iff.1 hh).1, ?_⟩
    · rw [hv] at hv2; simp only [Value.slice.injEq] at hv2; exact hv2.1
    · have hc := h.cells (g := g) (by rw [hv2]; rfl)
      have := hc k (.int .u64 z) (by simp [cellsU, hz])
      rw [add_none, Nat.zero_add] at this
      exact this
theorem WaR.keep {A : Option Addr} {n c : Nat} {ns : List Int} {N0 : Nat} {V V' : World} (h : WaR A n c ns N0 V) (hk : KeepG (fun k _ => k < N0) V V') : WaR A n c ns N0 V' :=
  ⟨h.len, h.le, h.mx, fun k z hz => by
    obtain ⟨g, e, hg, hc⟩ := h.at_ k z hz
    exact ⟨g, e, hg, hk.cell hc (fun _ => hg)⟩⟩
theorem WaR.up {A : Option Addr} {n c : Nat} {ns : List Int} {N0 N1 : Nat} {V : World} (h : WaR A n c ns N0 V) (hN : N0 ≤ N1) : WaR A n c ns N1 V := ⟨h.len, h.le, h.mx, fun k z hz => by
  obtain ⟨g, e, hg, hc⟩ := h.at_ k z hz
  exact ⟨g, e, by omega, hc⟩⟩
/-- While the loops go: all that lies below N0. -/
structure SwF (w : World) (x2 : Int) (A9 : Option Addr) (n9 c9 b9 : Nat) (ns : List Int) (A : Option Addr) (cap : Nat) (al : List Ts) (m : Int) (ba bm N0 : Nat) (V : World) : Prop where
  q : V.cell? ⟨w.heap.size, 2, none⟩ = some (.int .i64 x2)
  r : Boxed V (w.heap.size + 1) 4 (.bool false)
  b : Below w.heap.size w V
  x9 : Boxed V b9 35 (.slice A9 n9 c9)
  wa : WaR A9 n9 c9 ns N0 V
  s : StS V A cap al m ba bm
  lt : w.heap.size + 1 < N0 ∧ b9 < N0 ∧ ba < N0 ∧ bm < N0
  sa : al ≠ [] → ∀ b o, A = some ⟨b, o, none⟩ → b < N0
section
variable {w : World} {x2 : Int} {A9 : Option Addr} {n9 c9 b9 : Nat} {ns : List Int} {A : Option Addr} {cap : Nat} {al : List Ts} {m : Int} {ba bm N0 : Nat} {V V' : World}
theorem SwF.kp (h : SwF w x2 A9 n9 c9 b9 ns A cap al m ba bm N0 V) (N1 : Nat) (hN : N0 ≤ N1) : StK (fun k _ => k < N1) A al ba bm :=
  ⟨fun _ => by have := h.lt; omega, fun _ => by have := h.lt; omega, fun hne b o e _ => by have := h.sa hne b o e; omega⟩
theorem SwF.keep (h : SwF w x2 A9 n9 c9 b9 ns A cap al m ba bm N0 V) (hk : KeepG (fun k _ => k < N0) V V') (hb : Below w.heap.size w V') : SwF w x2 A9 n9 c9 b9 ns A cap al m ba bm N0 V' :=
  ⟨hk.cell h.q (fun _ => by have := h.lt; show w.heap.size < N0; omega), hk.boxed h.r h.lt.1, hb, hk.boxed h.x9 h.lt.2.1, h.wa.keep hk, h.s.keep (h.kp N0 (Nat.le_refl _)) hk, h.lt, h.sa⟩
theorem SwF.later (h : SwF w x2 A9 n9 c9 b9 ns A cap al m ba bm N0 V) (hb : Below V.heap.size V V') : SwF w x2 A9 n9 c9 b9 ns A cap al m ba bm N0 V' := h.keep (KeepG.below hb) (h.b.trans (hb.mono h.b.size))
theorem SwF.own {row : Option Nat} {D : Nat} (h : SwF w x2 A9 n9 c9 b9 ns A cap al m ba bm N0 V) (hg : V.grownBy V' row) (hr : ∀ r, row = some r → D ≤ r ∧ ∃ o : Obj, V.heap[r]? = some o ∧ o.isCells = false) (hB : w.heap.size ≤ D) : SwF w x2 A9 n9 c9 b9 ns A cap al m ba bm N0 V' :=
  h.keep ((keepG_grown hg (fun r e => (hr r e).2)).weak (fun _ _ _ _ _ _ => trivial)) (h.b.grown hg h.b.size (fun k e => by have := (hr k e).1; omega))
theorem keep_set {N0 B : Nat} {V : World} (u : Value) (h : N0 ≤ B) : KeepG (fun k _ => k < N0) V (V.setCell ⟨B, 0, none⟩ u) := KeepG.setCell u fun cs T fr _ hp => by
  have : B < N0 := hp
  omega
theorem SwF.set (h : SwF w x2 A9 n9 c9 b9 ns A cap al m ba bm N0 V) {B : Nat} (u : Value) (hB : N0 ≤ B) : SwF w x2 A9 n9 c9 b9 ns A cap al m ba bm N0 (V.setCell ⟨B, 0, none⟩ u) :=
  h.keep (keep_set u hB) (h.b.setCell (p := ⟨B, 0, none⟩) (by have := h.lt; show w.heap.size ≤ B; omega) _)
end
/-- In the second loop. -/
structure SwG (w : World) (x2 : Int) (A9 : Option Addr) (n9 c9 b9 : Nat) (ns : List Int) (A : Option Addr) (cap : Nat) (al : List Ts) (m : Int) (ba bm N0 N1 D : Nat) (kk g : Int) (V : World) : Prop where
  f : SwF w x2 A9 n9 c9 b9 ns A cap al m ba bm N0 V
  bn : Boxed V N0 3 (.int .i64 (ns.length : Int))
  bk : Boxed V N1 3 (.int .i64 kk)
  bg : Boxed V (N1 + 1) 3 (.int .i64 g)
  d : V.heap[D]? = some (.deferred (some []))
  lt : N0 < N1
  dl : D < N1
  dw : w.heap.size ≤ D
  le : g ≤ kk
section
variable {w : World} {x2 : Int} {A9 : Option Addr} {n9 c9 b9 : Nat} {ns : List Int} {A : Option Addr} {cap : Nat} {al : List Ts} {m : Int} {ba bm N0 N1 D : Nat} {kk g : Int} {V V' : World}
theorem SwG.own {row : Option Nat} {E : Nat} (h : SwG w x2 A9 n9 c9 b9 ns A cap al m ba bm N0 N1 D kk g V) (hg : V.grownBy V' row) (hr : ∀ r, row = some r → E ≤ r ∧ ∃ o : Obj, V.heap[r]? = some o ∧ o.isCells = false) (hE : N1 + 2 ≤ E) : SwG w x2 A9 n9 c9 b9 ns A cap al m ba bm N0 N1 D kk g V' :=
  ⟨h.f.own hg hr (by have := h.dl; have := h.dw; omega), boxed_kept h.bn hg (fun r e => (hr r e).2), boxed_kept h.bk hg (fun r e => (hr r e).2), boxed_kept h.bg hg (fun r e => (hr r e).2),
    (hg.block D (Array.getElem?_eq_some_iff.1 h.d).1 (fun e => by have := (hr D e.symm).1; have := h.dl; omega)).trans h.d, h.lt, h.dl, h.dw, h.le⟩
theorem SwG.set (h : SwG w x2 A9 n9 c9 b9 ns A cap al m ba bm N0 N1 D kk g V) (u : Int) (hu : u ≤ kk) : SwG w x2 A9 n9 c9 b9 ns A cap al m ba bm N0 N1 D kk u (V.setCell ⟨N1 + 1, 0, none⟩ (.int .i64 u)) :=
  ⟨h.f.set _ (by have := h.lt; omega), Boxed.other h.bn (by have := h.lt; omega) _, Boxed.other h.bk (by omega) _, Boxed.set _ h.bg, (KeepsOthers.setCell _ _ _).same D _ h.d rfl, h.lt, h.dl, h.dw, hu⟩
end
def OkW (w : World) (e : Ending) (w' : World) : Prop := e = .returned (.bool true) ∧ Below w.heap.size w w'
set_option maxRecDepth 100000 in
set_option maxHeartbeats 8000000 in
theorem dst_walk (A0 : Option Addr) (cap0 : Nat) (l0 : List Sp) (x0 x1 x2 : Int) (w : World) (hT : Tab w) (h0 : SRow w A0 cap0 l0) (i0 : in64 x0) (i1 : in64 x1) (i2 : in64 x2) :
    Calls Tryd.prog 4 #[.slice A0 l0.length cap0, .agg #[.int .i64 x0, .int .i64 x1, .int .i64 x2]] w (OkW w) := by
  have KA := Lib.hid awake_any
  have KS := Lib.hid (fun W (h : Below w.heap.size w W) => set_any 6 (by omega) (by omega) A0 cap0 l0 x0 W (h0.later h) i0)
  have HTB := Lib.hid (fun W (h : Below w.heap.size w W) => hT.below h)
  have HI2 := Lib.hid i2
  have hfn : ∀ (fn : Fn) (a b : Array Value) (w : World), (binOp .eql 38 (.func fn a b) .nilFunc).run Tryd.prog w = .ok (.bool false) w := fun _ _ _ _ => rfl
  obtain ⟨V0, hV0, HA⟩ : ∃ V0, (w.alloc (.cells #[.int .i64 x0, .int .i64 x1, .int .i64 x2] 34)).alloc (.cells #[.bool false] 4) = V0 ∧ Hid (SwA w x0 x1 x2 V0) := ⟨_, rfl, Lib.hid (SwA.new w x0 x1 x2)⟩
  have HV0 := Lib.hid hV0
  generalize l0.length = m0 at *
  clear h0 hT hV0
  refine (callsIn_wide (n := 5)).1 ?_
  refine callsIn_of_wp_marks Tryd.func4 rfl trivial ?_ rfl
  simp only [Tryd.ntmps4, List.size_toArray, List.length_cons, List.length_nil, Nat.reduceAdd, Nat.reduceSub, Array.replicate_succ, Array.replicate_zero, List.push_toArray, List.append_toArray, List.nil_append, List.cons_append]
  refine wpIn_wide.2 ?_
  go_upto_region 1 with (fail)
  rw [HV0.out]
  clear HV0
  go_upto_region 2 with (go_at_call 9; (with_reducible refine (KA.out _ (HTB.out _ HA.out.b)).mono ?_); rintro e v0 ⟨rfl, h⟩; have HA := Lib.hid (HA.out.later h); clear h)
  obtain ⟨-, q0, q1, q2⟩ := HA.out.q
  go_upto_region 3 with (go_at_call 10; (with_reducible refine (KS.out _ HA.out.b).mono ?_); rintro e v ⟨A, cap, ts, rfl, hR, hn1, hn6, hd, hsf, hp, h⟩; have HR := Lib.hid hR; have HST := Lib.hid (St.mk hn1 (by omega) hd hsf hp); have HA := Lib.hid (HA.out.later h); clear h hR hsf hd hp)
  clear q0 q1 q2
  obtain ⟨-, q0, q1, q2⟩ := HA.out.q
  have hle := HR.out.le
  have hmx := HR.out.mx
  obtain ⟨r0, r1⟩ := restI_bd x0 ((ts.length : Int) + 2) (by omega) (by omega)
  obtain ⟨s0, s1⟩ := restI_bd x1 81 (by omega) (by omega)
  have KR := Lib.hid (fun W => rest_any x0 ((ts.length : Int) + 2) W i0 (by omega) (by omega))
  have KR2 := Lib.hid (fun W => rest_any x1 81 W i1 (by omega) (by omega))
  generalize restI x0 ((ts.length : Int) + 2) = r at *
  generalize restI x1 81 = s at *
  obtain ⟨mm, rfl⟩ : ∃ mm : Nat, s = (mm : Int) := ⟨s.toNat, by omega⟩
  have ii : in64 (r - 1) := ⟨by omega, by omega⟩
  have hw1 : wrap64 (r - 1) = r - 1 := IntWalk.wrap64_in _ (by omega)
  have hw1' : IntKind.i64.wrap (r - 1) = r - 1 := by rw [IntKind.wrap_i64]; omega
  have hw2 : wrap64 ((ts.length : Int) + 2) = (ts.length : Int) + 2 := IntWalk.wrap64_in _ (by omega)
  have hw2' : IntKind.i64.wrap ((ts.length : Int) + 2) = (ts.length : Int) + 2 := by rw [IntKind.wrap_i64]; omega
  have hw3 : IntKind.u64.wrap (mm : Int) = (mm : Int) := by rw [IntKind.wrap_u64]; omega
  have KRF := Lib.hid (fun W (h : Below v.heap.size v W) => rsteps_any A cap ts (r - 1) mm W (HR.out.later h) ii (by omega))
  have KST := Lib.hid (fun W (h : Below v.heap.size v W) (ht : Tab W) => steps_any A cap ts (r - 1) (mm : Int) W (HR.out.later h) ii ht)
  have HSM := Lib.hid (steps_same HST.out (r - 1) mm (by omega))
  have HRL := Lib.hid (ahead_rel (l := ts) (i := r - 1))
  have HLN := Lib.hid (stpS_len ts (r - 1) mm)
  generalize stpS ts (r - 1) mm = ns at *
  obtain ⟨al, hal⟩ : ∃ al, aheadS ts (r - 1) = al := ⟨_, rfl⟩
  rw [hal] at HSM HRL
  have HAL := Lib.hid hal
  clear hal
  generalize ts.length = nt at *
  have HMM := Lib.hid (show mm ≤ 80 by omega)
  clear i0 i1 i2 KS KA hn1 hn6 HST
  go_upto_region 5 with (first
    | (go_at_call 11; (with_reducible refine (KR.out _).mono ?_); rintro e v1 ⟨rfl, rfl⟩)
    | (go_at_call 11; (with_reducible refine (KR2.out _).mono ?_); rintro e v2 ⟨rfl, rfl⟩)
    | fail)
  clear q0 q1 q2
  go_upto_region 6 with (first
    | (go_at_call 14; (with_reducible refine (KRF.out _ (Below.refl _ _)).mono ?_); rintro e v3 ⟨vv, rfl, hO, hb⟩; obtain ⟨A9, c9, rfl, hW9⟩ := WaR.of hO; have HA3 := Lib.hid (HA.out.later hb); have HB3 := Lib.hid hb; have HW9 := Lib.hid hW9; clear hO hb hW9)
    | fail)
  obtain ⟨n9, hn9⟩ : ∃ n9, ns.length = n9 := ⟨_, rfl⟩
  have HN9 := Lib.hid hn9
  rw [hn9] at HW9
  rw [hn9]
  clear hn9
  obtain ⟨V4, hV4, HA4, HB4, HW4, X4⟩ : ∃ V4, v3.alloc (.cells #[.slice A9 n9 c9] 35) = V4 ∧ Hid (SwA w x0 x1 x2 V4) ∧ Hid (Below v.heap.size v V4) ∧ Hid (WaR A9 n9 c9 ns v3.heap.size V4) ∧ Hid (Boxed V4 v3.heap.size 35 (.slice A9 n9 c9)) :=
    ⟨_, rfl, Lib.hid (HA3.out.later ((Below.refl _ _).alloc (Nat.le_refl _) _)), Lib.hid (HB3.out.alloc (Below.size HB3.out) _), Lib.hid (HW9.out.keep (KeepG.below ((Below.refl _ _).alloc (Nat.le_refl _) _))), Lib.hid (Boxed.new _ _ _)⟩
  rw [hV4]
  clear hV4 HA3 HB3 HW9 HA
  obtain ⟨b9, hb9⟩ : ∃ b9, v3.heap.size = b9 := ⟨_, rfl⟩
  rw [hb9] at HW4 X4 ⊢
  clear hb9
  go_upto_region 7 with (first
    | (go_at_call 15; (with_reducible refine (KST.out _ HB4.out (HTB.out _ HA4.out.b)).mono ?_); rintro e v5 ⟨Ap, capp, rfl, hs, hb, hne⟩; rw [HAL.out] at hs hne; have HA5 := Lib.hid (HA4.out.later hb); have HW5 := Lib.hid (HW4.out.keep (KeepG.below hb)); have X5 := Lib.hid (boxed_later2 X4.out hb); have HS5 := Lib.hid hs; have HZ5 := Lib.hid hb.size; have HNE := Lib.hid hne; clear hs hb hne)
    | fail)
  have HF5 : Hid (SwF w x2 A9 n9 c9 b9 ns Ap capp al (mm : Int) (V4.heap.size + 1) V4.heap.size v5.heap.size v5) := Lib.hid (by
    have h1 := HZ5.out
    have h2 := HA4.out.b.size
    have h3 := HA4.out.r.lt
    have h4 := HS5.out.bx.lt
    have h5 := X4.out.lt
    exact ⟨HA5.out.q.2.2.2, HA5.out.r, HA5.out.b, X5.out, HW5.out.up (by omega), HS5.out, ⟨by omega, by omega, h4, by omega⟩, fun hn b o e => (HNE.out hn b o e).2⟩)
  clear HA4 HA5 HW4 HW5 X4 X5 HS5 HNE HB4 KRF KST KR KR2 HR ii r0 r1 s0 s1 hw1 hw1' hw2 hw2' hw3
  obtain ⟨ba, hba⟩ : ∃ ba, V4.heap.size + 1 = ba := ⟨_, rfl⟩
  obtain ⟨bm, hbm⟩ : ∃ bm, V4.heap.size = bm := ⟨_, rfl⟩
  rw [hba, hbm] at HF5
  try rw [hba]
  try rw [hbm]
  clear hba hbm HZ5
  go_upto_region 10 with (fail)
  obtain ⟨V6, hV6, HF6, X6⟩ : ∃ V6, v5.alloc (.cells #[.int .i64 0] 3) = V6 ∧ Hid (SwF w x2 A9 n9 c9 b9 ns Ap capp al (mm : Int) ba bm v5.heap.size V6) ∧ Hid (Boxed V6 v5.heap.size 3 (.int .i64 (0 : Int))) :=
    ⟨_, rfl, Lib.hid (HF5.out.later ((Below.refl _ _).alloc (Nat.le_refl _) _)), Lib.hid (Boxed.new _ _ _)⟩
  rw [hV6]
  have hv6 : V6.heap.size = v5.heap.size + 1 := by rw [← hV6]; simp
  clear hV6 HF5
  obtain ⟨N0, hN0⟩ : ∃ N0, v5.heap.size = N0 := ⟨_, rfl⟩
  rw [hN0] at HF6 X6 hv6 ⊢
  clear hN0
  go_wp2
  have hws : w.heap.size ≤ N0 := by have := HF6.out.lt; omega
  have hpl : ∀ pre x r, ns = pre ++ x :: r → pre.length < n9 := fun pre x r e => by rw [← HN9.out, e]; simp
  have HPL := Lib.hid hpl
  have hat : ∀ (pre : List Int) (x : Int) (r : List Int), ns = pre ++ x :: r → ns[pre.length]? = some x := fun pre x r e => by rw [e]; simp
  have HAT := Lib.hid hat
  have hn80 : n9 ≤ 80 := by have := HLN.out; have := HMM.out; have := HN9.out; omega
  have HN80 := Lib.hid hn80
  have SQ := steps1_seq (5 - 1) (by omega) Ap capp al (mm : Int) ba bm (fun k _ => k < N0) V6 HF6.out.s (HF6.out.kp N0 (Nat.le_refl _)) HRL.out (by omega) (by have := HMM.out; omega)
  rw [HSM.out] at SQ
  have SQ := Lib.hid SQ
  have HWS := Lib.hid hws
  have HV6 := Lib.hid hv6
  clear hpl hat hn80 hws hv6 HLN
  refine (wpIn_wide (n := 5)).1 ?_
  refine wpIn_named fun fr hfr => ?_
  refine rangeG (vals := numU) (gf := 27) (lb := #[.pointer (some ⟨ba, 0, none⟩), .pointer (some ⟨bm, 0, none⟩)]) (by rw [hfr]; rfl) (enters_of Tryd.func27 (by kernel_rfl) rfl)
    SQ.out (Below.refl _ _) (fun x => rfl)
    (fun pre V => SwF w x2 A9 n9 c9 b9 ns Ap capp al (mm : Int) ba bm N0 V ∧ Boxed V N0 3 (.int .i64 (pre.length : Int))) (fun _ _ _ => False)
    (fun pre X Y row h hg hr => ⟨h.1.own hg hr (by have := HV6.out; have := HWS.out; omega), boxed_kept h.2 hg (fun r e => (hr r e).2)⟩) (fun c s X Y row h _ _ => h) ⟨HF6.out, X6.out⟩
    (fun x a' V => a' = { tmps := (fr.tmps.setIfInBounds 42 (.int .u64 x)).setIfInBounds 12 (.int .u64 x), defers := [] })
    (fun x a' _ X Y row hs hg hr => hs)
    ?assign ?body ?done ?stop
  case assign =>
    intro l2 pre x V K hi hK
    subst hfr
    clear SQ
    gi_wp2
    exact hK _ _ (KeepsFrom.refl _ _) (KeepG.refl _ _) hi rfl
  case body =>
    rintro l2 pre x a' V ⟨hf, hx⟩ rfl ⟨r, hr⟩
    have hlt := HPL.out pre x r hr
    obtain ⟨g, hg1, hg2, hg3⟩ := hf.wa.at_ _ _ (HAT.out pre x r hr)
    subst hg1
    have cx := hx.cell
    have fx := hx.frozen
    have c9 := hf.x9.cell
    have n80 := HN80.out
    have hle := hf.wa.le
    have hmx := hf.wa.mx
    have g0 : decide ((pre.length : Int) ≥ (n9 : Int)) = false := decide_eq_false (by omega)
    have g0' : decide ((n9 : Int) ≤ (pre.length : Int)) = false := decide_eq_false (by omega)
    have g1 : (0 : Int) ≤ (pre.length : Int) := by omega
    have g2 : (pre.length : Int) < (n9 : Int) := by omega
    have g3 : (x != x) = false := by simp
    have hw1 : wrap64 ((pre.length : Int) + 1) = (pre.length : Int) + 1 := IntWalk.wrap64_in _ (by omega)
    have hw1' : IntKind.i64.wrap ((pre.length : Int) + 1) = (pre.length : Int) + 1 := by rw [IntKind.wrap_i64]; omega
    have HK := Lib.hid (keep_set (N0 := N0) (B := N0) (V := V) (.int .i64 ((pre.length : Int) + 1)) (Nat.le_refl _))
    have HS := Lib.hid (hf.set (B := N0) (.int .i64 ((pre.length : Int) + 1)) (Nat.le_refl _))
    have HX := Lib.hid (hx.set (.int .i64 ((pre.length : Int) + 1)))
    have HLE : Hid ((((pre ++ [x]).length : Nat) : Int) = (pre.length : Int) + 1) := Lib.hid (by simp)
    subst hfr
    clear SQ hf hx hr hlt HPL HAT
    dsimp only [List.setIfInBounds_toArray, List.set_cons_succ, List.set_cons_zero]
    gi_wp2
    refine ⟨(KeepsOthers.setCell _ _ _).from _, HK.out, HS.out, ?_⟩
    rw [HLE.out]
    exact HX.out
  case done =>
    rintro D V hD ⟨hf, hx⟩ hK
    have q2 := hf.q
    obtain ⟨k0, k1⟩ := restI_bd x2 20 (by omega) (by omega)
    have KR3 := Lib.hid (fun W => rest_any x2 20 W HI2.out (by omega) (by omega))
    generalize restI x2 20 = kk at *
    have HK := Lib.hid hK
    have HKK := Lib.hid (And.intro k0 k1)
    have HD := Lib.hid (show w.heap.size ≤ D by have := HV6.out; have := HWS.out; omega)
    have HDV := Lib.hid (show D < V.heap.size from (Array.getElem?_eq_some_iff.1 hK).1)
    have hN0 := hx.lt
    obtain ⟨V8, hV8, HF8, X8, K8, G8, D8, HS8⟩ : ∃ V8, (V.alloc (.cells #[.int .i64 kk] 3)).alloc (.cells #[.int .i64 0] 3) = V8 ∧ Hid (SwF w x2 A9 n9 c9 b9 ns Ap capp al (mm : Int) ba bm N0 V8) ∧ Hid (Boxed V8 N0 3 (.int .i64 (ns.length : Int))) ∧ Hid (Boxed V8 V.heap.size 3 (.int .i64 kk)) ∧ Hid (Boxed V8 (V.heap.size + 1) 3 (.int .i64 (0 : Int))) ∧ Hid (V8.heap[D]? = some (.deferred (some []))) ∧ Hid (V8.heap.size = V.heap.size + 2) := by
      have hb : Below V.heap.size V ((V.alloc (.cells #[.int .i64 kk] 3)).alloc (.cells #[.int .i64 0] 3)) := ((Below.refl _ _).alloc (Nat.le_refl _) _).alloc (by simp) _
      refine ⟨_, rfl, Lib.hid (hf.later hb), Lib.hid (boxed_later2 hx hb), Lib.hid (Boxed.alloc (Boxed.new _ _ _) _), Lib.hid ?_, Lib.hid ((hb.block D HDV.out).trans hK), Lib.hid (by simp)⟩
      have := Boxed.new (V.alloc (.cells #[.int .i64 kk] 3)) 3 (.int .i64 0)
      rwa [World.size_alloc] at this
    have HV8 := Lib.hid hV8
    subst hfr
    clear SQ hf hx hK k0 k1 hV8 hD HF6 X6
    go_upto_region 17 with (go_at_call 11; (with_reducible refine (KR3.out _).mono ?_); rintro e v1 ⟨rfl, rfl⟩)
    rw [HV8.out]
    obtain ⟨N1, hN1⟩ : ∃ N1, V.heap.size = N1 := ⟨_, rfl⟩
    rw [hN1] at K8 G8 HS8 HDV hN0 ⊢
    clear HV8 hN1 KR3 q2
    go_wp2
    have SQ2 := steps1_seq (5 - 1) (by omega) Ap capp al (mm : Int) ba bm (fun k _ => k < N1 + 1) V8 HF8.out.s (HF8.out.kp (N1 + 1) (by omega)) HRL.out (by omega) (by have := HMM.out; omega)
    rw [HSM.out] at SQ2
    have SQ2 := Lib.hid SQ2
    have HN0 := Lib.hid hN0
    clear hN0
    refine (wpIn_wide (n := 5)).1 ?_
    refine wpIn_named fun fr hfr => ?_
    refine rangeG (vals := numU) (gf := 27) (lb := #[.pointer (some ⟨ba, 0, none⟩), .pointer (some ⟨bm, 0, none⟩)]) (by rw [hfr]; rfl) (enters_of Tryd.func27 (by kernel_rfl) rfl)
      SQ2.out (Below.refl _ _) (fun x => rfl)
      (fun pre V => SwG w x2 A9 n9 c9 b9 ns Ap capp al (mm : Int) ba bm N0 N1 D kk (pre.length : Int) V) (fun c pre V => c = .exit 2 ∧ (pre.length : Int) = kk + 1 ∧ SwG w x2 A9 n9 c9 b9 ns Ap capp al (mm : Int) ba bm N0 N1 D kk kk V)
      (fun pre X Y row h hg hr => h.own hg hr (by have := HS8.out; omega)) (fun c s X Y row h hg hr => ⟨h.1, h.2.1, h.2.2.own hg hr (by have := HS8.out; omega)⟩) ⟨HF8.out, X8.out, K8.out, G8.out, D8.out, HN0.out, HDV.out, HD.out, HKK.out.1⟩
      (fun x a' V => a' = { tmps := fr.tmps.setIfInBounds 61 (.int .u64 x), defers := [] })
      (fun x a' _ X Y row hs hg hr => hs)
      ?assign2 ?body2 ?done2 ?stop2
    case assign2 =>
      intro l2 pre x V K hi hK
      subst hfr
      clear SQ2
      gi_wp2
      exact hK _ _ (KeepsFrom.refl _ _) (KeepG.refl _ _) hi rfl
    case body2 =>
      rintro l2 pre x a' V hg rfl ⟨r, hr⟩
      have cg := hg.bg.cell
      have fg := hg.bg.frozen
      have ck := hg.bk.cell
      have hk1 := HKK.out.2
      have hgl := hg.le
      by_cases he : (pre.length : Int) = kk
      · have t1 : ((pre.length : Int) == kk) = true := by simpa using he
        have HG := Lib.hid (show SwG w x2 A9 n9 c9 b9 ns Ap capp al (mm : Int) ba bm N0 N1 D kk kk V from by have := hg; rw [he] at this; exact this)
        have HLE : Hid ((((pre ++ [x]).length : Nat) : Int) = kk + 1) := Lib.hid (by simp; omega)
        subst hfr
        clear SQ2 hg he hr
        dsimp only [List.setIfInBounds_toArray, List.set_cons_succ, List.set_cons_zero]
        gi_wp2
        exact ⟨KeepsFrom.refl _ _, rfl, HLE.out, HG.out⟩
      · have t1 : ((pre.length : Int) == kk) = false := by simpa using he
        have hw1 : wrap64 ((pre.length : Int) + 1) = (pre.length : Int) + 1 := IntWalk.wrap64_in _ (by omega)
        have hw1' : IntKind.i64.wrap ((pre.length : Int) + 1) = (pre.length : Int) + 1 := by rw [IntKind.wrap_i64]; omega
        have HG := Lib.hid (hg.set ((pre.length : Int) + 1) (by omega))
        have HK := Lib.hid (keep_set (N0 := N1 + 1) (B := N1 + 1) (V := V) (.int .i64 ((pre.length : Int) + 1)) (Nat.le_refl _))
        have HLE : Hid ((((pre ++ [x]).length : Nat) : Int) = (pre.length : Int) + 1) := Lib.hid (by simp)
        subst hfr
        clear SQ2 hg he hr
        dsimp only [List.setIfInBounds_toArray, List.set_cons_succ, List.set_cons_zero]
        gi_wp2
        refine ⟨(KeepsOthers.setCell _ _ _).from _, HK.out, ?_⟩
        show SwG w x2 A9 n9 c9 b9 ns Ap capp al (mm : Int) ba bm N0 N1 D kk (((pre ++ [x]).length : Nat) : Int) _
        rw [HLE.out]
        exact HG.out
    case done2 =>
      rintro D2 V2 hD2 hg hK2
      have hmin : (ns.length : Int) = min kk (ns.length : Int) := by have := hg.le; omega
      have c4 := hg.f.r.cell
      have f4 := hg.f.r.frozen
      have c9' := hg.f.x9.cell
      have cn := hg.bn.cell
      have ck := hg.bk.cell
      have cg := hg.bg.cell
      rw [HN9.out] at cn cg hmin
      have t1 : ((n9 : Int) == (n9 : Int)) = true := by simp
      have t2 : ((n9 : Int) == min kk (n9 : Int)) = true := by simpa using hmin
      have ZR := Lib.hid hg.f.r
      have ZB := Lib.hid hg.f.b
      have ZK := Lib.hid hg.d
      have ZK2 := Lib.hid hK2
      have ZD : Hid (w.heap.size ≤ D ∧ w.heap.size ≤ D2 ∧ D < D2) := Lib.hid (by have := hg.dl; have := hg.dw; have := HS8.out; exact ⟨hg.dw, by omega, by omega⟩)
      subst hfr
      clear SQ2 hg hK2 hmin hD2 X8 K8 G8 D8 HF8 HPL HAT
      go_wp2
      have k1 := (KeepsOthers.setCell V2 ⟨w.heap.size + 1, 0, none⟩ (.bool true)).same D _ ZK.out rfl
      have k2 := (KeepsOthers.setCell V2 ⟨w.heap.size + 1, 0, none⟩ (.bool true)).same D2 _ ZK2.out rfl
      have hB2 := ZB.out.setCell (p := ⟨w.heap.size + 1, 0, none⟩) (by show w.heap.size ≤ w.heap.size + 1; omega) (.bool true)
      have h4 := ZR.out.set (.bool true)
      have hd := ZD.out
      refine ⟨by simp, .inl ⟨_, _, rfl, run_takeDeferred k2, ?_⟩⟩
      have k3 := (World.putObj_heap_other (o := .deferred none) (show D ≠ D2 by omega)).trans k1
      refine ⟨by simp, .inl ⟨_, _, rfl, run_takeDeferred k3, ?_⟩⟩
      have hc1 := (boxed_kept h4 (grownBy_putObj' _ D2 (.deferred none)) (fun r e => by cases e; exact ⟨_, k2, rfl⟩))
      have hc := (boxed_kept hc1 (grownBy_putObj' _ D (.deferred none)) (fun r e => by cases e; exact ⟨_, k3, rfl⟩)).cell
      refine ⟨.bool true, ?_, rfl, ?_⟩
      · simp [results, Tryd.f4, go_sem, hc]
      · exact (hB2.trans (belowK_b (w := w) (Nat.le_refl _) _ D2 _ _ (by omega) k2 rfl rfl)).trans (belowK_b (w := w) (Nat.le_refl _) _ D _ _ (by omega) k3 rfl rfl)
    case stop2 =>
      rintro D2 c pre x V2 hD2 ⟨r, hr⟩ ⟨rfl, hle, hg⟩ hK2
      have hmin : kk = min kk (ns.length : Int) := by
        have : (pre.length : Int) < (ns.length : Int) := by rw [hr]; simp; omega
        simp at hle
        omega
      have c4 := hg.f.r.cell
      have f4 := hg.f.r.frozen
      have c9' := hg.f.x9.cell
      have cn := hg.bn.cell
      have ck := hg.bk.cell
      have cg := hg.bg.cell
      rw [HN9.out] at cn hmin
      have t1 : ((n9 : Int) == (n9 : Int)) = true := by simp
      have t2 : (kk == min kk (n9 : Int)) = true := by simpa using hmin
      have ZR := Lib.hid hg.f.r
      have ZB := Lib.hid hg.f.b
      have ZK := Lib.hid hg.d
      have ZK2 := Lib.hid hK2
      have ZD : Hid (w.heap.size ≤ D ∧ w.heap.size ≤ D2 ∧ D < D2) := Lib.hid (by have := hg.dl; have := hg.dw; have := HS8.out; exact ⟨hg.dw, by omega, by omega⟩)
      subst hfr
      clear SQ2 hg hK2 hmin hD2 X8 K8 G8 D8 HF8 HPL HAT
      refine wpIn_wide.2 ?_
      go_wp2
      have k1 := (KeepsOthers.setCell V2 ⟨w.heap.size + 1, 0, none⟩ (.bool true)).same D _ ZK.out rfl
      have k2 := (KeepsOthers.setCell V2 ⟨w.heap.size + 1, 0, none⟩ (.bool true)).same D2 _ ZK2.out rfl
      have hB2 := ZB.out.setCell (p := ⟨w.heap.size + 1, 0, none⟩) (by show w.heap.size ≤ w.heap.size + 1; omega) (.bool true)
      have h4 := ZR.out.set (.bool true)
      have hd := ZD.out
      refine ⟨by simp, .inl ⟨_, _, rfl, run_takeDeferred k2, ?_⟩⟩
      have k3 := (World.putObj_heap_other (o := .deferred none) (show D ≠ D2 by omega)).trans k1
      refine ⟨by simp, .inl ⟨_, _, rfl, run_takeDeferred k3, ?_⟩⟩
      have hc1 := (boxed_kept h4 (grownBy_putObj' _ D2 (.deferred none)) (fun r e => by cases e; exact ⟨_, k2, rfl⟩))
      have hc := (boxed_kept hc1 (grownBy_putObj' _ D (.deferred none)) (fun r e => by cases e; exact ⟨_, k3, rfl⟩)).cell
      refine ⟨.bool true, ?_, rfl, ?_⟩
      · simp [results, Tryd.f4, go_sem, hc]
      · exact (hB2.trans (belowK_b (w := w) (Nat.le_refl _) _ D2 _ _ (by omega) k2 rfl rfl)).trans (belowK_b (w := w) (Nat.le_refl _) _ D _ _ (by omega) k3 rfl rfl)
  case stop =>
    rintro D c pre x V hD hr h hK
    exact h.elim
end Go.Proofs.YtepdaghbplfhdaaDoor
