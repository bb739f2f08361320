/- Sums: the document's own. -/
import Derived.Test.YtghijgpelkjohaaLSum
import Derived.Deep.CutRange
import Derived.Deep.CutBlock
import Derived.Deep.RegionHeld3
import Derived.Deep.RegionLaw
namespace Go.Proofs.Ytghijgpelkjohaa
open Go.RowKit
set_option linter.unusedVariables false
set_option linter.unusedSimpArgs false
/-- What the document tells of a sum. -/
abbrev gotV (x : Fr) (e : Int) : Value := .agg #[.int .u64 x.n, .int .u64 x.d, .int .i64 e]
theorem infoGot : (Try.prog.info? 51).map (·.size) = some 3 := by kernel_rfl
theorem results_got {fn : Func} {p : Tmp} (h : fn.results = #[.cell p 51]) (tmps : Array Value) (w : World) (b : Nat) (x : Fr) (e : Int) (hp : tmps.getD p undef = .pointer (some ⟨b, 0, none⟩)) (hb : w.heap[b]? = some (.cells #[.int .u64 x.n, .int .u64 x.d, .int .i64 e] 51 (0, 0))) :
    (results fn tmps).run Try.prog w = .ok (gotV x e) w :=
  results_cell_row h tmps w b _ _ _ _ hp hb Try.underlying51 rfl infoGot
theorem cells_below {W w1 : World} (hb : Below W.heap.size W w1) (b o : Nat) (v : Value) (h : W.cell? ⟨b, o, none⟩ = some v) : w1.cell? ⟨b, o, none⟩ = some v := (hb.cell (p := ⟨b, o, none⟩) (World.block_lt_of_cell? W _ h)).trans h
/-- A block that holds a number, if there is one. -/
def NB (w : World) (b : Nat) (n : Int) (k : Bool) : Prop := w.heap[b]? = some (.cells #[.int .u64 n, .bool k] 56 (0, 0))
theorem NB.lt {W : World} {b : Nat} {n : Int} {k : Bool} (h : NB W b n k) : b < W.heap.size := (Array.getElem?_eq_some_iff.1 h).1
theorem NB.c0 {W : World} {b : Nat} {n : Int} {k : Bool} (h : NB W b n k) : W.cell? ⟨b, 0, none⟩ = some (.int .u64 n) := row_c h 0
theorem NB.c1 {W : World} {b : Nat} {n : Int} {k : Bool} (h : NB W b n k) : W.cell? ⟨b, 1, none⟩ = some (.bool k) := row_c h 1
theorem NB.fz {W : World} {b : Nat} {n : Int} {k : Bool} (h : NB W b n k) (i : Nat) : W.frozen? ⟨b, i, none⟩ = false := frozen_of_row W b i _ _ h
theorem NB.later {W W' : World} {b : Nat} {n : Int} {k : Bool} (h : NB W b n k) (hb : Below W.heap.size W W') : NB W' b n k := (hb.block b h.lt).trans h
theorem NB.new (w : World) (n : Int) (k : Bool) : NB (w.alloc (.cells #[.int .u64 n, .bool k] 56)) w.heap.size n k := heap_alloc_new w _
theorem NB.set {W : World} {b : Nat} {n : Int} {k : Bool} (h : NB W b n k) (n' : Int) (k' : Bool) : NB ((W.setCell ⟨b, 0, none⟩ (.int .u64 n')).setCell ⟨b, 1, none⟩ (.bool k')) b n' k' :=
  heap_setCell_same _ _ 1 _ _ _ (heap_setCell_same _ _ 0 _ _ _ h)
/-- What add holds of memory. -/
structure RA (N : Nat) (w0 : World) (x y : Fr) (W : World) : Prop where
  x : FB W N x
  y : FB W (N + 1) y
  g : W.heap[N + 2]? = some (.cells #[.int .u64 0, .int .u64 0, .int .i64 0] 51 (0, 0))
  b : Below N w0 W
theorem RA.lt {N : Nat} {w0 W : World} {x y : Fr} (h : RA N w0 x y W) : N + 2 < W.heap.size := (Array.getElem?_eq_some_iff.1 h.g).1
theorem RA.later {N : Nat} {w0 W W' : World} {x y : Fr} (h : RA N w0 x y W) (hb : Below W.heap.size W W') : RA N w0 x y W' :=
  ⟨h.x.later hb, h.y.later hb, (hb.block _ h.lt).trans h.g, h.b.trans (hb.mono (by have := h.lt; omega))⟩
theorem RA.start (w : World) (x y : Fr) : ∃ W, (((w.alloc (.cells #[.int .u64 x.n, .int .u64 x.d] 32)).alloc (.cells #[.int .u64 y.n, .int .u64 y.d] 32)).alloc (.cells #[.int .u64 0, .int .u64 0, .int .i64 0] 51)) = W ∧ RA w.heap.size w x y W := by
  have h1 := FB.new w x
  have h2 := FB.new2 w (.cells #[.int .u64 x.n, .int .u64 x.d] 32) y
  have b1 : ∀ (V : World) (o : Obj), Below V.heap.size V (V.alloc o) := fun V o => (Below.refl _ _).alloc (Nat.le_refl _) _
  refine ⟨_, rfl, (h1.later (b1 _ _)).later (b1 _ _), h2.later (b1 _ _), ?_, ((b1 _ _).alloc (by simp) _).alloc (by simp; omega) _⟩
  have := heap_alloc_new ((w.alloc (.cells #[.int .u64 x.n, .int .u64 x.d] 32)).alloc (.cells #[.int .u64 y.n, .int .u64 y.d] 32)) (.cells #[.int .u64 0, .int .u64 0, .int .i64 0] 51)
  simp only [World.size_alloc, Nat.add_assoc, Nat.reduceAdd] at this
  exact this
theorem got_set {W : World} {b : Nat} {u0 u1 u2 : Value} (h : W.heap[b]? = some (.cells #[u0, u1, u2] 51 (0, 0))) (a c d : Value) : (((W.setCell ⟨b, 0, none⟩ a).setCell ⟨b, 1, none⟩ c).setCell ⟨b, 2, none⟩ d).heap[b]? = some (.cells #[a, c, d] 51 (0, 0)) :=
  heap_setCell_same _ _ 2 _ _ d (heap_setCell_same _ _ 1 _ _ c (heap_setCell_same _ _ 0 _ _ a h))
theorem below_set3 {B b : Nat} {W W' : World} (h : Below B W W') (hb : B ≤ b) (u v z : Value) : Below B W (((W'.setCell ⟨b, 0, none⟩ u).setCell ⟨b, 1, none⟩ v).setCell ⟨b, 2, none⟩ z) :=
  below_set (below_set2 h hb u v) hb 2 z
/-- The same, and some numbers. -/
structure RB (N : Nat) (w0 : World) (x y : Fr) (bs : List (Nat × Int × Bool)) (W : World) : Prop where
  a : RA N w0 x y W
  n : ∀ p ∈ bs, NB W p.1 p.2.1 p.2.2
theorem RB.later {N : Nat} {w0 W W' : World} {x y : Fr} {bs : List (Nat × Int × Bool)} (h : RB N w0 x y bs W) (hb : Below W.heap.size W W') : RB N w0 x y bs W' := ⟨h.a.later hb, fun p hp => (h.n p hp).later hb⟩
theorem boxN (W : World) (n : Int) (k : Bool) : Below W.heap.size W (W.alloc (.cells #[.int .u64 n, .bool k] 56)) := (Below.refl _ _).alloc (Nat.le_refl _) _
theorem RB.alloc {N : Nat} {w0 W W' : World} {x y : Fr} {bs : List (Nat × Int × Bool)} (h : RB N w0 x y bs W) (hb : Below W.heap.size W W') (n : Int) (k : Bool) : RB N w0 x y ((W'.heap.size, n, k) :: bs) (W'.alloc (.cells #[.int .u64 n, .bool k] 56)) := by
  refine ⟨(h.a.later hb).later (boxN _ _ _), fun p hp => ?_⟩
  rcases List.mem_cons.1 hp with rfl | hp
  · exact NB.new W' n k
  · exact ((h.n p hp).later hb).later (boxN _ _ _)
theorem RB.set {N : Nat} {w0 W W' : World} {x y : Fr} {bs : List (Nat × Int × Bool)} (h : RB N w0 x y bs W) (hb : Below W.heap.size W W') {n0 : Int} {k0 : Bool} (hq : NB W' W.heap.size n0 k0) (n : Int) (k : Bool) : RB N w0 x y ((W.heap.size, n, k) :: bs) ((W'.setCell ⟨W.heap.size, 0, none⟩ (.int .u64 n)).setCell ⟨W.heap.size, 1, none⟩ (.bool k)) := by
  have h2 := below_set2 hb (Nat.le_refl _) (.int .u64 n) (.bool k)
  refine ⟨h.a.later h2, fun p hp => ?_⟩
  rcases List.mem_cons.1 hp with rfl | hp
  · exact hq.set n k
  · exact (h.n p hp).later h2
def addR (x y : Fr) : Fr := if okF x y then plusF x y else ⟨0, 0⟩
def addE (x y : Fr) : Int := if okF x y then 0 else 17
set_option maxRecDepth 100000 in
set_option maxHeartbeats 4000000 in
theorem radd_any (x y : Fr) (hx : FrW x) (hy : FrW y) (hxp : 0 < x.d) (hyp : 0 < y.d) (w : World) :
    Calls Try.prog 40 #[frV x, frV y] w fun e w' => e = .returned (gotV (addR x y) (addE x y)) ∧ Below w.heap.size w w' := by
  have K1 := Lib.hid (fun W => refLcm_any x.d y.d hx.d.1 hx.d.2 hy.d.1 hy.d.2 W)
  have hLu := lcmN_u x.d y.d hx.d.1 hy.d.1
  have K2 := Lib.hid (fun W => refMul_any x.n (lcmN x.d y.d / x.d) hx.n.1 hx.n.2 (quo_u hLu hx.d.1).1 (quo_u hLu hx.d.1).2 W)
  have K3 := Lib.hid (fun W => refMul_any y.n (lcmN x.d y.d / y.d) hy.n.1 hy.n.2 (quo_u hLu hy.d.1).1 (quo_u hLu hy.d.1).2 W)
  have hau := mulN_u x.n (lcmN x.d y.d / x.d) hx.n.1 (quo_u hLu hx.d.1).1
  have hbu := mulN_u y.n (lcmN x.d y.d / y.d) hy.n.1 (quo_u hLu hy.d.1).1
  have K4 := Lib.hid (fun W => refAdd_any _ _ hau.1 hau.2 hbu.1 hbu.2 W)
  have hcu := addN_u _ _ hau.1 hbu.1
  have hLp : lcmB x.d y.d = true → 0 < lcmN x.d y.d := lcmN_pos hxp hyp
  have hok : okF x y = (lcmB x.d y.d && (mulB x.n (lcmN x.d y.d / x.d) && (mulB y.n (lcmN x.d y.d / y.d) && addB (mulN x.n (lcmN x.d y.d / x.d)) (mulN y.n (lcmN x.d y.d / y.d))))) := rfl
  have hpl : plusF x y = formF (addN (mulN x.n (lcmN x.d y.d / x.d)) (mulN y.n (lcmN x.d y.d / y.d))) (lcmN x.d y.d) := rfl
  have hq1 : IntKind.u64.wrap ((lcmN x.d y.d).tdiv x.d) = lcmN x.d y.d / x.d := by rw [Int.tdiv_eq_ediv_of_nonneg hLu.1, IntKind.wrap_u64]; exact Int.emod_eq_of_lt (quo_u hLu hx.d.1).1 (by have := (quo_u hLu hx.d.1).2; omega)
  have hq2 : IntKind.u64.wrap ((lcmN x.d y.d).tdiv y.d) = lcmN x.d y.d / y.d := by rw [Int.tdiv_eq_ediv_of_nonneg hLu.1, IntKind.wrap_u64]; exact Int.emod_eq_of_lt (quo_u hLu hy.d.1).1 (by have := (quo_u hLu hy.d.1).2; omega)
  have hz1 : (x.d == 0) = false := by simp; omega
  have hz2 : (y.d == 0) = false := by simp; omega
  have hnz1 : x.d ≠ 0 := by omega
  have hnz2 : y.d ≠ 0 := by omega
  obtain ⟨xn, xd⟩ := x
  obtain ⟨yn, yd⟩ := y
  simp only at *
  generalize mulB xn (lcmN xd yd / xd) = b2 at *
  generalize mulB yn (lcmN xd yd / yd) = b3 at *
  generalize mulN xn (lcmN xd yd / xd) = a2 at *
  generalize mulN yn (lcmN xd yd / yd) = a3 at *
  generalize lcmN xd yd = L at *
  generalize lcmB xd yd = b1 at *
  generalize addB a2 a3 = b4 at *
  generalize addN a2 a3 = a4 at *
  unfold addR addE
  rw [hok, hpl]
  clear hok hpl
  obtain ⟨W1, hW1, RA1⟩ := RA.start w ⟨xn, xd⟩ ⟨yn, yd⟩
  have HW1 := Lib.hid hW1
  have HR1 := Lib.hid RA1
  clear hW1 RA1
  generalize hN : w.heap.size = N at *
  cases b1
  · go_enter Try.func40, Try.ntmps40
    go_upto_region 1 with (fail)
    simp only [Nat.add_assoc, Nat.reduceAdd]
    simp only at HW1
    rw [HW1.out]
    have x1 := HR1.out.x.c1
    have y1 := HR1.out.y.c1
    go_wp2_with (go_at_call 41; (with_reducible refine (K1.out _).mono ?_); rintro e w1 ⟨rfl, h1⟩; have HR2 := Lib.hid ((HR1.out.later h1)); have g0 : w1.cell? ⟨N + 2, 0, none⟩ = some (.int .u64 0) := row_c HR2.out.g 0; have g1 : w1.cell? ⟨N + 2, 1, none⟩ = some (.int .u64 0) := row_c HR2.out.g 1; have g2 : w1.cell? ⟨N + 2, 2, none⟩ = some (.int .i64 0) := row_c HR2.out.g 2; have gz := fun i => frozen_of_row w1 (N + 2) i _ _ HR2.out.g; have glt := HR2.out.lt)
    refine bodyPost_ret (results_got rfl _ _ (N + 2) ⟨0, 0⟩ 17 rfl ((Below.heap_alloc _ _ _ (by simp; omega)).trans (got_set HR2.out.g _ _ _))) rfl ⟨rfl, ?_⟩
    exact (below_set3 HR2.out.b (by omega) _ _ _).alloc (by simp; omega) _
  · have hLp := hLp rfl
    go_enter Try.func40, Try.ntmps40
    go_upto_region 1 with (fail)
    simp only [Nat.add_assoc, Nat.reduceAdd]
    simp only at HW1
    rw [HW1.out]
    have x1 := HR1.out.x.c1
    have y1 := HR1.out.y.c1
    go_upto_region 4 with (go_at_call 41; (with_reducible refine (K1.out _).mono ?_); rintro e w1 ⟨rfl, h1⟩; have HR2 := Lib.hid ((HR1.out.later h1)); have HN1 := Lib.hid (NB.new w1 L true); clear h1)
    have HR3 := Lib.hid (RB.alloc (bs := []) ⟨HR2.out, by simp⟩ (Below.refl _ _) L true)
    clear HR2 HN1 x1 y1
    generalize hW2 : w1.alloc (.cells #[.int .u64 L, .bool true] 56) = W2 at *
    generalize w1.heap.size = b5 at *
    clear hW2 HW1 HR1 K1
    have x0 := HR3.out.a.x.c0
    have x1 := HR3.out.a.x.c1
    have l5 : NB W2 b5 L true := HR3.out.n (b5, L, true) (by simp)
    have l0 := l5.c0
    have hl5 := l5.lt
    clear l5
    have hlN : N < W2.heap.size := by have := HR3.out.a.lt; omega
    have hlN1 : N + 1 < W2.heap.size := by have := HR3.out.a.lt; omega
    have HNW := Lib.hid (NB.new W2 0 false)
    go_cut [6] from 18 to 25 (fun s6 wx => ∃ b, s6 = .pointer (some ⟨b, 0, none⟩) ∧ Hid (RB N w ⟨xn, xd⟩ ⟨yn, yd⟩ ((b, a2, b2) :: [(b5, L, true)]) wx))
    case first =>
      go_region_law (go_simp; go_at_call 47; (with_reducible refine (K2.out _).mono ?_); rintro e w4 ⟨rfl, h4⟩; have HH4 := Lib.hid (show Below W2.heap.size W2 w4 from by first | exact h4 | exact Below.trans (below_drew W2) h4 | exact Below.trans (boxN W2 _ _) (h4.mono (by simp)) | exact Below.trans ((boxN W2 _ _).trans ((below_drew _).mono (by simp))) (h4.mono (by simp)) | exact Below.trans (below_drew W2) (Below.trans (boxN W2.drew _ _) (h4.mono (by simp)))); (try (have qq : NB w4 W2.heap.size 0 false := NB.later (by first | exact NB.new W2 0 false | exact NB.new W2.drew 0 false) h4; have HQ := Lib.hid qq; have q0 := HQ.out.c0; have q1 := HQ.out.c1; have qz := HQ.out.fz; clear qq)); clear h4)
      all_goals
        go_wp2_with (fail)
        go_meet
        first
        | exact ⟨_, rfl, Lib.hid (HR3.out.alloc HH4.out a2 b2)⟩
        | exact ⟨_, rfl, Lib.hid (HR3.out.set HH4.out HQ.out a2 b2)⟩
    case rest =>
      clear HNW x0 x1 l0 hl5 hlN hlN1 HR3
      obtain ⟨b6, rfl, HR4⟩ := hcut
      obtain ⟨W3, hW3⟩ : ∃ W, W = wc := ⟨_, rfl⟩
      subst hW3
      go_upto_region 5 with (fail)
      have x0 := HR4.out.a.y.c0
      have x1 := HR4.out.a.y.c1
      have l5 : NB W3 b5 L true := HR4.out.n (b5, L, true) (by simp)
      have l0 := l5.c0
      have hl5 := l5.lt
      clear l5
      have hlN : N < W3.heap.size := by have := HR4.out.a.lt; omega
      have hlN1 : N + 1 < W3.heap.size := by have := HR4.out.a.lt; omega
      have HNW := Lib.hid (NB.new W3 0 false)
      go_cut [7] from 26 to 33 (fun s6 wx => ∃ b, s6 = .pointer (some ⟨b, 0, none⟩) ∧ Hid (RB N w ⟨xn, xd⟩ ⟨yn, yd⟩ ((b, a3, b3) :: [(b6, a2, b2), (b5, L, true)]) wx))
      case first =>
        go_region_law (go_simp; go_at_call 47; (with_reducible refine (K3.out _).mono ?_); rintro e w4 ⟨rfl, h4⟩; have HH4 := Lib.hid (show Below W3.heap.size W3 w4 from by first | exact h4 | exact Below.trans (below_drew W3) h4 | exact Below.trans (boxN W3 _ _) (h4.mono (by simp)) | exact Below.trans ((boxN W3 _ _).trans ((below_drew _).mono (by simp))) (h4.mono (by simp)) | exact Below.trans (below_drew W3) (Below.trans (boxN W3.drew _ _) (h4.mono (by simp)))); (try (have qq : NB w4 W3.heap.size 0 false := NB.later (by first | exact NB.new W3 0 false | exact NB.new W3.drew 0 false) h4; have HQ := Lib.hid qq; have q0 := HQ.out.c0; have q1 := HQ.out.c1; have qz := HQ.out.fz; clear qq)); clear h4)
        all_goals
          go_wp2_with (fail)
          go_meet
          first
          | exact ⟨_, rfl, Lib.hid (HR4.out.alloc HH4.out a3 b3)⟩
          | exact ⟨_, rfl, Lib.hid (HR4.out.set HH4.out HQ.out a3 b3)⟩
      case rest =>
        clear HNW x0 x1 l0 hl5 hlN hlN1 HR4
        obtain ⟨b7, rfl, HR5⟩ := hcut
        obtain ⟨W4, hW4⟩ : ∃ W, W = wc := ⟨_, rfl⟩
        subst hW4
        have m6 : NB W4 b6 a2 b2 := HR5.out.n (b6, a2, b2) (by simp)
        have m7 : NB W4 b7 a3 b3 := HR5.out.n (b7, a3, b3) (by simp)
        have c60 := m6.c0
        have c70 := m7.c0
        have l6 := m6.lt
        have l7 := m7.lt
        clear m6 m7
        go_upto_region 7 with (go_at_call 48; (with_reducible refine (K4.out _).mono ?_); rintro e w8 ⟨rfl, h8⟩; have HR6 := Lib.hid (HR5.out.later h8))
        have HR7 := Lib.hid (HR6.out.alloc (Below.refl _ _) a4 b4)
        clear HR6 HR5 c60 c70 l6 l7 h8
        generalize w8.alloc (.cells #[.int .u64 a4, .bool b4] 56) = W5 at *
        generalize w8.heap.size = b8 at *
        have m5 : NB W5 b5 L true := HR7.out.n (b5, L, true) (by simp)
        have m6 : NB W5 b6 a2 b2 := HR7.out.n (b6, a2, b2) (by simp)
        have m7 : NB W5 b7 a3 b3 := HR7.out.n (b7, a3, b3) (by simp)
        have m8 : NB W5 b8 a4 b4 := HR7.out.n (b8, a4, b4) (by simp)
        have d50 := m5.c0
        have d61 := m6.c1
        have d71 := m7.c1
        have d80 := m8.c0
        have d81 := m8.c1
        have g0 : W5.cell? ⟨N + 2, 0, none⟩ = some (.int .u64 0) := row_c HR7.out.a.g 0
        have g1 : W5.cell? ⟨N + 2, 1, none⟩ = some (.int .u64 0) := row_c HR7.out.a.g 1
        have g2 : W5.cell? ⟨N + 2, 2, none⟩ = some (.int .i64 0) := row_c HR7.out.a.g 2
        have gz := fun i => frozen_of_row W5 (N + 2) i _ _ HR7.out.a.g
        clear m5 m6 m7 m8
        cases b2
        · go_wp2_with (fail)
          exact bodyPost_ret (results_got rfl _ _ (N + 2) ⟨0, 0⟩ 17 rfl (got_set HR7.out.a.g _ _ _)) rfl ⟨rfl, below_set3 HR7.out.a.b (by omega) _ _ _⟩
        · cases b3
          · go_wp2_with (fail)
            exact bodyPost_ret (results_got rfl _ _ (N + 2) ⟨0, 0⟩ 17 rfl (got_set HR7.out.a.g _ _ _)) rfl ⟨rfl, below_set3 HR7.out.a.b (by omega) _ _ _⟩
          · cases b4
            · go_wp2_with (fail)
              exact bodyPost_ret (results_got rfl _ _ (N + 2) ⟨0, 0⟩ 17 rfl (got_set HR7.out.a.g _ _ _)) rfl ⟨rfl, below_set3 HR7.out.a.b (by omega) _ _ _⟩
            · have KF := Lib.hid (fun W => rform_any a4 L hcu hLu (by first | exact hLp | exact hLp trivial) W)
              go_wp2_with (go_at_call 42; (with_reducible refine (KF.out _).mono ?_); rintro e w9 ⟨rfl, h9⟩; have HR8 := Lib.hid (HR7.out.later h9); have k0 : w9.cell? ⟨N + 2, 0, none⟩ = some (.int .u64 0) := row_c HR8.out.a.g 0; have k1 : w9.cell? ⟨N + 2, 1, none⟩ = some (.int .u64 0) := row_c HR8.out.a.g 1; have k2 : w9.cell? ⟨N + 2, 2, none⟩ = some (.int .i64 0) := row_c HR8.out.a.g 2; have kz := fun i => frozen_of_row w9 (N + 2) i _ _ HR8.out.a.g)
              exact bodyPost_ret (results_got rfl _ _ (N + 2) (formF a4 L) 0 rfl (got_set HR8.out.a.g _ _ _)) rfl ⟨rfl, below_set3 HR8.out.a.b (by omega) _ _ _⟩
end Go.Proofs.Ytghijgpelkjohaa
