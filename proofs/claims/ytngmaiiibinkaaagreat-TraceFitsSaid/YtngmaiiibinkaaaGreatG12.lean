/- Texts about the program, one after the other: FDP, FEP, FFP, EMem, EQui, ERel, ERls. -/
import Derived.Test.YtngmaiiibinkaaaGreatG11
import Derived.Test.YtngmaiiibinkaaaGreatG7
import Derived.Test.YtngmaiiibinkaaaGreatG10
/- A queue's ring is laid anew; New. -/
namespace Go.Proofs.YtngmaiiibinkaaaGreat
open Go.RowKit
set_option linter.unusedVariables false
set_option linter.unusedSimpArgs false
attribute [local go_sem ↓] Go.wp_at_zero Go.wp_at_succ

/-- A row that came in, nil or not. -/
structure RowOP (w : World) (A : Option Addr) (m c : Nat) (xs : List Nat) : Prop where
  len : xs.length = m
  nil : A = none → m = 0 ∧ c = 0
  row : ∀ a, A = some a → RowAP w a xs
theorem RowOP.later {w w' : World} {A : Option Addr} {m c : Nat} {xs : List Nat} (h : RowOP w A m c xs) (hb : Below w.heap.size w w') : RowOP w' A m c xs := ⟨h.len, h.nil, fun a e => (h.row a e).later hb⟩
theorem RowOP.own {w : World} {B m : Nat} {v : Value} {xs : List Nat} (h : w.ownsRow B 104 1 v m (clP xs)) : ∃ A c, v = .slice A m c ∧ RowOP w A m c xs := by
  have hl := h.1
  rw [cl_lenP, Nat.mul_one] at hl
  rcases h.2 with ⟨rfl, rfl⟩ | ⟨g, cap, cur, rfl, _, hg, _, _, _, ht⟩
  · exact ⟨none, 0, rfl, ⟨hl, fun _ => ⟨rfl, rfl⟩, fun a e => by cases e⟩⟩
  · refine ⟨_, cap, rfl, ⟨hl, fun e => (by cases e), fun a e => ?_⟩⟩
    cases e
    intro i x hx
    have := h.cells (g := g) rfl i _ (cl_getP hx)
    exact this
/-- Block b is to be a queue. -/
structure IsQP (w : World) (b o : Nat) (v0 : Value) (f0 z0 : Int) : Prop where
  row : ∃ cur, w.heap[b]? = some (.cells cur 127 (0, 0))
  c0 : w.cell? ⟨b, o, none⟩ = some v0
  c1 : w.cell? ⟨b, o + 1, none⟩ = some (.int .i64 f0)
  c2 : w.cell? ⟨b, o + 2, none⟩ = some (.int .i64 z0)
theorem IsQP.lt {w : World} {b o : Nat} {v0 : Value} {f0 z0 : Int} (h : IsQP w b o v0 f0 z0) : b < w.heap.size := World.block_lt_of_cell? w _ h.c0
theorem IsQP.fz {w : World} {b o : Nat} {v0 : Value} {f0 z0 : Int} (h : IsQP w b o v0 f0 z0) (i : Nat) : w.frozen? ⟨b, i, none⟩ = false := by
  obtain ⟨cur, hc⟩ := h.row
  simp [World.frozen?, hc]
theorem IsQP.kept {X : List Nat} {w w' : World} {b o : Nat} {v0 : Value} {f0 z0 : Int} (h : IsQP w b o v0 f0 z0) (hk : Kept X w w') (hx : b ∉ X) : IsQP w' b o v0 f0 z0 :=
  ⟨(by obtain ⟨cur, hc⟩ := h.row; exact ⟨cur, (hk.block b h.lt hx).trans hc⟩), (hk.cell h.lt hx).trans h.c0, (hk.cell h.lt hx).trans h.c1, (hk.cell h.lt hx).trans h.c2⟩
theorem IsQP.of {B w b o v N f l} (h : FQP B w b o v N f l) : IsQP w b o v f l.length := ⟨h.row, h.c0, h.c1, h.c2⟩
def LayPP (B b o N : Nat) (xs : List Nat) (w : World) (e : Ending) (w' : World) : Prop := e = .returned (.tuple #[]) ∧ ∃ v, FQP B w' b o v N 0 xs ∧ Kept [b] w w' ∧ FrQ b o w w' ∧ ∀ k ∈ blk b v, k = b ∨ w.heap.size ≤ k
theorem row_setP {w : World} {b i : Nat} {T : TypeId} {v : Value} (h : ∃ cur, w.heap[b]? = some (.cells cur T (0, 0))) : ∃ cur, (w.setCell ⟨b, i, none⟩ v).heap[b]? = some (.cells cur T (0, 0)) := by
  obtain ⟨cur, hc⟩ := h
  exact ⟨_, heap_setCell_same _ b i _ _ _ hc⟩
theorem row_setP2 {w : World} {b g i : Nat} {T : TypeId} {v : Value} (h : ∃ cur, w.heap[b]? = some (.cells cur T (0, 0))) (hg : g ≠ b) : ∃ cur, (w.setCell ⟨g, i, none⟩ v).heap[b]? = some (.cells cur T (0, 0)) := by
  obtain ⟨cur, hc⟩ := h
  exact ⟨cur, (Below.heap_setCell _ _ _ _ (by simpa using Ne.symm hg)).trans hc⟩
theorem set_o {w : World} {b i j : Nat} {u v : Value} (hc : w.cell? ⟨b, j, none⟩ = some u) (h : i ≠ j) : (w.setCell ⟨b, i, none⟩ v).cell? ⟨b, j, none⟩ = some u := (cell_set_far (by intro e; injection e with e1 e2; omega)).trans hc
theorem set_g {w : World} {b g i j : Nat} {u v : Value} (hc : w.cell? ⟨b, j, none⟩ = some u) (h : g ≠ b) : (w.setCell ⟨g, i, none⟩ v).cell? ⟨b, j, none⟩ = some u := (cell_set_far (by intro e; injection e with e1 e2; exact h e1)).trans hc
theorem three_setP {w : World} {b o : Nat} {v0 u0 : Value} {f0 z0 u1 u2 : Int} (h : IsQP w b o v0 f0 z0) :
    IsQP (((w.setCell ⟨b, o, none⟩ u0).setCell ⟨b, o + 1, none⟩ (.int .i64 u1)).setCell ⟨b, o + 2, none⟩ (.int .i64 u2)) b o u0 u1 u2 :=
  ⟨row_setP (row_setP (row_setP h.row)), set_o (set_o (cell_set_at h.c0) (by omega)) (by omega), set_o (cell_set_at (set_o h.c1 (by omega))) (by omega), cell_set_at (set_o (set_o h.c2 (by omega)) (by omega))⟩
theorem lay_midP {B b o N m cap : Nat} {xs : List Nat} {w w1 w2 : World} {v0 : Value} {f0 z0 : Int} (hi0 : IsQP w b o v0 f0 z0) (hB1 : Below w.heap.size w w1) (hgrow : w1.grownBy w2 (some w.heap.size))
    (hown : w2.ownsRow w.heap.size 104 1 (.slice (some ⟨w.heap.size, 0, none⟩) (0 + m) cap) (0 + m) ([] ++ clP xs)) (hcap : N ≤ cap) (hm : m ≤ N) (hN : 0 < N) (hN2 : N ≤ 1000000) (hB : B ≤ b) (hx : xs.length = m) (hBw : B ≤ w.heap.size) :
    (w2.cell? ⟨b, o, none⟩ = some v0 ∧ w2.cell? ⟨b, o + 1, none⟩ = some (.int .i64 f0) ∧ w2.cell? ⟨b, o + 2, none⟩ = some (.int .i64 z0) ∧ ∀ i, w2.frozen? ⟨b, i, none⟩ = false) ∧
    LayPP B b o N xs w (.returned (.tuple #[])) (((w2.setCell ⟨b, o, none⟩ (.slice (some ⟨w.heap.size, 0, none⟩) N N)).setCell ⟨b, o + 1, none⟩ (.int .i64 0)).setCell ⟨b, o + 2, none⟩ (.int .i64 (m : Int))) := by
  have hbl : b < w.heap.size := hi0.lt
  have k2 : Kept [] w w2 := ((Kept.of [w.heap.size] hB1).trans (kept_grown hgrow (by simp))).less (fun k hk => .inr (by simp at hk; omega))
  have hb2 := hi0.kept k2 (by simp)
  have h3 := three_setP (u0 := .slice (some ⟨w.heap.size, 0, none⟩) N N) (u1 := 0) (u2 := (m : Int)) hb2
  refine ⟨⟨hb2.c0, hb2.c1, hb2.c2, hb2.fz⟩, rfl, .slice (some ⟨w.heap.size, 0, none⟩) N N, ⟨hB, h3.row, h3.c0, h3.c1, ?_, ?_, hN2⟩, ?_, ?_, ?_⟩
  · rw [hx]; exact h3.c2
  · subst hx
    rcases hown.2 with ⟨h, _⟩ | ⟨g, cp, cur, h, hbg, hg, hnc, hcm, hcs, ht⟩
    · simp at h
    · simp only [Value.slice.injEq, Option.some.injEq, Addr.mk.injEq, and_true, true_and] at h
      obtain ⟨rfl, rfl⟩ := h
      have hne : w.heap.size ≠ b := by omega
      refine .inr ⟨w.heap.size, cur, rfl, by omega, ?_, by omega, hN, hm, ?_⟩
      · rw [Below.heap_setCell _ _ _ _ (by simpa using hne), Below.heap_setCell _ _ _ _ (by simpa using hne), Below.heap_setCell _ _ _ _ (by simpa using hne)]
        exact hg
      · intro i x hi
        have hil := (List.getElem?_eq_some_iff.1 hi).1
        have h1 := cl_getP hi
        rw [Nat.zero_add, Nat.mod_eq_of_lt (by omega)]
        rw [Nat.zero_add, List.nil_append] at ht
        rw [← ht, List.getElem?_take, if_pos (by omega), Array.getElem?_toList] at h1
        exact h1
  · exact (((k2.mono (by simp)).set b _ _ (by simp)).set b _ _ (by simp)).set b _ _ (by simp)
  · exact (((FrQ.kept k2 hbl (by simp)).setb _ _ (by omega)).setb _ _ (by omega)).setb _ _ (by omega)
  · intro k hk
    simp [blk, Value.ownBlock] at hk
    omega
set_option maxRecDepth 100000 in
set_option maxHeartbeats 8000000 in
theorem lay_anyP {B b o N m c : Nat} {v0 : Value} {f0 z0 : Int} {A : Option Addr} {xs : List Nat} (w : World) (hi0 : IsQP w b o v0 f0 z0) (hB : B ≤ b) (hr : RowOP w A m c xs) (hm : m ≤ N) (hN : N ≤ 1000000) :
    Calls Tryz.prog 89 #[.pointer (some ⟨b, o, none⟩), .slice A m c, .int .i64 (N : Int)] w (LayPP B b o N xs w) := by
  have hbl : b < w.heap.size := hi0.lt
  rcases Nat.eq_zero_or_pos N with rfl | hN0
  · obtain rfl : m = 0 := by omega
    obtain rfl : xs = [] := List.eq_nil_of_length_eq_zero hr.len
    have c0 := hi0.c0
    have c1 := hi0.c1
    have c2 := hi0.c2
    have fz := hi0.fz
    have f0' := fz o
    have f1' := fz (o + 1)
    have f2' := fz (o + 2)
    have e := three_setP (u0 := .slice none 0 0) (u1 := 0) (u2 := 0) hi0
    have k := (((Kept.refl [b] w).set b o (.slice none 0 0) (by simp)).set b (o + 1) (.int .i64 0) (by simp)).set b (o + 2) (.int .i64 0) (by simp)
    have fr := (((FrQ.of (Below.refl _ w) hbl (o := o)).setb o (.slice none 0 0) (by omega)).setb (o + 1) (.int .i64 0) (by omega)).setb (o + 2) (.int .i64 0) (by omega)
    have FR := Lib.hid fr
    have G := Lib.hid (grow_zeroP w)
    have E := Lib.hid e
    have K := Lib.hid k
    clear hr fz e k hi0 fr
    go_enter Tryz.func89, Tryz.ntmps89
    go_wp2_with (first
      | (go_at_call 110; (with_reducible refine G.out.mono ?_); rintro e w1 ⟨rfl, rfl⟩)
      | (at_builtin; refine wpList_app0P _ rfl _ _ rfl A c rfl rfl ?_))
    refine bodyPost_ret (results_none rfl _ _ _) rfl ?_
    refine ⟨rfl, .slice none 0 0, ⟨hB, E.out.row, E.out.c0, E.out.c1, E.out.c2, .inl ⟨rfl, rfl, rfl, rfl⟩, by omega⟩, K.out, FR.out, ?_⟩
    intro k hk
    simp [blk, Value.ownBlock] at hk
    exact .inl hk
  · obtain ⟨i0, hi, hz0, hz1, hz2⟩ := info_parts infoTP
    have G := Lib.hid (grow_someP w N hN0 (by omega))
    have hBw := Lib.hid (show B ≤ w.heap.size by omega)
    have HR := Lib.hid hr
    have HI := Lib.hid hi0
    have hmN : m ≤ N := hm
    have hN1 : (N : Int) ≤ 1000000 := by omega
    clear hr hi0
    go_enter Tryz.func89, Tryz.ntmps89
    go_wp2_with (first
      | (go_at_call 110; (with_reducible refine G.out.mono ?_); rintro e w1 ⟨cap, rfl, hcap, hcap2, hown, hB1⟩; have R1 := Lib.hid (HR.out.later hB1))
      | (at_builtin; refine wpList_append_fits_any _ rfl _ _ 125 rfl w.heap.size 104 i0 1 Tryz.underlying125 hi hz1 w.heap.size 0 cap [] rfl hown A m c (clP xs) rfl (by rw [cl_lenP, R1.out.len, Nat.mul_one]) R1.out.nil (fun ad e => (R1.out.row ad e).cells) (cl_oneP xs) (by omega) ?_; intro w2 hown' hgrow;
          obtain ⟨⟨c0, c1, c2, fz⟩, hP⟩ := lay_midP HI.out hB1 hgrow hown' hcap hmN hN0 hN hB R1.out.len hBw.out;
          have f0' := fz o; have f1' := fz (o + 1); have f2' := fz (o + 2); have HP := Lib.hid hP; clear hP fz hown' hgrow))
    refine bodyPost_ret (results_none rfl _ _ _) rfl ?_
    exact HP.out
end Go.Proofs.YtngmaiiibinkaaaGreat
/- New; Push; At; Pop. -/
namespace Go.Proofs.YtngmaiiibinkaaaGreat
open Go.RowKit
set_option linter.unusedVariables false
set_option linter.unusedSimpArgs false
attribute [local go_sem ↓] Go.wp_at_zero Go.wp_at_succ

/-- Where what is pushed stands. -/
theorem FQP.push {B b o N f : Nat} {v : Value} {l : List Nat} {w : World} (h : FQP B w b o v N f l) (hl : l.length < N) {g : Nat} (hv : v.ownBlock = some g) (x : Nat) :
    FQP B ((w.setCell ⟨g, (f + l.length) % N, none⟩ (.pointer (some ⟨x, 0, none⟩))).setCell ⟨b, o + 2, none⟩ (.int .i64 ((l ++ [x]).length : Int))) b o v N f (l ++ [x]) := by
  obtain ⟨g', cur, rfl, h1, h2, h3, h4, h5, h6⟩ := h.open (by omega)
  simp [Value.ownBlock] at hv
  subst hv
  have hm : (f + l.length) % N < N := Nat.mod_lt _ (by omega)
  have hgb : g' ≠ b := Ne.symm h6
  refine ⟨h.hB, row_setP (row_setP2 h.row hgb), set_o (set_g h.c0 hgb) (by omega), set_o (set_g h.c1 hgb) (by omega), cell_set_at (set_g h.c2 hgb), ?_, h.lim⟩
  · refine .inr ⟨g', cur.setIfInBounds ((f + l.length) % N) (.pointer (some ⟨x, 0, none⟩)), rfl, h1, ?_, by simpa using h3, h4, by simp; omega, ?_⟩
    · rw [Below.heap_setCell _ _ _ _ (by simpa using Ne.symm h6)]
      exact heap_setCell_same _ g' _ _ _ _ h2
    · intro i y hy
      by_cases hi : i < l.length
      · rw [List.getElem?_append_left hi] at hy
        have hne : (f + l.length) % N ≠ (f + i) % N := by
          intro e
          rcases Nat.lt_or_ge (f + i) N with ha | ha <;> rcases Nat.lt_or_ge (f + l.length) N with hb | hb
          · rw [Nat.mod_eq_of_lt ha, Nat.mod_eq_of_lt hb] at e; omega
          · rw [Nat.mod_eq_of_lt ha, Nat.mod_eq_sub_mod hb, Nat.mod_eq_of_lt (by omega)] at e; omega
          · omega
          · rw [Nat.mod_eq_sub_mod ha, Nat.mod_eq_sub_mod hb, Nat.mod_eq_of_lt (by omega), Nat.mod_eq_of_lt (by omega)] at e; omega
        rw [Array.getElem?_setIfInBounds_ne hne]
        exact h5 i y hy
      · have hi2 : i = l.length := by
          have := (List.getElem?_eq_some_iff.1 hy).1
          simp at this; omega
        subst hi2
        simp at hy
        subst hy
        exact Array.getElem?_setIfInBounds_self_of_lt (by omega)
def PushPP (B b o N : Nat) (v : Value) (l : List Nat) (w : World) (e : Ending) (w' : World) : Prop := e = .returned (.tuple #[]) ∧ ∃ v' f', FQP B w' b o v' N f' l ∧ Kept (blk b v) w w' ∧ FrQ b o w w' ∧ ∀ k ∈ blk b v', k ∈ blk b v ∨ w.heap.size ≤ k
set_option maxRecDepth 100000 in
set_option maxHeartbeats 8000000 in
theorem push_roomP {B b o N f : Nat} {v : Value} {l : List Nat} (x : Nat) (w : World) (h : FQP B w b o v N f l) (hl : l.length < N) :
    Calls Tryz.prog 74 #[.pointer (some ⟨b, o, none⟩), .pointer (some ⟨x, 0, none⟩)] w (PushPP B b o N v (l ++ [x]) w) := by
  obtain ⟨g, cur, rfl, h1, h2, h3, h4, h5, h6⟩ := h.open (by omega)
  have hP := fun k => (h.later (below_drewN2 w k)).push hl (g := g) rfl x
  have PL := Lib.hid (fun W (hB : Below w.heap.size w W) => place_anyP W (h.later hB) l.length (by omega) (by have := h.lim; omega))
  have c0 := h.c0
  have c1 := h.c1
  have c2 := h.c2
  have fb2 := h.fz (o + 2)
  have hlim := h.lim
  have hmod : (f + l.length) % N < N := Nat.mod_lt _ (by omega)
  have hK : Kept (blk b (.slice (some ⟨g, 0, none⟩) N N)) w w := Kept.refl _ _
  have hll : ((l ++ [x]).length : Int) = (l.length : Int) + 1 := by simp
  rw [hll] at hP
  obtain ⟨r, hr⟩ : ∃ r, (f + l.length) % N = r := ⟨_, rfl⟩
  obtain ⟨n, hn⟩ : ∃ n, l.length = n := ⟨_, rfl⟩
  rw [hr] at hP PL hmod
  rw [hn] at hP PL c2 hl
  obtain ⟨u, hu⟩ : ∃ u, w.cell? ⟨g, r, none⟩ = some u := ⟨cur[r]'(by omega), by rw [cell_of_row w g r _ _ _ h2]; exact Array.getElem?_eq_getElem _⟩
  have fg : w.frozen? ⟨g, r, none⟩ = false := by simp [World.frozen?, h2]
  have HP := Lib.hid hP
  have hr1 : (r : Int) < (N : Int) := by omega
  have hbg : g ≠ b := Ne.symm h6
  have hbl := h.lt
  clear h hP h5 h2 hll hr hn hK
  go_enter Tryz.func74, Tryz.ntmps74
  go_upto_region 1 with (fail)
  go_region
  go_upto_region 3 with (fail)
  go_region_with (go_at_call 91; (with_reducible refine (PL.out _ (below_drew2 w)).mono ?_); rintro e w' ⟨rfl, mm, rfl⟩)
  all_goals
    go_wp2
    refine bodyPost_ret (results_none rfl _ _ _) rfl ?_
    refine ⟨rfl, _, f, HP.out _, ((Kept.of _ (below_drewN2 w _)).set g _ _ (by simp [blk, Value.ownBlock])).set b _ _ (by simp [blk]), ((FrQ.of (below_drewN2 w _) hbl).setg g _ _ hbg).setb _ _ (by omega), fun k hk => .inl hk⟩
theorem push_postP {B b o N2 g r n : Nat} {v v' : Value} {l : List Nat} {x : Nat} {w w1 w3 : World} (hb : b < w.heap.size) (hB : Below w.heap.size w w1) (hQ : FQP B w3 b o v' N2 0 l) (hK : Kept [b] w1 w3) (hF : FrQ b o w1 w3) (hgb : g ≠ b) (hX : ∀ k ∈ blk b v', k = b ∨ w1.heap.size ≤ k) (hl : l.length < N2) (hv : v'.ownBlock = some g) (hr : (0 + l.length) % N2 = r) (hn : l.length = n) (k : Nat) :
    PushPP B b o N2 v (l ++ [x]) w (.returned (.tuple #[])) (((w3.drewN k).setCell ⟨g, r, none⟩ (.pointer (some ⟨x, 0, none⟩))).setCell ⟨b, o + 2, none⟩ (.int .i64 ((n : Int) + 1))) := by
  have hP := (hQ.later (below_drewN2 w3 k)).push hl hv x
  have hll : ((l ++ [x]).length : Int) = (n : Int) + 1 := by rw [← hn]; simp
  rw [hll, hr] at hP
  have hs := hB.size
  refine ⟨rfl, v', 0, hP, ?_, ((((FrQ.of hB hb).trans hF).trans (FrQ.of (below_drewN2 w3 k) (Nat.lt_of_lt_of_le hb (Nat.le_trans hs hK.size)))).setg g _ _ hgb).setb _ _ (by omega), ?_⟩
  · have k1 : Kept [b, g] w ((w3.drewN k).setCell ⟨g, r, none⟩ (.pointer (some ⟨x, 0, none⟩))) := ((((Kept.of [b, g] hB).trans (hK.mono (by simp))).later (below_drewN2 w3 k))).set g _ _ (by simp)
    refine (k1.set b _ _ (by simp)).less ?_
    intro j hj
    simp at hj
    rcases hj with rfl | rfl
    · exact .inl (by simp [blk])
    · have := hX j (by simp [blk, hv])
      rcases this with rfl | h
      · exact .inl (by simp [blk])
      · exact .inr (by omega)
  · intro j hj
    rcases hX j hj with rfl | h
    · exact .inl (by simp [blk])
    · exact .inr (by omega)
set_option maxRecDepth 100000 in
set_option maxHeartbeats 8000000 in
theorem push_fullP {B b o N f : Nat} {v : Value} {l : List Nat} (x : Nat) (w : World) (h : FQP B w b o v N f l) (hl : l.length = N) (hN : N ≤ 10000) :
    Calls Tryz.prog 74 #[.pointer (some ⟨b, o, none⟩), .pointer (some ⟨x, 0, none⟩)] w (PushPP B b o (2 * N + 4) v (l ++ [x]) w) := by
  have hb := h.lt
  have hBb := h.hB
  obtain ⟨A0, rfl⟩ := h.ringv
  obtain ⟨N2, hN2⟩ : ∃ N2, 2 * N + 4 = N2 := ⟨_, rfl⟩
  have hw1 : IntKind.i64.wrap (IntKind.i64.wrap (2 * (N : Int)) + 4) = (N2 : Int) := by rw [IntKind.wrap_i64, IntKind.wrap_i64]; omega
  have TH := Lib.hid (fun W (hB : Below w.heap.size w W) => things_anyP W (h.later hB))
  have LY := Lib.hid (fun W (hB : Below w.heap.size w W) A c (hR : RowOP W A N c l) => lay_anyP W (B := B) (b := b) (o := o) (N := N2) (IsQP.of (h.later hB)) hBb hR (by omega) (by omega))
  have PL := Lib.hid (fun W v (hQ : FQP B W b o v N2 0 l) => place_anyP W hQ l.length (by omega) (by omega))
  have c0 := h.c0
  have c2 := h.c2
  have hn0 : 0 + l.length = N := by omega
  have hmod : N % N2 = N := Nat.mod_eq_of_lt (by omega)
  rw [hn0, hmod] at PL
  rw [hl] at c2 TH PL
  rw [hN2]
  have HL := Lib.hid hl
  clear h hl
  go_enter Tryz.func74, Tryz.ntmps74
  go_upto_region 1 with (fail)
  go_region
  go_upto_region 2 with (fail)
  go_region_with (first
    | (go_at_call 90; (with_reducible refine (TH.out _ (below_drew2 w)).mono ?_); rintro e w1 ⟨v1, rfl, ho, hB1⟩; obtain ⟨A1, cc1, rfl, hR1⟩ := RowOP.own ho; have HB1 := Lib.hid (Below.trans (below_drew2 w) hB1); have HR1 := Lib.hid hR1; have c2' := ((HB1.out.cell (p := ⟨b, o + 2, none⟩) hb)).trans c2; clear ho hB1 hR1)
    | (go_at_call 89; ((with_reducible refine (LY.out _ HB1.out _ _ HR1.out).mono ?_); rintro e w3 ⟨rfl, v3, hQ3, hK3, hF3, hX3⟩; have HF3 := Lib.hid hF3; have HQ3 := Lib.hid hQ3; have HK3 := Lib.hid hK3; have HX3 := Lib.hid hX3; clear hQ3 hK3 hX3 hF3)))
  all_goals
    have hNN : N < N2 := by omega
    obtain ⟨g, cur, rfl, h1, h2, h3, h4, h5, h6⟩ := HQ3.out.open (by omega)
    have d0 := HQ3.out.c0
    have d2 := HQ3.out.c2
    rw [HL.out] at d2
    have fb2 := HQ3.out.fz (o + 2)
    obtain ⟨u, hu⟩ : ∃ u, w3.cell? ⟨g, N, none⟩ = some u := ⟨cur[N]'(by omega), by rw [cell_of_row w3 g N _ _ _ h2]; exact Array.getElem?_eq_getElem _⟩
    have fg : w3.frozen? ⟨g, N, none⟩ = false := by simp [World.frozen?, h2]
    have hr1 : (N : Int) < (N2 : Int) := by omega
    have hbg : g ≠ b := Ne.symm h6
    have PP := Lib.hid (push_postP (v := .slice A0 N N) (x := x) (r := N) hb HB1.out HQ3.out HK3.out HF3.out hbg HX3.out (by rw [HL.out]; omega) (g := g) rfl (by rw [HL.out, Nat.zero_add, Nat.mod_eq_of_lt hNN]) HL.out)
    clear h5 h2
    go_upto_region 3 with (fail)
    go_region_with (go_at_call 91; (with_reducible refine (PL.out _ _ (HQ3.out.later (below_drew w3))).mono ?_); rintro e w' ⟨rfl, mm, rfl⟩)
  all_goals
    go_wp2
    refine bodyPost_ret (results_none rfl _ _ _) rfl ?_
    exact PP.out _
end Go.Proofs.YtngmaiiibinkaaaGreat
/- At; Pop. -/
namespace Go.Proofs.YtngmaiiibinkaaaGreat
open Go.RowKit
set_option linter.unusedVariables false
set_option linter.unusedSimpArgs false
attribute [local go_sem ↓] Go.wp_at_zero Go.wp_at_succ

set_option maxRecDepth 100000 in
set_option maxHeartbeats 4000000 in
theorem at_inP {B b o N f : Nat} {v : Value} {l : List Nat} {i : Nat} {x : Nat} (w : World) (h : FQP B w b o v N f l) (hx : l[i]? = some x) : Calls Tryz.prog 76 #[.pointer (some ⟨b, o, none⟩), .int .i64 (i : Int)] w (Quiet (.tuple #[.pointer (some ⟨x, 0, none⟩), .bool true]) w) := by
  have hil := (List.getElem?_eq_some_iff.1 hx).1
  have hle := h.len_le
  obtain ⟨g, cur, rfl, h1, h2, h3, h4, h5, h6⟩ := h.open (by omega)
  have hlim := h.lim
  have LN := Lib.hid (len_anyP w h)
  have PL := Lib.hid (fun W (hB : Below w.heap.size w W) => place_anyP W (h.later hB) i (by omega) (by omega))
  have c0 := h.c0
  have hm : (f + i) % N < N := Nat.mod_lt _ (by omega)
  have hu : w.cell? ⟨g, (f + i) % N, none⟩ = some (.pointer (some ⟨x, 0, none⟩)) := by rw [cell_of_row w g _ _ _ _ h2]; exact h5 i x hx
  generalize (f + i) % N = r at *
  have hr1 : (r : Int) < (N : Int) := by omega
  have hi0 : ¬ (i : Int) < 0 := by omega
  have hi1 : ¬ ((l.length : Int) ≤ (i : Int)) := by omega
  generalize l.length = n at *
  clear h h2 h5
  go_enter Tryz.func76, Tryz.ntmps76
  go_upto_region 4 with (go_at_call 73; (with_reducible refine LN.out.mono ?_); rintro e w1 ⟨rfl, rfl⟩)
  go_quiet ((go_at_call 91; refine Calls.quiet_of (PL.out _ (below_drewN2 w _))))
  go_wp2
  go_ret2
  exact ⟨rfl, _, rfl⟩
set_option maxRecDepth 100000 in
set_option maxHeartbeats 4000000 in
theorem at_outP {B b o N f : Nat} {v : Value} {l : List Nat} {i : Int} (w : World) (h : FQP B w b o v N f l) (hi : i < 0 ∨ (l.length : Int) ≤ i) : Calls Tryz.prog 76 #[.pointer (some ⟨b, o, none⟩), .int .i64 i] w (Quiet (.tuple #[.pointer none, .bool false]) w) := by
  have LN := Lib.hid (len_anyP w h)
  generalize l.length = n at *
  clear h
  by_cases h0 : i < 0
  · clear hi
    go_enter Tryz.func76, Tryz.ntmps76
    go_wp2
    go_ret2
    exact ⟨rfl, 0, rfl⟩
  · have h1 : (n : Int) ≤ i := by omega
    have h2 : 0 ≤ i := by omega
    clear hi
    go_enter Tryz.func76, Tryz.ntmps76
    go_wp2_with (go_at_call 73; (with_reducible refine LN.out.mono ?_); rintro e w1 ⟨rfl, rfl⟩)
    go_ret2
    exact ⟨rfl, 0, rfl⟩
/-- clear of one place. -/
theorem run_clear1P {w : World} {g m k : Nat} {u : Value} (ty : TypeId) (hu : w.cell? ⟨g, m, none⟩ = some u) (hf : w.frozen? ⟨g, m, none⟩ = false) : (Builtin.clear_ #[125] ty #[.slice (some ⟨g, m, none⟩) 1 k]).run Tryz.prog w = .ok (.tuple #[]) (w.setCell ⟨g, m, none⟩ (.pointer none)) := by
  obtain ⟨i0, hi, hz0, hz1, hz2⟩ := info_parts infoTP
  have hu' := run_underlying (P := Tryz.prog) Tryz.underlying125
  have a0 : (⟨g, m, none⟩ : Addr).add 0 = ⟨g, m, none⟩ := by rw [add_none]; rfl
  simp [Builtin.clear_, hu', zeroValue, typeInfo, hi, hz0, Builtin.zeroCells, storeCells, a0, hu, hf, go_sem]
theorem mod_skipP {f i N : Nat} (hf : f < N) (hi : i + 1 < N + 1) : ((f + 1) % N + i) % N = (f + (i + 1)) % N := by
  rw [Nat.mod_add_mod]; congr 1; omega
/-- What is left. -/
theorem FQP.pop {B b o N f : Nat} {v : Value} {l : List Nat} {x : Nat} {w : World} (h : FQP B w b o v N f (x :: l)) {g : Nat} (hv : v.ownBlock = some g) :
    FQP B (((w.setCell ⟨g, f, none⟩ (.pointer none)).setCell ⟨b, o + 1, none⟩ (.int .i64 (((f + 1) % N : Nat) : Int))).setCell ⟨b, o + 2, none⟩ (.int .i64 (l.length : Int))) b o v N ((f + 1) % N) l := by
  have hle := h.len_le
  simp at hle
  obtain ⟨g', cur, rfl, h1, h2, h3, h4, h5, h6⟩ := h.open (by omega)
  simp [Value.ownBlock] at hv
  subst hv
  have hgb : g' ≠ b := Ne.symm h6
  refine ⟨h.hB, row_setP (row_setP (row_setP2 h.row hgb)), set_o (set_o (set_g h.c0 hgb) (by omega)) (by omega), set_o (cell_set_at (set_g h.c1 hgb)) (by omega), cell_set_at (set_o (set_g h.c2 hgb) (by omega)), ?_, h.lim⟩
  · refine .inr ⟨g', cur.setIfInBounds f (.pointer none), rfl, h1, ?_, by simpa using h3, Nat.mod_lt _ (by omega), by omega, ?_⟩
    · rw [Below.heap_setCell _ _ _ _ (by simpa using Ne.symm h6), Below.heap_setCell _ _ _ _ (by simpa using Ne.symm h6)]
      exact heap_setCell_same _ g' _ _ _ _ h2
    · intro i y hy
      have hil := (List.getElem?_eq_some_iff.1 hy).1
      have := h5 (i + 1) y (by simpa using hy)
      rw [mod_skipP h4 (by omega)]
      have hne : f ≠ (f + (i + 1)) % N := by
        intro e
        rcases Nat.lt_or_ge (f + (i + 1)) N with ha | ha
        · rw [Nat.mod_eq_of_lt ha] at e; omega
        · rw [Nat.mod_eq_sub_mod ha, Nat.mod_eq_of_lt (by omega)] at e; omega
      rw [Array.getElem?_setIfInBounds_ne hne]
      exact this
theorem run_cut1P {g f N : Nat} (h : f < N) (w : World) : (Instr.slice 125 (.slice (some ⟨g, 0, none⟩) N N) (some (.int .i64 (f : Int))) (some (.int .i64 ((f : Int) + 1))) none).run Tryz.prog w = .ok (.slice (some ⟨g, f, none⟩) 1 (N - f)) w := by
  have h1 : (f : Int) ≤ (f : Int) + 1 := by omega
  have h2 : (f : Int) + 1 ≤ (N : Int) := by omega
  have h3 : (0 : Int) ≤ (f : Int) + 1 := by omega
  have h4 : ¬ N = f := by omega
  have h5 : ((f : Int) + 1).toNat = f + 1 := by omega
  have h6 : f + 1 - f = 1 := by omega
  have h7 : (f : Int) ≤ (N : Int) := by omega
  go_simp
def PopPP (B b o N : Nat) (v : Value) (x : Nat) (l : List Nat) (w : World) (e : Ending) (w' : World) : Prop := e = .returned (.tuple #[.pointer (some ⟨x, 0, none⟩), .bool true]) ∧ ∃ f', FQP B w' b o v N f' l ∧ Kept (blk b v) w w' ∧ FrQ b o w w'
set_option maxRecDepth 100000 in
set_option maxHeartbeats 8000000 in
theorem pop_someP {B b o N f : Nat} {v : Value} {l : List Nat} {x : Nat} (w : World) (h : FQP B w b o v N f (x :: l)) : Calls Tryz.prog 93 #[.pointer (some ⟨b, o, none⟩)] w (PopPP B b o N v x l w) := by
  have hle := h.len_le
  simp at hle
  obtain ⟨g, cur, rfl, h1, h2, h3, h4, h5, h6⟩ := h.open (by omega)
  have hlim := h.lim
  have AT := Lib.hid (show Calls Tryz.prog 76 #[.pointer (some ⟨b, o, none⟩), .int .i64 0] w (Quiet (.tuple #[.pointer (some ⟨x, 0, none⟩), .bool true]) w) from at_inP w h (i := 0) (x := x) rfl)
  have c0 := h.c0
  have c1 := h.c1
  have c2 := h.c2
  have fb1 := h.fz (o + 1)
  have fb2 := h.fz (o + 2)
  have hu : w.cell? ⟨g, f, none⟩ = some (.pointer (some ⟨x, 0, none⟩)) := by
    have := h5 0 x rfl
    rw [Nat.add_zero, Nat.mod_eq_of_lt h4] at this
    rw [cell_of_row w g _ _ _ _ h2]; exact this
  have fg : w.frozen? ⟨g, f, none⟩ = false := by simp [World.frozen?, h2]
  have hP := fun k => (h.later (below_drewN2 w k)).pop (g := g) rfl
  have hll : ((x :: l).length : Int) = (l.length : Int) + 1 := by simp
  rw [hll] at c2
  have HP := Lib.hid hP
  have PL := Lib.hid (fun W (h0 : W.cell? ⟨b, o, none⟩ = some (.slice (some ⟨g, 0, none⟩) N N)) (h1 : W.cell? ⟨b, o + 1, none⟩ = some (.int .i64 (f : Int))) => show Calls Tryz.prog 91 #[.pointer (some ⟨b, o, none⟩), .int .i64 1] W (Quiet (.int .i64 (((f + 1) % N : Nat) : Int)) W) from place_cP W h0 h1 h4 hlim 1 (by omega))
  have CL := Lib.hid (fun k ty => run_clear1P (w := w.drewN k) (g := g) (m := f) (k := N - f) ty hu fg)
  have hm1 : f + 1 - f = 1 := by omega
  have hbl := h.lt
  have hfN : (f : Int) < (N : Int) := by omega
  have hNf : ¬ N = f := by omega
  have hbg : g ≠ b := Ne.symm h6
  have hrl : (f + 1) % N < N := Nat.mod_lt _ (by omega)
  generalize (f + 1) % N = r at *
  generalize l.length = n at *
  clear hP h5 h2 h
  go_enter Tryz.func93, Tryz.ntmps93
  go_upto_region 4 with (go_at_call 76; (with_reducible refine AT.out.mono ?_); rintro e w1 ⟨rfl, m0, rfl⟩)
  have hw : IntKind.i64.wrap ((f : Int) + 1) = (f : Int) + 1 := by rw [IntKind.wrap_i64]; omega
  have hsl := fun w => run_cut1P (g := g) h4 w
  have d0 : (w.drewN m0).cell? ⟨b, o, none⟩ = _ := c0
  have d1 : (w.drewN m0).cell? ⟨b, o + 1, none⟩ = _ := c1
  have d2 : (w.drewN m0).cell? ⟨b, o + 2, none⟩ = _ := c2
  have e1 : (w.drewN m0).frozen? ⟨b, o + 1, none⟩ = false := fb1
  have e2 : (w.drewN m0).frozen? ⟨b, o + 2, none⟩ = false := fb2
  have BW : Below w.heap.size w (w.drewN m0).drew := ⟨rfl, rfl, rfl, Nat.le_refl _, fun _ _ => rfl⟩
  have CL' := CL.out (m0 + 1)
  have HP' := HP.out (m0 + 1)
  have eqW : w.drewN (m0 + 1) = (w.drewN m0).drew := rfl
  rw [eqW] at CL' HP'
  have HP2 := Lib.hid HP'
  have BW2 := Lib.hid BW
  clear HP HP' CL eqW BW c0 c1 c2 fb1 fb2 AT
  generalize w.drewN m0 = W at *
  go_still_tail 14, (by kernel_rfl)
  change wpList _ _ _ _ _ W.drew
  have e0 : W.drew.cell? ⟨b, o, none⟩ = _ := d0
  have e1' : W.drew.cell? ⟨b, o + 1, none⟩ = _ := d1
  have e2' : W.drew.cell? ⟨b, o + 2, none⟩ = _ := d2
  have f1' : W.drew.frozen? ⟨b, o + 1, none⟩ = false := e1
  have f2' : W.drew.frozen? ⟨b, o + 2, none⟩ = false := e2
  have hcl := CL' 0
  clear d0 d1 d2 e1 e2 CL' hsl hu fg
  generalize W.drew = V at *
  have PL2 := Lib.hid (PL.out (V.setCell ⟨g, f, none⟩ (.pointer none)) ((World.cell?_of_block (a := ⟨b, o, none⟩) (Below.heap_setCell V ⟨g, f, none⟩ _ b (by simpa using h6))).trans e0) ((World.cell?_of_block (a := ⟨b, o + 1, none⟩) (Below.heap_setCell V ⟨g, f, none⟩ _ b (by simpa using h6))).trans e1'))
  clear PL
  go_wp2_with (go_at_call 91; (with_reducible refine PL2.out.mono ?_); rintro e w' ⟨rfl, mm, rfl⟩)
  go_ret2
  exact ⟨rfl, r, HP2.out.later (below_drewN2 _ mm), ((((Kept.of _ BW2.out).set g _ _ (by simp [blk, Value.ownBlock])).set b _ _ (by simp [blk])).set b _ _ (by simp [blk])).later (below_drewN2 _ mm), ((((FrQ.of BW2.out hbl).setg g _ _ hbg).setb _ _ (by omega)).setb _ _ (by omega)).trans (FrQ.of (below_drewN2 _ mm) (by simp; exact Nat.lt_of_lt_of_le hbl BW2.out.size))⟩
theorem pop_noneP {B b o N f : Nat} {v : Value} (w : World) (h : FQP B w b o v N f []) : Calls Tryz.prog 93 #[.pointer (some ⟨b, o, none⟩)] w (Quiet (.tuple #[.pointer none, .bool false]) w) := by
  have AT := Lib.hid (at_outP w h (i := 0) (by simp))
  go_enter Tryz.func93, Tryz.ntmps93
  go_wp2_with (go_at_call 76; (with_reducible refine AT.out.mono ?_); rintro e w1 ⟨rfl, m0, rfl⟩)
  go_ret2
  exact ⟨rfl, m0, rfl⟩
end Go.Proofs.YtngmaiiibinkaaaGreat
/- The executive in memory. -/
namespace Go.Proofs.YtngmaiiibinkaaaGreat
open Go.RowKit
set_option linter.unusedVariables false
set_option linter.unusedSimpArgs false

abbrev TX : TypeId := 85
abbrev TRe : TypeId := 107
abbrev TRi : TypeId := 104
abbrev TQu : TypeId := 127
abbrev THe : TypeId := 122
abbrev TTh : TypeId := 147
abbrev TTs : TypeId := 25
/-- Numbers that lie in a row of the call's own, from some place on. -/
structure Com (B : Nat) (w : World) (v : Value) (l : List Nat) : Prop where
  ex : ∃ g off cs, v = .slice (some ⟨g, off, none⟩) l.length l.length ∧ B ≤ g ∧ w.heap[g]? = some (.cells cs TIn (0, 0)) ∧ l.length ≤ 1000 ∧ ∀ (j p : Nat), l[j]? = some p → w.cell? ⟨g, off + j, none⟩ = some (.int .i64 (p : Int))
theorem Com.kt {S : List TypeId} {B : Nat} {w w' : World} {v : Value} {l : List Nat} (h : Com B w v l) (hk : KT S w w') (hS : TIn ∉ S) : Com B w' v l := by
  obtain ⟨g, off, cs, hv, hB, hg, hl, hc⟩ := h.ex
  exact ⟨g, off, cs, hv, hB, hk.blk g cs _ hg hS, hl, fun j p hp => (hk.cell (v := .int .i64 0) hg hS).trans (hc j p hp)⟩
theorem HsI.tys {K : LK} {B : Nat} {w : World} {b c : Nat} {X : List Nat} {L : List Int} (h : HsI K B w b X c L) : ∀ k ∈ X, ∃ cs T, w.heap[k]? = some (.cells cs T (0, 0)) ∧ T ∈ [THe, TTh] := by
  obtain ⟨⟨v, l, h1, rfl, h2⟩, h3⟩ := h
  intro k hk
  simp only [blk, List.mem_cons] at hk
  rcases hk with rfl | hk
  · exact ⟨_, _, h1.is, by simp⟩
  · obtain ⟨cs, hcs⟩ := own_ty h1.row (g := k) (by simpa using hk)
    exact ⟨cs, _, hcs, by simp⟩
theorem HsI.kt {S : List TypeId} {K : LK} {B : Nat} {w0 w w' : World} {b c : Nat} {X : List Nat} {L : List Int} (h : HsI K B w b X c L) (hk : KT S w w') (hS : THe ∉ S ∧ TTh ∉ S ∧ TTs ∉ S)
    (hb : Below w0.heap.size w0 w) (hb' : Below w0.heap.size w0 w') (hl : K.lb < w0.heap.size) (hx : ∃ cs, w.heap[K.bl]? = some (.cells cs TTs (0, 0))) : HsI K B w' b X c L := by
  obtain ⟨⟨v, l, h1, h2, h3⟩, h4⟩ := h
  obtain ⟨cs, hcs⟩ := hx
  exact ⟨⟨v, l, ⟨h1.hB, hk.blk _ _ _ h1.is hS.1, hk.row h1.row hS.2.1, h1.ok, h1.few, h1.lim, ⟨h1.less.lt, h1.less.lb, Nat.le_trans h1.less.sz hk.size, h1.less.few, h1.less.cp, (hk.cell (v := .int .i64 0) hcs hS.2.2).trans h1.less.box,
    fun i p hp => ((hb'.cell (p := ⟨K.lb, K.lo + i * 7 + 6, none⟩) hl).trans (hb.cell (p := ⟨K.lb, K.lo + i * 7 + 6, none⟩) hl).symm).trans (h1.less.rd i p hp)⟩⟩, h2, h3⟩, h4⟩
theorem FQP.kt {S : List TypeId} {B b o N f : Nat} {w w' : World} {v : Value} {l : List Nat} (h : FQP B w b o v N f l) (hk : KT S w w') (hS : TQu ∉ S ∧ TRi ∉ S) : FQP B w' b o v N f l := by
  obtain ⟨cur, hc⟩ := h.row
  refine ⟨h.hB, ⟨cur, hk.blk _ _ _ hc hS.1⟩, (hk.cell (v := v) hc hS.1).trans h.c0, (hk.cell (v := v) hc hS.1).trans h.c1, (hk.cell (v := v) hc hS.1).trans h.c2, ?_, h.lim⟩
  rcases h.ring with h | ⟨g, cur, rfl, hg, hh, r⟩
  · exact .inl h
  · exact .inr ⟨g, cur, rfl, hg, hk.blk _ _ _ hh hS.2, r⟩
theorem FQP.tys {B b o N f : Nat} {w : World} {v : Value} {l : List Nat} (h : FQP B w b o v N f l) : ∀ k ∈ blk b v, ∃ cs T, w.heap[k]? = some (.cells cs T (0, 0)) ∧ T ∈ [TQu, TRi] := by
  intro k hk
  simp only [blk, List.mem_cons] at hk
  rcases hk with rfl | hk
  · obtain ⟨cur, hc⟩ := h.row
    exact ⟨_, _, hc, by simp⟩
  · rcases h.ring with ⟨rfl, _⟩ | ⟨g, cur, rfl, hg, hh, r⟩
    · simp [Value.ownBlock] at hk
    · simp [Value.ownBlock] at hk
      subst hk
      exact ⟨_, _, hh, by simp⟩
/-- What is left of a job. -/
structure Rst (w0 w : World) (b p : Nat) (k : Int) (c : List Int) : Prop where
  ge : w0.heap.size ≤ b
  is : ∃ A cc, w.heap[b]? = some (.cells #[.int .i64 (p : Int), .int .i64 k, .slice A c.length cc] TRe (0, 0)) ∧ CRow w0 A cc c
theorem Rst.kt {S : List TypeId} {w0 w w' : World} {b p : Nat} {k : Int} {c : List Int} (h : Rst w0 w b p k c) (hk : KT S w w') (hS : TRe ∉ S) : Rst w0 w' b p k c := by
  obtain ⟨A, cc, h1, h2⟩ := h.is
  exact ⟨h.ge, A, cc, hk.blk _ _ _ h1 hS, h2⟩
/-- What does not turn while it goes on. -/
structure Cfg where
  w0 : World
  R : Option Addr
  rc : Nat
  ts : List Ts
  js : List Fv
  o : List Nat
  K : LK
  bx : Nat
  hb : Nat
  gq : Nat
  Bh : Nat
structure Cok (C : Cfg) : Prop where
  row : FRow C.w0 C.R C.rc C.js
  ord : IsOrd (C.js.map (·.r)) C.o
  few : C.js.length ≤ 1000
  fewT : C.ts.length ≤ 1000
  lg : Lg C.js
  seq : Seq C.js
  dist : Dist C.ts
  t0 : ∀ i, i < C.js.length → 0 ≤ (jb C.js i).t ∧ (jb C.js i).t < C.ts.length
  bd : ∀ i, i < C.js.length → (jb C.js i).r ≤ 35184372088832 ∧ (jb C.js i).k ≤ 2147483647
  ps : C.K.ps = C.ts.map (·.p)
  lb : C.K.lb < C.w0.heap.size
  Bh : C.w0.heap.size ≤ C.Bh
  bx : C.w0.heap.size ≤ C.bx
/-- What turns. -/
structure Mv where
  m : Nat
  now : Int
  dn : List Int
  sp : List Spn
  en : List Int
  L : List Int
structure Ex (C : Cfg) (w : World) (M : Mv) (vc vs ve : Value) (rb : Nat → Nat) (rv : Nat → Value) (lf : Nat → Int × List Int) : Prop where
  bel : Below C.w0.heap.size C.w0 w
  box : w.heap[C.bx]? = some (.cells #[.slice C.R C.js.length C.rc, vc, .pointer (some ⟨C.hb, 0, none⟩), .slice (some ⟨C.gq, 0, none⟩) C.ts.length C.ts.length, .int .i64 M.now, vs, ve] TX (0, 0))
  com : Com C.w0.heap.size w vc (C.o.drop M.m)
  spn : w.ownsRow C.w0.heap.size TSp 3 vs M.sp.length (spC M.sp)
  ens : w.ownsRow C.w0.heap.size T64 1 ve C.js.length (numL M.en)
  hp : ∃ X c, HsI C.K C.Bh w C.hb X c M.L ∧ c ≤ M.m
  bl : ∃ cs, w.heap[C.K.bl]? = some (.cells cs TTs (0, 0))
  qs : ∀ τ, τ < C.ts.length → ∃ N f, FQP C.w0.heap.size w C.gq (τ * 3) (rv τ) N f ((quS C.js M.dn (C.o.take M.m) τ).map rb) ∧ N ≤ 2004
  qd : ∀ τ σ g, τ < C.ts.length → σ < C.ts.length → τ ≠ σ → (rv τ).ownBlock = some g → (rv σ).ownBlock ≠ some g
  rs : ∀ p, p ∈ C.o.take M.m → kO M.dn p < (jb C.js p).k → Rst C.w0 w (rb p) p (lf p).1 (lf p).2
  rd : ∀ p q, p ∈ C.o.take M.m → kO M.dn p < (jb C.js p).k → q ∈ C.o.take M.m → kO M.dn q < (jb C.js q).k → p ≠ q → rb p ≠ rb q
end Go.Proofs.YtngmaiiibinkaaaGreat
/- The executive's small calls: quiet, first, wait. -/
namespace Go.Proofs.YtngmaiiibinkaaaGreat
open Go.RowKit
set_option linter.unusedVariables false
set_option linter.unusedSimpArgs false
attribute [local go_sem ↓] Go.wp_at_zero Go.wp_at_succ
theorem wrap64_in {n : Int} (h : -9223372036854775808 ≤ n ∧ n ≤ 9223372036854775807) : wrap64 n = n := by unfold wrap64; omega
section
variable {C : Cfg} {w w' : World} {M : Mv} {vc vs ve : Value} {rb : Nat → Nat} {rv : Nat → Value} {lf : Nat → Int × List Int}
theorem Ex.cell (h : Ex C w M vc vs ve rb rv lf) (i : Nat) : w.cell? ⟨C.bx, i, none⟩ = (#[.slice C.R C.js.length C.rc, vc, .pointer (some ⟨C.hb, 0, none⟩), .slice (some ⟨C.gq, 0, none⟩) C.ts.length C.ts.length, .int .i64 M.now, vs, ve] : Array Value)[i]? := cell_of_row w C.bx i _ _ _ h.box
theorem Ex.fz (h : Ex C w M vc vs ve rb rv lf) (i : Nat) : w.frozen? ⟨C.bx, i, none⟩ = false := by simp [World.frozen?, h.box]
theorem Ex.c0 (h : Ex C w M vc vs ve rb rv lf) : w.cell? ⟨C.bx, 0, none⟩ = some (.slice C.R C.js.length C.rc) := h.cell 0
theorem Ex.c1 (h : Ex C w M vc vs ve rb rv lf) : w.cell? ⟨C.bx, 1, none⟩ = some vc := h.cell 1
theorem Ex.c2 (h : Ex C w M vc vs ve rb rv lf) : w.cell? ⟨C.bx, 2, none⟩ = some (.pointer (some ⟨C.hb, 0, none⟩)) := h.cell 2
theorem Ex.c3 (h : Ex C w M vc vs ve rb rv lf) : w.cell? ⟨C.bx, 3, none⟩ = some (.slice (some ⟨C.gq, 0, none⟩) C.ts.length C.ts.length) := h.cell 3
theorem Ex.c4 (h : Ex C w M vc vs ve rb rv lf) : w.cell? ⟨C.bx, 4, none⟩ = some (.int .i64 M.now) := h.cell 4
theorem Ex.c5 (h : Ex C w M vc vs ve rb rv lf) : w.cell? ⟨C.bx, 5, none⟩ = some vs := h.cell 5
theorem Ex.c6 (h : Ex C w M vc vs ve rb rv lf) : w.cell? ⟨C.bx, 6, none⟩ = some ve := h.cell 6
/-- All but the block itself, where only blocks of other types turn. -/
theorem Ex.later (h : Ex C w M vc vs ve rb rv lf) (hC : Cok C) (hb : Below w.heap.size w w') : Ex C w' M vc vs ve rb rv lf := by
  have k : KT [] w w' := KT.of hb
  have b' := h.bel.trans (hb.mono h.bel.size)
  refine ⟨b', k.blk _ _ _ h.box (by simp), h.com.kt k (by simp), k.row h.spn (by simp), k.row h.ens (by simp), ?_, ?_, fun τ hτ => ?_, h.qd, fun p hp hk => (h.rs p hp hk).kt k (by simp), h.rd⟩
  · obtain ⟨X, c, h1, h2⟩ := h.hp
    exact ⟨X, c, h1.later hb, h2⟩
  · obtain ⟨cs, hc⟩ := h.bl
    exact ⟨cs, k.blk _ _ _ hc (by simp)⟩
  · obtain ⟨N, f, h1, h2⟩ := h.qs τ hτ
    exact ⟨N, f, h1.kt k (by simp), h2⟩
/-- How long it stays as it is. -/
def relS (C : Cfg) (M : Mv) : Int := match C.o.drop M.m with | [] => 9223372036854775807 | p :: _ => (jb C.js p).r - M.now
theorem Cok.rel (hC : Cok C) {p : Nat} (hp : p ∈ C.o) : p < C.js.length := by have := hC.ord.mem.1 hp; simpa using this
set_option maxRecDepth 100000 in
set_option maxHeartbeats 4000000 in
theorem quiet_any (hC : Cok C) (h : Ex C w M vc vs ve rb rv lf) (hn : 0 ≤ M.now ∧ M.now ≤ 9223372036854775807) : Calls Tryz.prog 58 #[.pointer (some ⟨C.bx, 0, none⟩)] w (Quiet (.int .i64 (relS C M)) w) := by
  obtain ⟨g, off, cs, rfl, hB, hg, hl, hc⟩ := h.com.ex
  have c0 := h.c0
  have c1 := h.c1
  have c4 := h.c4
  unfold relS
  cases hd : C.o.drop M.m with
  | nil =>
    rw [hd] at c1
    simp only [List.length_nil] at c1
    clear h hc hd
    go_enter Tryz.func58, Tryz.ntmps58
    go_wp2
    go_ret
    exact ⟨rfl, 0, rfl⟩
  | cons p r =>
    simp only
    rw [hd] at c1 hl hc
    have hp : p ∈ C.o := List.mem_of_mem_drop (i := M.m) (by rw [hd]; simp)
    have hpl := hC.rel hp
    obtain ⟨jbk, jo, x, A, cc, hR, hx, hjl, hF⟩ := (hC.row.later (h.bel)).get hpl
    have hx2 := jb_get hx
    have e1 := hc 0 p rfl
    rw [Nat.add_zero] at e1
    have e2 := hF.c2
    rw [← hx2] at e2
    have hbd := hC.bd p hpl
    have hr0 := hC.lg.r0 p hpl
    have hnow := hn
    have hfew := hC.few
    have i0 : (0 : Int) ≤ (p : Int) := by omega
    have i1 : (p : Int) < (C.js.length : Int) := by omega
    have ln : (p :: r).length = r.length + 1 := rfl
    rw [ln] at c1
    have lz : ((r.length + 1 : Nat) : Int) ≠ 0 := by omega
    have lp : (0 : Int) < ((r.length + 1 : Nat) : Int) := by omega
    generalize (jb C.js p).r = rr at *
    generalize M.now = now at *
    have hw : IntKind.i64.wrap (rr - now) = rr - now := IntWalk.i64_in _ (by omega)
    rw [hR] at c0
    clear h hc hd hF hx hx2 hR hl
    go_enter Tryz.func58, Tryz.ntmps58
    go_wp2
    go_upto_region 3 with (fail)
    go_quiet (fail)
    go_wp2
    go_ret
    exact ⟨rfl, _, rfl⟩
set_option maxRecDepth 100000 in
set_option maxHeartbeats 4000000 in
theorem first_none (h : Ex C w M vc vs ve rb rv lf) (hL : M.L = []) : Calls Tryz.prog 59 #[.pointer (some ⟨C.bx, 0, none⟩)] w (Told (.pointer none) w) := by
  obtain ⟨X, c, hH, hc⟩ := h.hp
  rw [hL] at hH
  have PK := Lib.hid (hnilI hH).2
  have c2 := h.c2
  clear h hH hc hL
  go_enter Tryz.func59, Tryz.ntmps59
  go_wp2_with (go_at_call 75; (with_reducible refine PK.out.mono ?_); rintro e w1 ⟨rfl, hB1⟩)
  go_ret
  exact ⟨rfl, hB1⟩
set_option maxRecDepth 100000 in
set_option maxHeartbeats 4000000 in
theorem first_some {τ p : Nat} {r : List Int} {rest : List Nat} (hC : Cok C) (h : Ex C w M vc vs ve rb rv lf) (hL : M.L = (τ : Int) :: r) (hτ : τ < C.ts.length) (hq : quS C.js M.dn (C.o.take M.m) τ = p :: rest) :
    Calls Tryz.prog 59 #[.pointer (some ⟨C.bx, 0, none⟩)] w (Told (.pointer (some ⟨rb p, 0, none⟩)) w) := by
  obtain ⟨X, c, hH, hc⟩ := h.hp
  rw [hL] at hH
  obtain ⟨N, f, hQ, hN⟩ := h.qs τ hτ
  rw [hq] at hQ
  have PK := Lib.hid (hpeekI hH)
  have AT := Lib.hid (fun W (hB : Below w.heap.size w W) => show Calls Tryz.prog 76 #[.pointer (some ⟨C.gq, τ * 3, none⟩), .int .i64 0] W (Quiet (.tuple #[.pointer (some ⟨rb p, 0, none⟩), .bool true]) W) from at_inP W ((hQ.kt (KT.of (S := []) hB) (by simp))) (i := 0) (x := rb p) rfl)
  have c2 := h.c2
  have c3 := h.c3
  have hbx := h.bel
  have l3 := World.block_lt_of_cell? w _ c3
  have i0 : (0 : Int) ≤ (τ : Int) := by omega
  have i1 : (τ : Int) < (C.ts.length : Int) := by omega
  generalize C.ts.length = n at *
  clear h hH hc hL hQ hq
  go_enter Tryz.func59, Tryz.ntmps59
  go_upto_region 2 with (go_at_call 75; (with_reducible refine PK.out.mono ?_); rintro e w1 ⟨rfl, hB1⟩)
  have d3 := (hB1.cell (p := ⟨C.bx, 3, none⟩) l3).trans c3
  clear c2 c3
  go_wp2_with (go_at_call 76; (with_reducible refine (AT.out _ hB1).mono ?_); rintro e w2 ⟨rfl, k, rfl⟩)
  go_ret
  exact ⟨rfl, hB1.trans ((below_drewN2 w1 k).mono hB1.size)⟩
/-- Where only the block itself turns, and of that only ticks. -/
theorem Ex.wait (h : Ex C w M vc vs ve rb rv lf) (hC : Cok C) (n : Int) : Ex C (w.setCell ⟨C.bx, 4, none⟩ (.int .i64 n)) { M with now := n } vc vs ve rb rv lf := by
  have k : KT [TX] w (w.setCell ⟨C.bx, 4, none⟩ (.int .i64 n)) := KT.set h.box (by simp)
  have b' : Below C.w0.heap.size C.w0 (w.setCell ⟨C.bx, 4, none⟩ (.int .i64 n)) := below_set h.bel hC.bx h.bel.size
  refine ⟨b', heap_setCell_same _ _ 4 _ _ _ h.box, h.com.kt k (by decide), k.row h.spn (by decide), k.row h.ens (by decide), ?_, ?_, fun τ hτ => ?_, h.qd, fun p hp hk => (h.rs p hp hk).kt k (by decide), h.rd⟩
  · obtain ⟨X, c, h1, h2⟩ := h.hp
    exact ⟨X, c, h1.kt k (by decide) h.bel b' hC.lb h.bl, h2⟩
  · obtain ⟨cs, hc⟩ := h.bl
    exact ⟨cs, k.blk _ _ _ hc (by decide)⟩
  · obtain ⟨N, f, h1, h2⟩ := h.qs τ hτ
    exact ⟨N, f, h1.kt k (by decide), h2⟩
def ExP (C : Cfg) (M : Mv) (lf : Nat → Int × List Int) (e : Ending) (w' : World) : Prop := e = .returned (.tuple #[]) ∧ ∃ vc vs ve rb rv, Ex C w' M vc vs ve rb rv lf
set_option maxRecDepth 100000 in
set_option maxHeartbeats 4000000 in
theorem wait_any (hC : Cok C) (h : Ex C w M vc vs ve rb rv lf) (n : Int) (h0 : 0 ≤ M.now) (h1 : 0 ≤ n) (h2 : M.now + n ≤ 9223372036854775807) :
    Calls Tryz.prog 57 #[.pointer (some ⟨C.bx, 0, none⟩), .int .i64 n] w (ExP C { M with now := M.now + n } lf) := by
  have c4 := h.c4
  have f4 := h.fz 4
  have hw2 : wrap64 (M.now + n) = M.now + n := wrap64_in (by omega)
  have W := Lib.hid (h.wait hC (M.now + n))
  clear h
  go_enter Tryz.func57, Tryz.ntmps57
  go_wp2
  refine bodyPost_ret (results_none rfl _ _ _) rfl ?_
  exact ⟨rfl, vc, vs, ve, rb, rv, W.out⟩
end
end Go.Proofs.YtngmaiiibinkaaaGreat
/- Who is released: the plain side, and what stands in memory behind it. -/
namespace Go.Proofs.YtngmaiiibinkaaaGreat
open Go.RowKit
set_option linter.unusedVariables false
set_option linter.unusedSimpArgs false
section
variable {key : Int → Int}
theorem ins_mem (x y : Int) : ∀ L : List Int, y ∈ ins key x L ↔ y = x ∨ y ∈ L
  | [] => by simp [ins]
  | a :: l => by
    unfold ins
    split
    · simp
    · rw [List.mem_cons, ins_mem x y l, List.mem_cons]
      constructor
      · rintro (h | h | h) <;> simp [h]
      · rintro (h | h | h) <;> simp [h]
theorem ins_pw {x : Int} : ∀ {L : List Int}, L.Pairwise (fun a b => key a < key b) → (∀ y ∈ L, key y ≠ key x) → (ins key x L).Pairwise (fun a b => key a < key b)
  | [], _, _ => by simp [ins]
  | a :: l, h, hn => by
    have h1 := List.pairwise_cons.1 h
    unfold ins
    split
    · rename_i hlt
      refine List.pairwise_cons.2 ⟨fun y hy => ?_, h⟩
      rcases List.mem_cons.1 hy with rfl | hy
      · exact hlt
      · have := h1.1 y hy; omega
    · rename_i hlt
      have hna := hn a (by simp)
      refine List.pairwise_cons.2 ⟨fun y hy => ?_, ins_pw h1.2 (fun y hy => hn y (by simp [hy]))⟩
      rcases (ins_mem x y l).1 hy with rfl | hy
      · omega
      · exact h1.1 y hy
end
theorem key_tk {K : LK} {ts : List Ts} (hp : K.ps = ts.map (·.p)) {τ : Nat} (h : τ < ts.length) : keyK K (τ : Int) = (tk ts (τ : Int)).p := by
  have h1 : ts[τ]? = some ts[τ] := List.getElem?_eq_getElem h
  rw [tk_get h1]
  simp [keyK, hp, h1]
theorem tk_ne {ts : List Ts} (hD : Dist ts) {τ σ : Nat} (h1 : τ < ts.length) (h2 : σ < ts.length) (hne : τ ≠ σ) : (tk ts (τ : Int)).p ≠ (tk ts (σ : Int)).p := by
  have e1 : ts[τ]? = some ts[τ] := List.getElem?_eq_getElem h1
  have e2 : ts[σ]? = some ts[σ] := List.getElem?_eq_getElem h2
  rw [tk_get e1, tk_get e2]
  exact fun e => hne (hD _ _ _ _ e1 e2 e)
/-- Who is in the heap behind it. -/
def LS (C : Cfg) (M : Mv) (τ : Nat) : List Int := if quS C.js M.dn (C.o.take M.m) τ = [] then ins (keyK C.K) (τ : Int) M.L else M.L
section
variable {C : Cfg} {M : Mv}
theorem hd_pw_key {L : List Int} {dn : List Int} {l : List Nat} (hC : Cok C) (h : Hd C.ts C.js dn l L) : L.Pairwise (fun a b => keyK C.K a < keyK C.K b) := by
  refine List.Pairwise.imp_of_mem (fun {a b} ha hb hab => ?_) h.srt
  obtain ⟨σ, rfl, h1⟩ := h.nat a ha
  obtain ⟨ρ, rfl, h2⟩ := h.nat b hb
  rw [key_tk hC.ps h1, key_tk hC.ps h2]; exact hab
theorem Hd.rel {p τ : Nat} {r : List Nat} (hC : Cok C) (h : Hd C.ts C.js M.dn (C.o.take M.m) M.L) (hd : C.o.drop M.m = p :: r) (ht : (jb C.js p).t = (τ : Int)) (hk : kO M.dn p < (jb C.js p).k) (hτ : τ < C.ts.length) :
    Hd C.ts C.js M.dn (C.o.take (M.m + 1)) (LS C M τ) := by
  have hp : C.o[M.m]? = some p := by rw [← List.head?_drop, hd]; rfl
  have e := take_one hp
  rw [e]
  have q1 : quS C.js M.dn (C.o.take M.m ++ [p]) τ = quS C.js M.dn (C.o.take M.m) τ ++ [p] := by rw [quS_app, if_pos ⟨ht, hk⟩]
  have q2 : ∀ σ : Nat, σ ≠ τ → quS C.js M.dn (C.o.take M.m ++ [p]) σ = quS C.js M.dn (C.o.take M.m) σ := fun σ hσ => by
    rw [quS_app, if_neg (fun hh => hσ (by have := hh.1; rw [ht] at this; omega)), List.append_nil]
  unfold LS
  by_cases h0 : quS C.js M.dn (C.o.take M.m) τ = []
  · rw [if_pos h0]
    have hno : ∀ y ∈ M.L, keyK C.K y ≠ keyK C.K (τ : Int) := fun y hy => by
      obtain ⟨σ, rfl, h1⟩ := h.nat y hy
      rw [key_tk hC.ps h1, key_tk hC.ps hτ]
      refine tk_ne hC.dist h1 hτ (fun hh => ?_)
      subst hh
      exact (h.mem σ).1 hy h0
    refine ⟨?_, fun σ => ?_, fun x hx => ?_⟩
    · refine List.Pairwise.imp_of_mem (fun {a b} ha hb hab => ?_) (ins_pw (x := (τ : Int)) (hd_pw_key hC h) hno)
      have nat : ∀ x ∈ ins (keyK C.K) (τ : Int) M.L, ∃ τ : Nat, x = (τ : Int) ∧ τ < C.ts.length := fun x hx => by
        rcases (ins_mem _ _ _).1 hx with rfl | hx
        · exact ⟨τ, rfl, hτ⟩
        · exact h.nat x hx
      obtain ⟨σ, rfl, h1⟩ := nat a ha
      obtain ⟨ρ, rfl, h2⟩ := nat b hb
      rw [← key_tk hC.ps h1, ← key_tk hC.ps h2]; exact hab
    · rw [ins_mem]
      by_cases hσ : σ = τ
      · subst hσ; simp [q1]
      · rw [q2 σ hσ, ← h.mem σ]
        constructor
        · rintro (hh | hh)
          · omega
          · exact hh
        · exact .inr
    · rcases (ins_mem _ _ _).1 hx with rfl | hx
      · exact ⟨τ, rfl, hτ⟩
      · exact h.nat x hx
  · rw [if_neg h0]
    refine ⟨h.srt, fun σ => ?_, h.nat⟩
    by_cases hσ : σ = τ
    · subst hσ
      rw [q1, h.mem σ]
      simp [h0]
    · rw [q2 σ hσ, h.mem σ]
theorem rel_done {k : Nat} {n : Int} (hC : Cok C) (hk : k ≤ C.o.length) (lo : ∀ p ∈ C.o.take k, (jb C.js p).r ≤ n) (hi : ∀ p r, C.o.drop k = p :: r → n < (jb C.js p).r) : Rel C.js C.o k n := by
  refine ⟨hk, lo, fun q hq => ?_⟩
  cases hd : C.o.drop k with
  | nil => rw [hd] at hq; cases hq
  | cons p r =>
    have h1 := hi p r hd
    have hs := hC.ord.srt.sublist (List.drop_sublist k C.o)
    rw [hd] at hs hq
    rcases List.mem_cons.1 hq with rfl | hq
    · exact h1
    · have := (List.pairwise_cons.1 hs).1 q hq
      have hp : p < C.js.length := hC.rel (List.mem_of_mem_drop (i := k) (by rw [hd]; simp))
      have hq : q < C.js.length := hC.rel (List.mem_of_mem_drop (i := k) (by rw [hd]; simp [hq]))
      unfold Ahead at this
      rw [kO_rls hp, kO_rls hq] at this
      omega
end
/-- Another queue of the same row. -/
theorem FQP.other {B b o o' N f : Nat} {w w' : World} {v v' : Value} {l : List Nat} (h : FQP B w b o' v' N f l) (hk : Kept (blk b v) w w') (hf : FrQ b o w w') (ho : o' + 3 ≤ o ∨ o + 3 ≤ o')
    (hr : ∃ cur, w'.heap[b]? = some (Obj.cells cur TQu (0, 0))) (hring : ∀ g, v'.ownBlock = some g → v.ownBlock ≠ some g) : FQP B w' b o' v' N f l := by
  refine ⟨h.hB, hr, (hf _ (by omega)).trans h.c0, (hf _ (by omega)).trans h.c1, (hf _ (by omega)).trans h.c2, ?_, h.lim⟩
  obtain ⟨cq, hcq⟩ := h.row
  rcases h.ring with h1 | ⟨g, cur, rfl, hg, hh, r⟩
  · exact .inl h1
  · refine .inr ⟨g, cur, rfl, hg, (hk.block g (Array.getElem?_eq_some_iff.1 hh).1 ?_).trans hh, r⟩
    simp only [blk, List.mem_cons, Option.mem_toList]
    rintro (rfl | e)
    · rw [hcq] at hh
      simp only [Option.some.injEq, Obj.cells.injEq] at hh
      exact absurd hh.2.1 (by decide)
    · exact hring g rfl e
def roomUp (N n : Nat) : Nat := if n = N then 2 * N + 4 else N
theorem qpushP {B b o N f : Nat} {v : Value} {l : List Nat} (x : Nat) (w : World) (h : FQP B w b o v N f l) (hN : N ≤ 2004) : Calls Tryz.prog 74 #[.pointer (some ⟨b, o, none⟩), .pointer (some ⟨x, 0, none⟩)] w (PushPP B b o (roomUp N l.length) v (l ++ [x]) w) := by
  have hle := h.len_le
  unfold roomUp
  by_cases e : l.length = N
  · rw [if_pos e]; exact push_fullP x w h e (by omega)
  · rw [if_neg e]; exact push_roomP x w h (by omega)
section
variable {C : Cfg} {w w1 w2 w3 w5 : World} {M : Mv} {vc vs ve : Value} {rb : Nat → Nat} {rv : Nat → Value} {lf : Nat → Int × List Int}
theorem quS_len {dn : List Int} {l : List Nat} {τ : Nat} {js : List Fv} : (quS js dn l τ).length ≤ l.length := by unfold quS; exact List.length_filter_le _ _
/-- One more is released: what stands in memory behind it. -/
theorem Ex.rel {p τ N f : Nat} {r : List Nat} {v' : Value} {A : Option Addr} {cc : Nat} (hC : Cok C) (h : Ex C w M vc vs ve rb rv lf) (hd : C.o.drop M.m = p :: r) (ht : (jb C.js p).t = (τ : Int)) (hτ : τ < C.ts.length) (hk : kO M.dn p < (jb C.js p).k)
    (hlf : lf p = ((jb C.js p).k, (jb C.js p).c)) (hcr : CRow C.w0 A cc (jb C.js p).c)
    (hx1 : Ex C w M vc vs ve rb rv lf → ∃ vc', w1 = w.setCell ⟨C.bx, 1, none⟩ vc' ∧ Com C.w0.heap.size w vc' r) (hB2 : Below w1.heap.size w1 w2) (k23 : KT [THe, TTh] w2 w3) (hb3 : Below C.w0.heap.size C.w0 w3) (hH : ∃ X c, HsI C.K C.Bh w3 C.hb X c (LS C M τ) ∧ c ≤ M.m + 1)
    {l : List Nat} {N0 f0 : Nat} (hl : (quS C.js M.dn (C.o.take M.m) τ).map rb = l)
    (hQ0 : FQP C.w0.heap.size (w3.alloc (.cells #[.int .i64 (p : Int), .int .i64 (jb C.js p).k, .slice A (jb C.js p).c.length cc] TRe)) C.gq (τ * 3) (rv τ) N0 f0 l)
    (hQ : FQP C.w0.heap.size w5 C.gq (τ * 3) v' N f (l ++ [w3.heap.size])) (hN : N ≤ 2004)
    (hK : Kept (blk C.gq (rv τ)) (w3.alloc (.cells #[.int .i64 (p : Int), .int .i64 (jb C.js p).k, .slice A (jb C.js p).c.length cc] TRe)) w5) (hF : FrQ C.gq (τ * 3) (w3.alloc (.cells #[.int .i64 (p : Int), .int .i64 (jb C.js p).k, .slice A (jb C.js p).c.length cc] TRe)) w5)
    (hX : ∀ k ∈ blk C.gq v', k ∈ blk C.gq (rv τ) ∨ (w3.alloc (.cells #[.int .i64 (p : Int), .int .i64 (jb C.js p).k, .slice A (jb C.js p).c.length cc] TRe)).heap.size ≤ k) :
    ∃ vc' rb' rv', Ex C w5 { M with m := M.m + 1, L := LS C M τ } vc' vs ve rb' rv' lf := by
  obtain ⟨vc', rfl, hcom⟩ := hx1 h
  have hp : C.o[M.m]? = some p := by rw [← List.head?_drop, hd]; rfl
  have e := take_one hp
  have hd1 : C.o.drop (M.m + 1) = r := by rw [← List.drop_drop, hd]; rfl
  have hpn : p ∉ C.o.take M.m := by
    intro hm
    have := hC.ord.nodup
    rw [← List.take_append_drop M.m C.o, hd] at this
    exact (List.nodup_append.1 this).2.2 p hm p (by simp) rfl
  have q1 : quS C.js M.dn (C.o.take (M.m + 1)) τ = quS C.js M.dn (C.o.take M.m) τ ++ [p] := by rw [e, quS_app, if_pos ⟨ht, hk⟩]
  have q2 : ∀ σ : Nat, σ ≠ τ → quS C.js M.dn (C.o.take (M.m + 1)) σ = quS C.js M.dn (C.o.take M.m) σ := fun σ hσ => by
    rw [e, quS_app, if_neg (fun hh => hσ (by have := hh.1; rw [ht] at this; omega)), List.append_nil]
  have hmap : ∀ σ, (quS C.js M.dn (C.o.take M.m) σ).map (fun q => if q = p then w3.heap.size else rb q) = (quS C.js M.dn (C.o.take M.m) σ).map rb := fun σ => by
    refine List.map_congr_left fun q hq => ?_
    rw [if_neg (fun hh => hpn (by rw [← hh]; exact (quS_mem.1 hq).1))]
  have kx : KT [TX] w (w.setCell ⟨C.bx, 1, none⟩ vc') := KT.set h.box (by simp)
  have k12 : KT [] (w.setCell ⟨C.bx, 1, none⟩ vc') w2 := KT.of hB2
  have hb4 : Below w3.heap.size w3 (w3.alloc (.cells #[.int .i64 (p : Int), .int .i64 (jb C.js p).k, .slice A (jb C.js p).c.length cc] TRe)) := (Below.refl _ _).alloc (Nat.le_refl _) _
  have hnew := heap_alloc_new w3 (.cells #[.int .i64 (p : Int), .int .i64 (jb C.js p).k, .slice A (jb C.js p).c.length cc] TRe)
  generalize w3.alloc (.cells #[.int .i64 (p : Int), .int .i64 (jb C.js p).k, .slice A (jb C.js p).c.length cc] TRe) = w4 at *
  have k34 : KT [] w3 w4 := KT.of hb4
  have k45 : KT [TQu, TRi] w4 w5 := KT.kept hK hQ0.tys
  have k25 : KT [THe, TTh, TQu, TRi] w2 w5 := ((k23.mono (by simp)).trans (k34.mono (by simp))).trans (k45.mono (by simp))
  have k15 : KT [THe, TTh, TQu, TRi] (w.setCell ⟨C.bx, 1, none⟩ vc') w5 := (k12.mono (by simp)).trans k25
  have k05 : KT [TX, THe, TTh, TQu, TRi] w w5 := (kx.mono (by simp)).trans (k15.mono (by simp))
  have k04 : KT [TX, THe, TTh] w w4 := (kx.mono (by simp)).trans ((k12.mono (by simp)).trans ((k23.mono (by simp)).trans (k34.mono (by simp))))
  have b4 : Below C.w0.heap.size C.w0 w4 := hb3.trans (hb4.mono hb3.size)
  have b5 : Below C.w0.heap.size C.w0 w5 := b4.trans (hK.below b4.size (fun k hk => (hQ0.blk_ge k hk).1))
  have hbox1 : (w.setCell ⟨C.bx, 1, none⟩ vc').heap[C.bx]? = some (.cells #[.slice C.R C.js.length C.rc, vc', .pointer (some ⟨C.hb, 0, none⟩), .slice (some ⟨C.gq, 0, none⟩) C.ts.length C.ts.length, .int .i64 M.now, vs, ve] TX (0, 0)) := heap_setCell_same _ _ 1 _ _ _ h.box
  have hs34 : w3.heap.size ≤ w4.heap.size := hb4.size
  have hs45 := k45.size
  have hold : ∀ σ g, σ < C.ts.length → (rv σ).ownBlock = some g → g < w.heap.size := by
    intro σ g hσ hg
    obtain ⟨N, f, h1, h2⟩ := h.qs σ hσ
    exact (h1.blk_ge g (by simp [blk, hg])).2
  have hws : w.heap.size ≤ w3.heap.size := Nat.le_trans kx.size (Nat.le_trans k12.size k23.size)
  have hqne : ∀ g, v'.ownBlock = some g → g ≠ C.gq := by
    intro g hg he
    subst he
    obtain ⟨cq, hcq⟩ := hQ.row
    rcases hQ.ring with ⟨rfl, _⟩ | ⟨g', cur, rfl, _, hh, _⟩
    · simp [Value.ownBlock] at hg
    · simp only [Value.ownBlock, Option.some.injEq] at hg
      subst hg
      rw [hcq] at hh
      simp only [Option.some.injEq, Obj.cells.injEq] at hh
      exact absurd hh.2.1 (by decide)
  have hnewring : ∀ g, v'.ownBlock = some g → (rv τ).ownBlock = some g ∨ w.heap.size ≤ g := by
    intro g hg
    rcases hX g (by simp [blk, hg]) with hm | hm
    · simp only [blk, List.mem_cons, Option.mem_toList] at hm
      rcases hm with hm | hm
      · exact absurd hm (hqne g hg)
      · exact .inl hm
    · exact .inr (by omega)
  refine ⟨vc', fun q => if q = p then w3.heap.size else rb q, fun σ => if σ = τ then v' else rv σ, b5, k15.blk _ _ _ hbox1 (by decide), ?_, k05.row h.spn (by decide), k05.row h.ens (by decide), ?_, ?_, fun σ hσ => ?_, ?_, ?_, ?_⟩
  · rw [hd1]; exact hcom.kt k05 (by decide)
  · obtain ⟨X, c, h1, h2⟩ := hH
    obtain ⟨cs, hc⟩ := h.bl
    have hc3 := ((kx.mono (S' := [TX, THe, TTh]) (by simp)).trans ((k12.mono (by simp)).trans (k23.mono (by simp)))).blk _ _ _ hc (by decide)
    exact ⟨X, c, h1.kt ((k34.mono (S' := [TQu, TRi]) (by simp)).trans k45) (by decide) hb3 b5 hC.lb ⟨cs, hc3⟩, h2⟩
  · obtain ⟨cs, hc⟩ := h.bl
    exact ⟨cs, k05.blk _ _ _ hc (by decide)⟩
  · by_cases hσt : σ = τ
    · subst hσt
      simp only [if_true]
      refine ⟨N, f, ?_, hN⟩
      rw [q1, List.map_append, hmap, hl]
      simpa using hQ
    · simp only [if_neg hσt]
      obtain ⟨N', f', h1, h2⟩ := h.qs σ hσ
      rw [q2 σ hσt, hmap]
      refine ⟨N', f', ?_, h2⟩
      exact (h1.kt k04 (by decide)).other hK hF (by omega) hQ.row (fun g hg => h.qd σ τ g hσ hτ hσt hg)
  · intro a b g ha hb hab hg
    by_cases h1 : a = τ
    · subst h1
      simp only [if_true] at hg
      rw [if_neg (Ne.symm hab)]
      rcases hnewring g hg with h2 | h2
      · exact h.qd _ b g ha hb hab h2
      · intro h3
        have := hold b g hb h3; omega
    · rw [if_neg h1] at hg
      by_cases h2 : b = τ
      · subst h2
        rw [if_pos rfl]
        intro h3
        rcases hnewring g h3 with h4 | h4
        · exact h.qd a _ g ha hb hab hg h4
        · have := hold a g ha hg; omega
      · rw [if_neg h2]
        exact h.qd a b g ha hb hab hg
  · intro q hq hqk
    rw [e] at hq
    by_cases hqp : q = p
    · subst hqp
      rw [if_pos rfl, hlf]
      exact ⟨by have := hb3.size; omega, A, cc, k45.blk _ _ _ hnew (by decide), hcr⟩
    · rw [if_neg hqp]
      have hq' : q ∈ C.o.take M.m := by
        rcases List.mem_append.1 hq with hh | hh
        · exact hh
        · exact absurd (List.mem_singleton.1 hh) hqp
      exact (h.rs q hq' hqk).kt k05 (by decide)
  · intro q s hq hqk hs hsk hne
    rw [e] at hq hs
    have key : ∀ q, q ∈ C.o.take M.m ++ [p] → kO M.dn q < (jb C.js q).k → q ≠ p → q ∈ C.o.take M.m ∧ rb q < w.heap.size := by
      intro q hq hqk hqp
      have hq' : q ∈ C.o.take M.m := by
        rcases List.mem_append.1 hq with hh | hh
        · exact hh
        · exact absurd (List.mem_singleton.1 hh) hqp
      obtain ⟨A, cc, h1, h2⟩ := (h.rs q hq' hqk).is
      exact ⟨hq', (Array.getElem?_eq_some_iff.1 h1).1⟩
    by_cases h1 : q = p
    · subst h1
      rw [if_pos rfl, if_neg (Ne.symm hne)]
      have := (key s hs hsk (Ne.symm hne)).2
      omega
    · rw [if_neg h1]
      by_cases h2 : s = p
      · subst h2
        rw [if_pos rfl]
        have := (key q hq hqk h1).2
        omega
      · rw [if_neg h2]
        exact h.rd q s (key q hq hqk h1).1 hqk (key s hs hsk h2).1 hsk hne
end
end Go.Proofs.YtngmaiiibinkaaaGreat
/- Who is released by now is put into the queues: the walk. -/
namespace Go.Proofs.YtngmaiiibinkaaaGreat
open Go.RowKit
set_option linter.unusedVariables false
set_option linter.unusedSimpArgs false
attribute [local go_sem ↓] Go.wp_at_zero Go.wp_at_succ
/-- What is left of a job that has worked so much. -/
def lfN (js : List Fv) (dn : List Int) (p : Nat) : Int × List Int := ((jb js p).k - kO dn p, cl (jb js p).c (kO dn p))
theorem lfN_zero {C : Cfg} (hC : Cok C) {dn : List Int} {p : Nat} (h : kO dn p = 0) : lfN C.js dn p = ((jb C.js p).k, (jb C.js p).c) := by
  unfold lfN; rw [h, Int.sub_zero, cl_zero _ (hC.lg.pos p)]
theorem run_tail (g off n : Nat) (w : World) (h : n ≤ 100000) : (Instr.slice 36 (.slice (some ⟨g, off, none⟩) (n + 1) (n + 1)) (some (.int .i64 1)) none none).run Tryz.prog w = .ok (.slice (some ⟨g, if n = 0 then off else off + 1, none⟩) n n) w := by
  have h3 : (0 : Int) ≤ 1 := by omega
  have h5 : (1 : Int).toNat = 1 := rfl
  by_cases h0 : n = 0
  · subst h0
    go_simp
  · have h1 : (1 : Int) ≤ ((n + 1 : Nat) : Int) := by omega
    have h4 : ¬ n + 1 = 1 := by omega
    have h6 : n + 1 - 1 = n := by omega
    rw [if_neg h0]
    go_simp
    intro h; omega
theorem Com.tail {B : Nat} {w : World} {g off n : Nat} {cs : Array Value} {p : Nat} {r : List Nat} (hB : B ≤ g) (hg : w.heap[g]? = some (.cells cs TIn (0, 0))) (hn : (p :: r).length = n + 1) (hl : n + 1 ≤ 1000) (hc : ∀ (j q : Nat), (p :: r)[j]? = some q → w.cell? ⟨g, off + j, none⟩ = some (.int .i64 (q : Int))) :
    Com B w (.slice (some ⟨g, if n = 0 then off else off + 1, none⟩) n n) r := by
  have hr : r.length = n := by simpa using hn
  refine ⟨g, if n = 0 then off else off + 1, cs, by rw [hr], hB, hg, by omega, fun j q hj => ?_⟩
  have hj2 := (List.getElem?_eq_some_iff.1 hj).1
  rw [if_neg (by omega)]
  have := hc (j + 1) q (by simpa using hj)
  rw [Nat.add_assoc, Nat.add_comm 1 j]; exact this
structure RlI (C : Cfg) (M : Mv) (k : Nat) (L : List Int) (w : World) : Prop where
  ex : ∃ vc vs ve rb rv, Ex C w { M with m := k, L := L } vc vs ve rb rv (lfN C.js M.dn)
  hd : Hd C.ts C.js M.dn (C.o.take k) L
  le : k ≤ C.o.length
  ge : M.m ≤ k
  lo : ∀ p ∈ C.o.take k, (jb C.js p).r ≤ M.now
def RlP (C : Cfg) (M : Mv) (e : Ending) (w' : World) : Prop := e = .returned (.tuple #[]) ∧ ∃ k L, RlI C M k L w' ∧ Rel C.js C.o k M.now
set_option maxRecDepth 100000 in
set_option maxHeartbeats 8000000 in
theorem release_any {C : Cfg} {M : Mv} {w : World} (hC : Cok C) (h : RlI C M M.m M.L w) (hn : 0 ≤ M.now ∧ M.now ≤ 9223372036854775807) (hz : ∀ p ∈ C.o.drop M.m, kO M.dn p = 0) :
    Calls Tryz.prog 56 #[.pointer (some ⟨C.bx, 0, none⟩)] w (RlP C M) := by
  have H0 := Lib.hid h
  have HN := Lib.hid hn
  have HZ := Lib.hid hz
  clear h hn hz
  go_enter Tryz.func56, Tryz.ntmps56
  go_wp2
  go_loopg [] (C.o.length + 1) (fun gm wr => ∃ (k : Nat) (L : List Int), C.o.length + 1 ≤ gm + k ∧ k ≤ C.o.length ∧ Hid (RlI C M k L wr))
  case atStart => exact ⟨M.m, M.L, by omega, H0.out.le, H0⟩
  case round =>
    obtain ⟨k, L, hm, hkl, hI⟩ := hrel
    clear H0
    obtain ⟨vc, vs, ve, rb, rv, hE⟩ := hI.out.ex
    obtain ⟨g, off, cs, rfl, hB, hg, hl, hc⟩ := hE.com.ex
    have c1 := hE.c1
    have HE := Lib.hid hE
    have Q := quiet_any hC hE HN.out
    simp only at hl hc c1 hg
    cases hd : C.o.drop k with
    | nil =>
      rw [hd] at c1
      simp only [List.length_nil] at c1
      have hrl := rel_done hC hkl hI.out.lo (fun p r e => by rw [hd] at e; cases e)
      have HR := Lib.hid hrl
      clear hE hc hl hg hd Q hrl
      go_wp2
      go_end0
      exact ⟨rfl, k, L, hI.out, HR.out⟩
    | cons p r =>
      have hrel : relS C { M with m := k, L := L } = (jb C.js p).r - M.now := by unfold relS; simp only [hd]
      rw [hrel] at Q
      have ln : (p :: r).length = r.length + 1 := rfl
      have lz : (0 : Int) < ((r.length + 1 : Nat) : Int) := by omega
      by_cases hr : (jb C.js p).r ≤ M.now
      · have hq : (decide ((jb C.js p).r - M.now ≤ 0)) = true := decide_eq_true (by omega)
        have Q := Lib.hid Q
        have HD := Lib.hid hd
        have hmd : ∀ q ∈ C.o.drop k, q ∈ C.o.drop M.m := fun q hq => by
          have hge := hI.out.ge
          have : C.o.drop k = (C.o.drop M.m).drop (k - M.m) := by rw [List.drop_drop]; congr 1; omega
          rw [this] at hq
          exact List.mem_of_mem_drop hq
        have HCM0 := Lib.hid (fun n va (hn : r.length = n) (hva : (if n = 0 then off else off + 1) = va) => show Com C.w0.heap.size wr (.slice (some ⟨g, va, none⟩) n n) r from by
          rw [← hva]
          refine Com.tail (p := p) hB hg (by simp [hn]) (by rw [hd] at hl; simp at hl; omega) (fun j q hj => hc j q (by rw [hd]; exact hj)))
        rw [hd, ln] at c1 hl
        have hp : p ∈ C.o := List.mem_of_mem_drop (i := k) (by rw [hd]; simp)
        have hpl := hC.rel hp
        have hfew := hC.few
        obtain ⟨t0, t1⟩ := hC.t0 p hpl
        obtain ⟨τ, hτ⟩ : ∃ τ : Nat, (jb C.js p).t = (τ : Int) := ⟨(jb C.js p).t.toNat, by omega⟩
        have HT := Lib.hid hτ
        have hτl : τ < C.ts.length := by omega
        obtain ⟨jbk, jo, x, A, cc, hR, hx, hjl, hF⟩ := hC.row.get hpl
        have hxe := jb_get hx
        subst hxe
        have HF := Lib.hid hF
        have e1 := hc 0 p (by rw [hd]; rfl)
        rw [Nat.add_zero] at e1
        clear hc hd hE hg hrel t0 t1 hτ
        go_upto_region 1 with (go_at_call 58; (with_reducible refine Q.out.mono ?_); rintro e w1 ⟨rfl, nq, rfl⟩)
        have HCM1 := Lib.hid (fun n va hn hva => (HCM0.out n va hn hva).kt (KT.of (S := []) (below_drewN2 wr nq)) (by simp))
        have hE1 := HE.out.later hC (below_drewN2 wr nq)
        have e1' : (wr.drewN nq).cell? ⟨g, off, none⟩ = _ := e1
        clear e1 c1
        generalize wr.drewN nq = W1 at *
        have c0 := hE1.c0
        have c1 := hE1.c1
        have c2 := hE1.c2
        have c3 := hE1.c3
        have f1 := hE1.fz 1
        have hdl : (C.o.drop k).length = r.length + 1 := by rw [HD.out]; rfl
        simp only [hdl] at c1
        rw [hR] at c0
        have jW := hF.later hE1.bel
        have j0 := jW.c0
        have j1 := jW.c1
        have j2 := jW.c2
        have j3 := jW.c3
        have j4 := jW.c4
        have hld := jW.loadJ
        obtain ⟨va, hva⟩ : ∃ va, (if r.length = 0 then off else off + 1) = va := ⟨_, rfl⟩
        have HCM := Lib.hid (HCM1.out _ va rfl hva)
        have hsl := fun w => run_tail g off r.length w (by omega)
        rw [hva] at hsl
        clear hva
        have i0 : (0 : Int) ≤ (p : Int) := by omega
        have i1 : (p : Int) < (C.js.length : Int) := by omega
        have HE1 := Lib.hid hE1
        have JW := Lib.hid jW
        clear hE1 jW hdl hF hx hR
        go_upto_region 3 with (fail)
        have kx : KT [TX] W1 (W1.setCell ⟨C.bx, 1, none⟩ (.slice (some ⟨g, va, none⟩) r.length r.length)) := KT.set HE1.out.box (by simp)
        have bel2 : Below C.w0.heap.size C.w0 (W1.setCell ⟨C.bx, 1, none⟩ (.slice (some ⟨g, va, none⟩) r.length r.length)) := below_set HE1.out.bel hC.bx HE1.out.bel.size
        obtain ⟨W2, hW2⟩ : ∃ W2, W1.setCell ⟨C.bx, 1, none⟩ (.slice (some ⟨g, va, none⟩) r.length r.length) = W2 := ⟨_, rfl⟩
        have d0 : W2.cell? ⟨C.bx, 0, none⟩ = some (.slice (some ⟨jbk, jo, none⟩) C.js.length C.rc) := by rw [← hW2]; exact set_o c0 (by omega)
        have d2 : W2.cell? ⟨C.bx, 2, none⟩ = some (.pointer (some ⟨C.hb, 0, none⟩)) := by rw [← hW2]; exact set_o c2 (by omega)
        have d3 : W2.cell? ⟨C.bx, 3, none⟩ = some (.slice (some ⟨C.gq, 0, none⟩) C.ts.length C.ts.length) := by rw [← hW2]; exact set_o c3 (by omega)
        rw [hW2] at kx bel2 ⊢
        have KX := Lib.hid kx
        have BEL2 := Lib.hid bel2
        have jF2 := HF.out.later bel2
        have k0 := jF2.c0
        have k1 := jF2.c1
        have k2 := jF2.c2
        have k3 := jF2.c3
        have k4 := jF2.c4
        have kld := jF2.loadJ
        have HW2 := Lib.hid hW2
        clear kx bel2
        clear hW2 c0 c1 c2 c3 j0 j1 j2 j3 j4 hld f1 hsl e1' jF2
        go_upto_region 4 with (fail)
        rw [HT.out]
        have hb23 : Below W2.heap.size W2 (W2.alloc (.cells #[.int .i64 (τ : Int), .int .i64 (jb C.js p).a, .int .i64 (jb C.js p).r, .int .i64 (jb C.js p).k, .slice A (jb C.js p).c.length cc] 43)) := (Below.refl _ _).alloc (Nat.le_refl _) _
        have hzc := fun i => cell_of_row (W2.alloc (.cells #[.int .i64 (τ : Int), .int .i64 (jb C.js p).a, .int .i64 (jb C.js p).r, .int .i64 (jb C.js p).k, .slice A (jb C.js p).c.length cc] 43)) W2.heap.size i _ _ _ (heap_alloc_new W2 _)
        have HJB := Lib.hid (show ∃ cs, (W2.alloc (.cells #[.int .i64 (τ : Int), .int .i64 (jb C.js p).a, .int .i64 (jb C.js p).r, .int .i64 (jb C.js p).k, .slice A (jb C.js p).c.length cc] 43)).heap[W2.heap.size]? = some (Obj.cells cs 43 (0, 0)) from ⟨_, heap_alloc_new W2 _⟩)
        have z0 := hzc 0
        have z3 := hzc 3
        have z4 := hzc 4
        simp only [List.getElem?_toArray, List.getElem?_cons_zero, List.getElem?_cons_succ] at z0 z3 z4
        generalize W2.alloc (.cells #[.int .i64 (τ : Int), .int .i64 (jb C.js p).a, .int .i64 (jb C.js p).r, .int .i64 (jb C.js p).k, .slice A (jb C.js p).c.length cc] 43) = W3 at *
        generalize hnb : W2.heap.size = nb at *
        have l2 : C.bx < nb := by rw [← hnb]; exact World.block_lt_of_cell? W2 _ d2
        have y2 := (hb23.cell (p := ⟨C.bx, 2, none⟩) l2).trans d2
        have y3 := (hb23.cell (p := ⟨C.bx, 3, none⟩) l2).trans d3
        have HB23 := Lib.hid hb23
        have HNB := Lib.hid hnb
        obtain ⟨N, f, hQ1, hN⟩ := HE1.out.qs τ hτl
        simp only at hQ1
        have hQ3 := (hQ1.kt KX.out (by decide)).kt (KT.of (S := []) (by rw [hnb]; exact hb23)) (by simp)
        have HQ3 := Lib.hid hQ3
        have ti0 : (0 : Int) ≤ (τ : Int) := by omega
        have ti1 : (τ : Int) < (C.ts.length : Int) := by omega
        clear d0 d2 d3 k0 k1 k2 k3 k4 kld hzc hb23 hQ1 hQ3 hnb
        go_upto_region 4 with (fail)
        go_quiet (fail)
        have hB24 : Below nb W2 (W3.drewN nq) := HB23.out.trans ((below_drewN2 W3 nq).mono (by have := HB23.out.size; have := HNB.out; omega))
        have HJB : Hid (∃ cs, (W3.drewN nq).drew.heap[nb]? = some (Obj.cells cs 43 (0, 0))) := HJB
        have HQ4 := Lib.hid (HQ3.out.kt (KT.of (S := []) (below_drewN2 W3 nq)) (by simp))
        have z0' : (W3.drewN nq).cell? ⟨nb, 0, none⟩ = some (.int .i64 (τ : Int)) := z0
        have z3' : (W3.drewN nq).cell? ⟨nb, 3, none⟩ = some (.int .i64 (jb C.js p).k) := z3
        have z4' : (W3.drewN nq).cell? ⟨nb, 4, none⟩ = some (.slice A (jb C.js p).c.length cc) := z4
        have y2' : (W3.drewN nq).cell? ⟨C.bx, 2, none⟩ = some (.pointer (some ⟨C.hb, 0, none⟩)) := y2
        have HB24 := Lib.hid hB24
        clear z0 z3 z4 y2 y3 hB24 HQ3 HB23
        generalize W3.drewN nq = W4 at *
        have LN := len_anyP W4 HQ4.out
        rw [List.length_map] at LN
        by_cases h0 : quS C.js M.dn (C.o.take k) τ = []
        · rw [h0] at LN
          have LN := Lib.hid LN
          have HZ0 := Lib.hid h0
          clear h0
          obtain ⟨X, c, hH, hcm⟩ := HE1.out.hp
          simp only at hH hcm
          have bel4 : Below C.w0.heap.size C.w0 W4.drew := (BEL2.out.trans (HB24.out.mono (by rw [← HNB.out]; exact BEL2.out.size))).trans ((below_drew W4).mono (BEL2.out.trans (HB24.out.mono (by rw [← HNB.out]; exact BEL2.out.size))).size)
          have kt4 : KT [TX] W1 W4.drew := KX.out.trans (KT.of (by rw [HNB.out]; exact HB24.out.trans ((below_drew W4).mono (by have := HB24.out.size; have := HNB.out; omega))))
          have hH4 := hH.kt kt4 (by decide) HE1.out.bel bel4 hC.lb HE1.out.bl
          have hol := hC.ord.len
          rw [List.length_map] at hol
          have PU := Lib.hid (hpushI (x := (τ : Int)) hH4 ⟨τ, rfl, by rw [hC.ps, List.length_map]; exact hτl⟩ (by omega))
          have HH4 := Lib.hid hH4
          have KT4 := Lib.hid kt4
          have BEL4 := Lib.hid bel4
          have HCM2 := Lib.hid hcm
          clear hH hH4 kt4 bel4 hcm hol
          go_upto_region 6 with (go_at_call 73; (with_reducible refine LN.out.mono ?_); rintro e w1 ⟨rfl, rfl⟩)
          go_region_with (
            go_at_call 72; (with_reducible refine PU.out.mono ?_); rintro e W5 ⟨rfl, X', hH5, hK5, hX5⟩;
            have k23 : KT [THe, TTh] W4.drew W5 := KT.kept hK5 HH4.out.tys;
            obtain ⟨csj, hcsj⟩ := HJB.out;
            have z3'' := (k23.cell (b := nb) (i := 3) (v := .int .i64 0) hcsj (by decide)).trans z3';
            have z4'' := (k23.cell (b := nb) (i := 4) (v := .int .i64 0) hcsj (by decide)).trans z4';
            have hQV := (HQ4.out.kt (KT.of (S := []) (below_drew W4)) (by simp)).kt k23 (by decide);
            have bV : Below C.w0.heap.size C.w0 W5 := BEL4.out.trans (hK5.below BEL4.out.size (fun j hj => Nat.le_trans hC.Bh (HH4.out.ge j hj).1));
            have hbd : Below W2.heap.size W2 W4.drew := (by rw [HNB.out]; exact HB24.out.trans ((below_drew W4).mono (by have := HB24.out.size; have := HNB.out; omega)));
            have hHV : ∃ X c, HsI C.K C.Bh W5 C.hb X c (LS C { M with m := k, L := L } τ) ∧ c ≤ k + 1 := ⟨X', c + 1, (by unfold LS; rw [if_pos HZ0.out]; exact hH5), (by have := HCM2.out; omega)⟩;
            have hb6 : Below W5.heap.size W5 (W5.alloc (.cells #[.int .i64 (p : Int), .int .i64 (jb C.js p).k, .slice A (jb C.js p).c.length cc] TRe)) := (Below.refl _ _).alloc (Nat.le_refl _) _;
            have hQ6 := hQV.kt (KT.of (S := []) hb6) (by simp);
            have PP := Lib.hid (qpushP W5.heap.size _ hQ6 hN);
            have HQ6 := Lib.hid hQ6;
            have HHV := Lib.hid hHV;
            have BV := Lib.hid bV;
            have K23 := Lib.hid k23;
            have HBD := Lib.hid hbd;
            clear z0' z3' z4' y2' hcsj hH5 hK5 hX5 hQV hQ6 hb6 hHV bV k23 hbd)
          all_goals
            go_wp2_with (go_at_call 74; (with_reducible refine PP.out.mono ?_); rintro e W7 ⟨rfl, v', f', hQ7, hK7, hF7, hX7⟩)
            have hkp : kO M.dn p < (jb C.js p).k := by rw [HZ.out p (hmd p (by rw [HD.out]; simp))]; have := hC.lg.k1 p hpl; omega
            have hNr : roomUp N ((quS C.js M.dn (C.o.take k) τ).map rb).length ≤ 2004 := by
              have h1 := quS_len (js := C.js) (dn := M.dn) (l := C.o.take k) (τ := τ)
              have h2 : (C.o.take k).length ≤ C.o.length := by rw [List.length_take]; exact Nat.min_le_right _ _
              have h3 := hC.ord.len
              rw [List.length_map] at h3
              rw [List.length_map]
              unfold roomUp
              split
              · omega
              · exact hN
            have fin := HE1.out.rel (v' := v') (A := A) (cc := cc) hC HD.out HT.out hτl hkp (lfN_zero hC (HZ.out p (hmd p (by rw [HD.out]; simp)))) HF.out.s (fun _ => ⟨_, HW2.out.symm, HCM.out⟩) HBD.out K23.out BV.out HHV.out rfl HQ6.out hQ7 hNr hK7 hF7 hX7
            obtain ⟨vc2, rb2, rv2, hE2⟩ := fin
            have hd2 := hI.out.hd.rel (M := { M with m := k, L := L }) hC HD.out HT.out hkp hτl
            have hlo2 : ∀ q ∈ C.o.take (k + 1), (jb C.js q).r ≤ M.now := by
              have hpo : C.o[k]? = some p := by rw [← List.head?_drop, HD.out]; rfl
              rw [take_one hpo]
              intro q hq
              rcases List.mem_append.1 hq with hq | hq
              · exact hI.out.lo q hq
              · rw [List.mem_singleton.1 hq]; exact hr
            have hk1 : k + 1 ≤ C.o.length := by
              have := congrArg List.length HD.out
              rw [List.length_drop] at this
              simp at this; omega
            have FIN := Lib.hid (show RlI C M (k + 1) (LS C { M with m := k, L := L } τ) W7 from ⟨⟨vc2, vs, ve, rb2, rv2, hE2⟩, hd2, hk1, by have := hI.out.ge; omega, hlo2⟩)
            clear hE2 hd2 hlo2 hQ7 hK7 hF7 hX7
            go_roundg (gk - 1)
            case measure => omega
            case rel => exact ⟨k + 1, _, by omega, hk1, FIN⟩
        · have hne : ((((quS C.js M.dn (C.o.take k) τ).length : Nat) : Int) == 0) = false := by
            rw [beq_eq_false_iff_ne]
            intro hh
            exact h0 (List.eq_nil_of_length_eq_zero (by omega))
          have LN := Lib.hid LN
          have HZ0 := Lib.hid h0
          clear h0
          go_upto_region 7 with (go_at_call 73; (with_reducible refine LN.out.mono ?_); rintro e w1 ⟨rfl, rfl⟩)
          have k23 : KT [THe, TTh] W4 W4 := KT.refl _ _
          have hQV := HQ4.out
          have hbd : Below W2.heap.size W2 W4 := by rw [HNB.out]; exact HB24.out
          have bV : Below C.w0.heap.size C.w0 W4 := BEL2.out.trans (HB24.out.mono (by rw [← HNB.out]; exact BEL2.out.size))
          obtain ⟨X, c, hH, hcm⟩ := HE1.out.hp
          simp only at hH hcm
          have hHV : ∃ X c, HsI C.K C.Bh W4 C.hb X c (LS C { M with m := k, L := L } τ) ∧ c ≤ k + 1 := ⟨X, c, by unfold LS; rw [if_neg HZ0.out]; exact hH.kt (KX.out.trans (KT.of (by rw [HNB.out]; exact HB24.out))) (by decide) HE1.out.bel bV hC.lb HE1.out.bl, by omega⟩
          clear hH hcm
          have hb6 : Below W4.heap.size W4 (W4.alloc (.cells #[.int .i64 (p : Int), .int .i64 (jb C.js p).k, .slice A (jb C.js p).c.length cc] TRe)) := (Below.refl _ _).alloc (Nat.le_refl _) _
          have hQ6 := hQV.kt (KT.of (S := []) hb6) (by simp)
          have PP := Lib.hid (qpushP W4.heap.size _ hQ6 hN)
          have HQ6 := Lib.hid hQ6
          have HHV := Lib.hid hHV
          have BV := Lib.hid bV
          have K23 := Lib.hid k23
          have HBD := Lib.hid hbd
          clear hQV hQ6 hb6 hHV bV k23 hbd
          go_wp2_with (go_at_call 74; (with_reducible refine PP.out.mono ?_); rintro e W7 ⟨rfl, v', f', hQ7, hK7, hF7, hX7⟩)
          have hkp : kO M.dn p < (jb C.js p).k := by rw [HZ.out p (hmd p (by rw [HD.out]; simp))]; have := hC.lg.k1 p hpl; omega
          have hNr : roomUp N ((quS C.js M.dn (C.o.take k) τ).map rb).length ≤ 2004 := by
            have h1 := quS_len (js := C.js) (dn := M.dn) (l := C.o.take k) (τ := τ)
            have h2 : (C.o.take k).length ≤ C.o.length := by rw [List.length_take]; exact Nat.min_le_right _ _
            have h3 := hC.ord.len
            rw [List.length_map] at h3
            rw [List.length_map]
            unfold roomUp
            split
            · omega
            · exact hN
          have fin := HE1.out.rel (v' := v') (A := A) (cc := cc) hC HD.out HT.out hτl hkp (lfN_zero hC (HZ.out p (hmd p (by rw [HD.out]; simp)))) HF.out.s (fun _ => ⟨_, HW2.out.symm, HCM.out⟩) HBD.out K23.out BV.out HHV.out rfl HQ6.out hQ7 hNr hK7 hF7 hX7
          obtain ⟨vc2, rb2, rv2, hE2⟩ := fin
          have hd2 := hI.out.hd.rel (M := { M with m := k, L := L }) hC HD.out HT.out hkp hτl
          have hlo2 : ∀ q ∈ C.o.take (k + 1), (jb C.js q).r ≤ M.now := by
            have hpo : C.o[k]? = some p := by rw [← List.head?_drop, HD.out]; rfl
            rw [take_one hpo]
            intro q hq
            rcases List.mem_append.1 hq with hq | hq
            · exact hI.out.lo q hq
            · rw [List.mem_singleton.1 hq]; exact hr
          have hk1 : k + 1 ≤ C.o.length := by
            have := congrArg List.length HD.out
            rw [List.length_drop] at this
            simp at this; omega
          have FIN := Lib.hid (show RlI C M (k + 1) (LS C { M with m := k, L := L } τ) W7 from ⟨⟨vc2, vs, ve, rb2, rv2, hE2⟩, hd2, hk1, by have := hI.out.ge; omega, hlo2⟩)
          clear hE2 hd2 hlo2 hQ7 hK7 hF7 hX7
          go_roundg (gk - 1)
          case measure => omega
          case rel => exact ⟨k + 1, _, by omega, hk1, FIN⟩
      · have hq : (decide ((jb C.js p).r - M.now ≤ 0)) = false := decide_eq_false (by omega)
        have hrl := rel_done hC hkl hI.out.lo (fun p' r' e => by rw [hd] at e; injection e with e1 e2; subst e1; omega)
        have HR := Lib.hid hrl
        have Q := Lib.hid Q
        rw [hd, ln] at c1
        clear hE hc hl hg hd hrl hr hrel
        go_wp2_with (go_at_call 58; (with_reducible refine Q.out.mono ?_); rintro e w1 ⟨rfl, nq, rfl⟩)
        go_end0
        refine ⟨rfl, k, L, ⟨⟨_, vs, ve, rb, rv, HE.out.later hC (below_drewN2 wr nq)⟩, hI.out.hd, hI.out.le, hI.out.ge, hI.out.lo⟩, HR.out⟩
end Go.Proofs.YtngmaiiibinkaaaGreat
