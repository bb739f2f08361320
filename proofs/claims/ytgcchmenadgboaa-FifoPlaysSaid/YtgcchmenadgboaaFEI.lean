/- New; Push; At; Pop. -/
import Derived.Test.YtgcchmenadgboaaFDI
namespace Go.Proofs.Ytgcchmenadgboaa
open Go.RowKit
set_option linter.unusedVariables false
set_option linter.unusedSimpArgs false
attribute [local go_sem ↓] Go.wp_at_zero Go.wp_at_succ

def NewPI (m : Nat) (xs : List Int) (w : World) (e : Ending) (w' : World) : Prop := e = .returned (.pointer (some ⟨w.heap.size, 0, none⟩)) ∧ ∃ v, FQI w.heap.size w' w.heap.size v m 0 xs ∧ Below w.heap.size w w'
set_option maxRecDepth 100000 in
set_option maxHeartbeats 4000000 in
theorem new_anyI {m c : Nat} {A : Option Addr} {xs : List Int} (w : World) (hr : RowOI w A m c xs) (hm : m ≤ 1000000) : Calls Try.prog 9 #[.slice A m c] w (NewPI m xs w) := by
  have hb : Below w.heap.size w (w.alloc (.cells #[.slice none 0 0, .int .i64 0, .int .i64 0] 50)) := (Below.refl _ w).alloc (Nat.le_refl _) _
  have hs : (w.alloc (.cells #[.slice none 0 0, .int .i64 0, .int .i64 0] 50)).heap.size = w.heap.size + 1 := by simp
  have LY := Lib.hid (lay_anyI (w.alloc (.cells #[.slice none 0 0, .int .i64 0, .int .i64 0] 50)) (B := w.heap.size) (b := w.heap.size) ⟨_, _, _, heap_alloc_new w _⟩ (Nat.le_refl _) (hr.later hb) (Nat.le_refl _) hm)
  have HB := Lib.hid hb
  clear hb hr
  go_enter Try.func9, Try.ntmps9
  go_wp2_with (go_at_call 24; (with_reducible refine LY.out.mono ?_); rintro e w2 ⟨rfl, v, hQ, hK, hX⟩)
  go_ret
  refine ⟨rfl, v, hQ, HB.out.trans (hK.below (by omega) (by simp))⟩

/-- Where what is pushed stands. -/
theorem FQI.push {B b N f : Nat} {v : Value} {l : List Int} {w : World} (h : FQI B w b v N f l) (hl : l.length < N) {g : Nat} (hv : v.ownBlock = some g) (x : Int) :
    FQI B ((w.setCell ⟨g, (f + l.length) % N, none⟩ (.int .i64 x)).setCell ⟨b, 2, none⟩ (.int .i64 ((l ++ [x]).length : Int))) b v N f (l ++ [x]) := by
  obtain ⟨g', cur, rfl, h1, h2, h3, h4, h5, h6⟩ := h.open (by omega)
  simp [Value.ownBlock] at hv
  subst hv
  have hm : (f + l.length) % N < N := Nat.mod_lt _ (by omega)
  refine ⟨h.hB, ?_, ?_, h.lim⟩
  · refine heap_setCell_same _ b 2 _ _ _ (?_ : _ = some (Obj.cells #[.slice (some ⟨g', 0, none⟩) N N, .int .i64 (f : Int), .int .i64 (l.length : Int)] _ _))
    rw [Below.heap_setCell _ _ _ _ (by simpa using h6)]
    exact h.is
  · refine .inr ⟨g', cur.setIfInBounds ((f + l.length) % N) (.int .i64 x), rfl, h1, ?_, by simpa using h3, h4, by simp; omega, ?_⟩
    · rw [Below.heap_setCell _ _ _ _ (by simpa using Ne.symm h6)]
      exact heap_setCell_same _ g' _ _ _ _ h2
    · intro i y hy
      by_cases hi : i < l.length
      · rw [List.getElem?_append_left hi] at hy
        have hne : (f + l.length) % N ≠ (f + i) % N := by
          intro e
          rcases Nat.lt_or_ge (f + i) N with ha | ha <;> rcases Nat.lt_or_ge (f + l.length) N with hb | hb
          · rw [Nat.mod_eq_of_lt ha, Nat.mod_eq_of_lt hb] at e; omega
          · rw [Nat.mod_eq_of_lt ha, Nat.mod_eq_sub_mod hb, Nat.mod_eq_of_lt (by omega)] at e; omega
          · omega
          · rw [Nat.mod_eq_sub_mod ha, Nat.mod_eq_sub_mod hb, Nat.mod_eq_of_lt (by omega), Nat.mod_eq_of_lt (by omega)] at e; omega
        rw [Array.getElem?_setIfInBounds_ne hne]
        exact h5 i y hy
      · have hi2 : i = l.length := by
          have := (List.getElem?_eq_some_iff.1 hy).1
          simp at this; omega
        subst hi2
        simp at hy
        subst hy
        exact Array.getElem?_setIfInBounds_self_of_lt (by omega)
def PushPI (B b N : Nat) (v : Value) (l : List Int) (w : World) (e : Ending) (w' : World) : Prop := e = .returned (.tuple #[]) ∧ ∃ v' f', FQI B w' b v' N f' l ∧ Kept (blk b v) w w' ∧ ∀ k ∈ blk b v', k ∈ blk b v ∨ w.heap.size ≤ k
set_option maxRecDepth 100000 in
set_option maxHeartbeats 8000000 in
theorem push_roomI {B b N f : Nat} {v : Value} {l : List Int} (x : Int) (w : World) (h : FQI B w b v N f l) (hl : l.length < N) :
    Calls Try.prog 12 #[.pointer (some ⟨b, 0, none⟩), .int .i64 x] w (PushPI B b N v (l ++ [x]) w) := by
  obtain ⟨g, cur, rfl, h1, h2, h3, h4, h5, h6⟩ := h.open (by omega)
  have hP := fun k => (h.later (below_drewN2 w k)).push hl (g := g) rfl x
  have PL := Lib.hid (fun W (hB : Below w.heap.size w W) => place_anyI W (h.later hB) l.length (by omega) (by have := h.lim; omega))
  have c0 := h.c0
  have c1 := h.c1
  have c2 := h.c2
  have fb2 := h.fz 2
  have hlim := h.lim
  have hmod : (f + l.length) % N < N := Nat.mod_lt _ (by omega)
  have hK : Kept (blk b (.slice (some ⟨g, 0, none⟩) N N)) w w := Kept.refl _ _
  have hll : ((l ++ [x]).length : Int) = (l.length : Int) + 1 := by simp
  rw [hll] at hP
  obtain ⟨r, hr⟩ : ∃ r, (f + l.length) % N = r := ⟨_, rfl⟩
  obtain ⟨n, hn⟩ : ∃ n, l.length = n := ⟨_, rfl⟩
  rw [hr] at hP PL hmod
  rw [hn] at hP PL c2 hl
  obtain ⟨u, hu⟩ : ∃ u, w.cell? ⟨g, r, none⟩ = some u := ⟨cur[r]'(by omega), by rw [cell_of_row w g r _ _ _ h2]; exact Array.getElem?_eq_getElem _⟩
  have fg : w.frozen? ⟨g, r, none⟩ = false := by simp [World.frozen?, h2]
  have HP := Lib.hid hP
  have hr1 : (r : Int) < (N : Int) := by omega
  have hbg : g ≠ b := Ne.symm h6
  clear h hP h5 h2 hll hr hn hK
  go_enter Try.func12, Try.ntmps12
  go_upto_region 1 with (fail)
  go_region
  go_upto_region 3 with (fail)
  go_region_with (go_at_call 26; (with_reducible refine (PL.out _ (below_drew2 w)).mono ?_); rintro e w' ⟨rfl, mm, rfl⟩)
  all_goals
    go_wp2
    refine bodyPost_ret (results_none rfl _ _ _) rfl ?_
    refine ⟨rfl, _, f, HP.out _, ((Kept.of _ (below_drewN2 w _)).set g _ _ (by simp [blk, Value.ownBlock])).set b _ _ (by simp [blk]), fun k hk => .inl hk⟩
theorem push_postI {B b N2 g r n : Nat} {v v' : Value} {l : List Int} {x : Int} {w w1 w3 : World} (hb : b < w.heap.size) (hB : Below w.heap.size w w1) (hQ : FQI B w3 b v' N2 0 l) (hK : Kept [b] w1 w3) (hX : ∀ k ∈ blk b v', k = b ∨ w1.heap.size ≤ k) (hl : l.length < N2) (hv : v'.ownBlock = some g) (hr : (0 + l.length) % N2 = r) (hn : l.length = n) (k : Nat) :
    PushPI B b N2 v (l ++ [x]) w (.returned (.tuple #[])) (((w3.drewN k).setCell ⟨g, r, none⟩ (.int .i64 x)).setCell ⟨b, 2, none⟩ (.int .i64 ((n : Int) + 1))) := by
  have hP := (hQ.later (below_drewN2 w3 k)).push hl hv x
  have hll : ((l ++ [x]).length : Int) = (n : Int) + 1 := by rw [← hn]; simp
  rw [hll, hr] at hP
  have hs := hB.size
  refine ⟨rfl, v', 0, hP, ?_, ?_⟩
  · have k1 : Kept [b, g] w ((w3.drewN k).setCell ⟨g, r, none⟩ (.int .i64 x)) := ((((Kept.of [b, g] hB).trans (hK.mono (by simp))).later (below_drewN2 w3 k))).set g _ _ (by simp)
    refine (k1.set b 2 _ (by simp)).less ?_
    intro j hj
    simp at hj
    rcases hj with rfl | rfl
    · exact .inl (by simp [blk])
    · have := hX j (by simp [blk, hv])
      rcases this with rfl | h
      · exact .inl (by simp [blk])
      · exact .inr (by omega)
  · intro j hj
    rcases hX j hj with rfl | h
    · exact .inl (by simp [blk])
    · exact .inr (by omega)
set_option maxRecDepth 100000 in
set_option maxHeartbeats 8000000 in
theorem push_fullI {B b N f : Nat} {v : Value} {l : List Int} (x : Int) (w : World) (h : FQI B w b v N f l) (hl : l.length = N) (hN : N ≤ 10000) :
    Calls Try.prog 12 #[.pointer (some ⟨b, 0, none⟩), .int .i64 x] w (PushPI B b (2 * N + 4) v (l ++ [x]) w) := by
  have hb := h.lt
  have hBb := h.hB
  obtain ⟨A0, rfl⟩ := h.ringv
  obtain ⟨N2, hN2⟩ : ∃ N2, 2 * N + 4 = N2 := ⟨_, rfl⟩
  have hw1 : IntKind.i64.wrap (IntKind.i64.wrap (2 * (N : Int)) + 4) = (N2 : Int) := by rw [IntKind.wrap_i64, IntKind.wrap_i64]; omega
  have TH := Lib.hid (fun W (hB : Below w.heap.size w W) => things_anyI W (h.later hB))
  have LY := Lib.hid (fun W (hB : Below w.heap.size w W) A c (hR : RowOI W A N c l) => lay_anyI W (B := B) (b := b) (N := N2) ⟨_, _, _, (h.later hB).is⟩ hBb hR (by omega) (by omega))
  have PL := Lib.hid (fun W v (hQ : FQI B W b v N2 0 l) => place_anyI W hQ l.length (by omega) (by omega))
  have c0 := h.c0
  have c2 := h.c2
  have hn0 : 0 + l.length = N := by omega
  have hmod : N % N2 = N := Nat.mod_eq_of_lt (by omega)
  rw [hn0, hmod] at PL
  rw [hl] at c2 TH PL
  rw [hN2]
  have HL := Lib.hid hl
  clear h hl
  go_enter Try.func12, Try.ntmps12
  go_upto_region 1 with (fail)
  go_region
  go_upto_region 2 with (fail)
  go_region_with (first
    | (go_at_call 25; (with_reducible refine (TH.out _ (below_drew2 w)).mono ?_); rintro e w1 ⟨v1, rfl, ho, hB1⟩; obtain ⟨A1, cc1, rfl, hR1⟩ := RowOI.own ho; have HB1 := Lib.hid (Below.trans (below_drew2 w) hB1); have HR1 := Lib.hid hR1; have c2' := ((HB1.out.cell (p := ⟨b, 2, none⟩) hb)).trans c2; clear ho hB1 hR1)
    | (go_at_call 24; ((with_reducible refine (LY.out _ HB1.out _ _ HR1.out).mono ?_); rintro e w3 ⟨rfl, v3, hQ3, hK3, hX3⟩; have HQ3 := Lib.hid hQ3; have HK3 := Lib.hid hK3; have HX3 := Lib.hid hX3; clear hQ3 hK3 hX3)))
  all_goals
    have hNN : N < N2 := by omega
    obtain ⟨g, cur, rfl, h1, h2, h3, h4, h5, h6⟩ := HQ3.out.open (by omega)
    have d0 := HQ3.out.c0
    have d2 := HQ3.out.c2
    rw [HL.out] at d2
    have fb2 := HQ3.out.fz 2
    obtain ⟨u, hu⟩ : ∃ u, w3.cell? ⟨g, N, none⟩ = some u := ⟨cur[N]'(by omega), by rw [cell_of_row w3 g N _ _ _ h2]; exact Array.getElem?_eq_getElem _⟩
    have fg : w3.frozen? ⟨g, N, none⟩ = false := by simp [World.frozen?, h2]
    have hr1 : (N : Int) < (N2 : Int) := by omega
    have hbg : g ≠ b := Ne.symm h6
    have PP := Lib.hid (push_postI (v := .slice A0 N N) (x := x) (r := N) hb HB1.out HQ3.out HK3.out HX3.out (by rw [HL.out]; omega) (g := g) rfl (by rw [HL.out, Nat.zero_add, Nat.mod_eq_of_lt hNN]) HL.out)
    clear h5 h2
    go_upto_region 3 with (fail)
    go_region_with (go_at_call 26; (with_reducible refine (PL.out _ _ (HQ3.out.later (below_drew w3))).mono ?_); rintro e w' ⟨rfl, mm, rfl⟩)
  all_goals
    go_wp2
    refine bodyPost_ret (results_none rfl _ _ _) rfl ?_
    exact PP.out _
end Go.Proofs.Ytgcchmenadgboaa
