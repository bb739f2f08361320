/- TextJoins: the walk. -/
import Derived.Test.YtlelnoalajeihaaDoorSho
import Derived.Deep.RegionHeldLaw
import Derived.Deep.DrawnRows
namespace Go.Proofs.YtlelnoalajeihaaDoor
open Go.RowKit
set_option linter.unusedVariables false
set_option linter.unusedSimpArgs false
attribute [local go_sem ↓] Go.wp_at_zero Go.wp_at_succ

theorem few_tidy {i : Nat} {x : Ts} (h : SF i x) (h1 : 1 ≤ x.p) (h8 : x.p ≤ 8) (hi : i < 8) : Tidy x := by
  refine ⟨⟨116, [UInt8.ofNat (97 + i)], by rw [h.n, bs_toList], by decide, ?_⟩, ?_⟩
  · rcases (by omega : i = 0 ∨ i = 1 ∨ i = 2 ∨ i = 3 ∨ i = 4 ∨ i = 5 ∨ i = 6 ∨ i = 7) with rfl | rfl | rfl | rfl | rfl | rfl | rfl | rfl <;> decide
  · intro k hk
    obtain ⟨-, c0, c1, d0, d1, j0, t0, t1, q0, q1⟩ := h
    rcases (by omega : k = 0 ∨ k = 1 ∨ k = 2 ∨ k = 3 ∨ k = 4 ∨ k = 5) with rfl | rfl | rfl | rfl | rfl | rfl <;> (simp only [numI]; omega)
theorem tidy_set {ts : List Ts} (h : SFs ts) (hp : ∀ (i : Nat) (x : Ts), ts[i]? = some x → 1 ≤ x.p ∧ x.p ≤ 8) (hl : (ts.length : Int) ≤ 6) : ∀ x ∈ ts, Tidy x := by
  intro x hx
  obtain ⟨i, hi⟩ := List.getElem?_of_mem hx
  have hlt := (List.getElem?_eq_some_iff.1 hi).1
  exact few_tidy (h i x hi) (hp i x hi).1 (hp i x hi).2 (by omega)
theorem cells_at {w : World} {b : Nat} : ∀ (l : List Ts) (o : Nat), (∀ i x, l[i]? = some x → TAt w b (o + i * 7) x) → ∀ j u, (tsCells l)[j]? = some u → w.cell? ⟨b, o + j, none⟩ = some u
  | [], o, _, j, u, h => by simp [tsCells] at h
  | x :: l, o, hT, j, u, h => by
    have e : tsCells (x :: l) = tsL x ++ tsCells l := by simp [tsCells]
    rw [e] at h
    have h7 : (tsL x).length = 7 := rfl
    by_cases hj : j < 7
    · rw [List.getElem?_append_left (by omega)] at h
      have := (hT 0 x rfl).r j u h
      rwa [Nat.zero_mul, Nat.add_zero] at this
    · rw [List.getElem?_append_right (by omega), h7] at h
      have := cells_at l (o + 7) (fun i y hy => by
        have := hT (i + 1) y (by simpa using hy)
        rwa [show o + (i + 1) * 7 = o + 7 + i * 7 by omega] at this) (j - 7) u h
      rwa [show o + 7 + (j - 7) = o + j by omega] at this
theorem tsCells_app (a b : List Ts) : tsCells (a ++ b) = tsCells a ++ tsCells b := by simp [tsCells]
theorem tsCells_len (l : List Ts) : (tsCells l).length = l.length * 7 := by
  induction l with
  | nil => rfl
  | cons x l ih =>
    have e : tsCells (x :: l) = tsL x ++ tsCells l := by simp [tsCells]
    rw [e, List.length_append, ih, List.length_cons]
    have : (tsL x).length = 7 := rfl
    omega
theorem tsCells_one (l : List Ts) : ∀ u ∈ tsCells l, u.oneCell' = true := by
  intro u hu
  simp only [tsCells, List.mem_flatMap] at hu
  obtain ⟨x, _, hx⟩ := hu
  exact tsL_one x u hx
/-- A row that has a thing, as an append wants it. -/
theorem row_some {w : World} {A : Option Addr} {cap : Nat} {l : List Ts} (h : Row w A cap l) (h1 : 1 ≤ l.length) : ∃ b o, A = some ⟨b, o, none⟩ ∧ ∀ (w' : World), Below w.heap.size w w' → ∀ j u, (tsCells l)[j]? = some u → w'.cell? ((⟨b, o, none⟩ : Addr).add j) = some u := by
  obtain ⟨b, o, x, rfl, hx, _, hb, hT⟩ := h.get (k := 0) (by omega)
  refine ⟨b, o, rfl, fun w' hB j u hj => ?_⟩
  have hR := h.later hB
  rw [add_none]
  exact cells_at l o (fun i y hy => hR.at2 hy) j u hj
theorem own_kept {B : Nat} {w w' : World} {v : Value} {k : Nat} {xs : List Value} (h : w.ownsRow B 29 7 v k xs) (hb : Below w.heap.size w w') : w'.ownsRow B 29 7 v k xs := (Kept.of [] hb).row h (by simp)
theorem row_of_own {B : Nat} {w : World} {v : Value} {l : List Ts} (h : w.ownsRow B 29 7 v l.length (tsCells l)) (hw : ∀ x ∈ l, TsW x) (h1 : 1 ≤ l.length) : ∃ A cap, v = .slice A l.length cap ∧ Row w A cap l := by
  obtain ⟨g, cap, hv, hO⟩ := (SetIn.own (ts := l) ⟨rfl, hw, h⟩ (by omega))
  exact ⟨_, cap, hv, hO.row⟩

set_option maxRecDepth 100000 in
set_option maxHeartbeats 4000000 in
theorem tjoins_walk (A1 : Option Addr) (cap1 : Nat) (s1 : List Sp) (A2 : Option Addr) (cap2 : Nat) (s2 : List Sp) (turn : Int) (w : World) (hS1 : SRow w A1 cap1 s1) (hS2 : SRow w A2 cap2 s2) (ht : in64 turn) (hT : TI w) :
    Calls Tryd.prog 6 #[.slice A1 s1.length cap1, .slice A2 s2.length cap2, .int .i64 turn] w fun e w' => e = .returned (.bool true) ∧ Below w.heap.size w w' := by
  obtain ⟨i0, hi, hz0, hz1, hz2⟩ := info_parts infoTs
  have S1 := Lib.hid hS1
  have S2 := Lib.hid hS2
  have HU := Lib.hid ht
  have HT := Lib.hid hT
  have AW : Hid (∀ (W : World), Calls Tryd.prog 7 #[] W (fun e w' => e = .returned (.bool true) ∧ Below W.heap.size W w')) := Lib.hid (fun W => awake5_any W)
  clear hS1 hS2 ht hT
  go_enter Tryd.func6, Tryd.ntmps6
  go_upto_region 4 with (first
    | (go_at_call 7; (with_reducible refine (AW.out _).mono ?_); rintro e w1 ⟨rfl, h1⟩; have B1 := Lib.hid h1; clear h1)
    | (go_at_call 8; (with_reducible refine (set_any 5 (by omega) (by omega) A1 cap1 s1 _ _ (S1.out.later B1.out) HU.out).mono ?_); rintro e w2 ⟨A3, cap3, x, rfl, hRx, hx1, hx5, -, hfx, hpx, h2⟩; have B2 := Lib.hid (B1.out.trans (h2.mono B1.out.size)); have RX := Lib.hid hRx; have FX := Lib.hid hfx; have PX := Lib.hid hpx; clear h2 hRx hfx hpx)
    | (go_at_call 8; (with_reducible refine (set_any 5 (by omega) (by omega) A2 cap2 s2 _ _ (S2.out.later B2.out) HU.out).mono ?_); rintro e w3 ⟨A4, cap4, y, rfl, hRy, hy1, hy5, -, hfy, hpy, h3⟩; have B3 := Lib.hid (B2.out.trans (h3.mono B2.out.size)); have RY := Lib.hid hRy; have FY := Lib.hid hfy; have PY := Lib.hid hpy; have RX3 := Lib.hid (RX.out.later h3); clear h3 hRy hfy hpy))
  obtain ⟨bx, ox, rfl, cx⟩ := row_some RX3.out hx1
  obtain ⟨by', oy, rfl, cy⟩ := row_some RY.out hy1
  have CX := Lib.hid cx
  have CY := Lib.hid cy
  clear cx cy
  have O0 := Lib.hid (World.ownsRow_made w3 #[] 0 (base := w3.heap.size) (e := 29) (size := 7) (Nat.le_refl _) (by unfold maxLen; omega) rfl)
  have LX := Lib.hid (And.intro hx1 hx5)
  have LY := Lib.hid (And.intro hy1 hy5)
  go_wp2_with (at_builtin; refine wpList_append_own _ rfl _ _ 22 rfl w3.heap.size 29 i0 _ 7 64 Tryd.underlying22 hi hz0 hz1 hz2 rfl (by decide) _ 0 [] rfl O0.out ⟨bx, ox, none⟩ x.length cap3 (tsCells x) rfl (tsCells_len x) (CX.out _ ((Below.refl _ _).alloc (Nat.le_refl _) _)) (tsCells_one x) (by unfold maxLen; omega) (by omega) (by simp) ?_)
  intro v1 w4 hown1 hg1 _
  have B34 : Hid (Below w3.heap.size w3 w4) := Lib.hid (((Below.refl w3.heap.size w3).alloc (Nat.le_refl _) _).grown hg1 (by simp) (fun k hk => by simp [Value.ownBlock] at hk; omega))
  have O1 := Lib.hid hown1
  have O1l := Lib.hid (fun k hk => (hown1.lt k hk).1)
  clear hg1 hown1
  go_wp2_with (at_builtin; refine wpList_append_own _ rfl _ _ 22 rfl w3.heap.size 29 i0 _ 7 64 Tryd.underlying22 hi hz0 hz1 hz2 rfl (by decide) _ x.length (tsCells x) rfl O1.out ⟨by', oy, none⟩ y.length cap4 (tsCells y) rfl (tsCells_len y) (CY.out _ B34.out) (tsCells_one y) (by unfold maxLen; omega) (by omega) (by have := B34.out.size; omega) ?_)
  intro v2 w5 hown2 hg2 _
  have hb35 : Below w3.heap.size w3 w5 := B34.out.grown hg2 (by have := B34.out.size; omega) (fun k hk => O1l.out k hk)
  have hb5 : Below w.heap.size w w5 := B3.out.trans (hb35.mono B3.out.size)
  have hln : (x ++ y).length = x.length + y.length := List.length_append
  obtain ⟨A5, cap5, rfl, hR5⟩ := row_of_own (l := x ++ y) (by rw [hln, tsCells_app]; exact hown2) (fun t ht => by rcases List.mem_append.1 ht with h | h; exact RX3.out.wf t h; exact RY.out.wf t h) (by rw [hln]; omega)
  have tx := tidy_set FX.out PX.out (by omega)
  have ty := tidy_set FY.out PY.out (by omega)
  have txy : ∀ t ∈ x ++ y, Tidy t := fun t ht => by rcases List.mem_append.1 ht with h | h; exact tx t h; exact ty t h
  have hjoin := print_join tx ty
  have hread := print_read txy (s := printS (x ++ y)) rfl
  have shx := sho_of RX3.out FX.out
  have shy := sho_of RY.out FY.out
  have zx := six_of shx (by omega)
  have zy := six_of shy (by omega)
  have zxy : (printS (x ++ y)).size = (printS x).size + (printS y).size := by rw [← hjoin, ByteArray.size_append]
  have P1 := Lib.hid (fun W (hB : Below w5.heap.size w5 W) => print_any _ cap3 x W (RX3.out.later (hb35.trans (hB.mono hb35.size))) (lon_of RX3.out FX.out) (by omega) (ti_later HT.out (hb5.trans (hB.mono hb5.size))))
  have P2 := Lib.hid (fun W (hB : Below w5.heap.size w5 W) => print_any _ cap4 y W (RY.out.later (hb35.trans (hB.mono hb35.size))) (lon_of RY.out FY.out) (by omega) (ti_later HT.out (hb5.trans (hB.mono hb5.size))))
  have lxy : Longs (x ++ y) := fun t ht => by
    rcases List.mem_append.1 ht with h | h
    · exact lon_of RX3.out FX.out t h
    · exact lon_of RY.out FY.out t h
  have P3 := fun W (hB : Below w5.heap.size w5 W) => print_any A5 cap5 (x ++ y) W (hR5.later hB) lxy (by omega) (ti_later HT.out (hb5.trans (hB.mono hb5.size)))
  have RD := fun W => read_any (printS (x ++ y)) W (by omega)
  unfold ReadPost at RD
  rw [hread] at RD
  have SM := fun A c W (h1 : Row W A c (x ++ y)) (hB : Below w5.heap.size w5 W) => rsame_any h1 (hR5.later hB)
  have hcat := fun W => run_string_add_sum (P := Tryd.prog) W (printS x) (printS y) (by omega)
  rw [hjoin] at hcat
  generalize printS (x ++ y) = t at *
  generalize printS x = tx' at *
  generalize printS y = ty' at *
  generalize x ++ y = z at *
  have P3 := Lib.hid P3
  have RD := Lib.hid RD
  have SM := Lib.hid SM
  have HB5 := Lib.hid hb5
  have zt : t.size ≤ 3600 := by omega
  clear hln hR5 tx ty txy hjoin hread shx shy zx zy zxy lxy hb35 hb5 hg2 hown2 FX FY PX PY RX RX3 RY CX CY O0 O1 O1l B1 B2 B3 B34 LX LY S1 S2 hx5 hy5
  go_wp2_with (first
    | (go_at_call 9; (with_reducible refine (P1.out _ (Below.refl _ _)).mono ?_); rintro e w6 ⟨rfl, h6⟩; have B6 := Lib.hid h6; clear h6 P1)
    | (go_at_call 9; (with_reducible refine (P2.out _ B6.out).mono ?_); rintro e w7 ⟨rfl, h7⟩; have B7 := Lib.hid (B6.out.trans (h7.mono B6.out.size)); clear h7 P2)
    | (go_at_call 17; (with_reducible refine (RD.out _).mono ?_); rintro e w8 ⟨A8, cap8, rfl, hR8, h8⟩; have B8 := Lib.hid (B7.out.trans (h8.mono B7.out.size)); have R8 := Lib.hid hR8; clear h8 hR8)
    | (go_at_call 18; (with_reducible refine (SM.out _ _ _ R8.out B8.out).mono ?_); rintro e w9 ⟨rfl, h9⟩; have B9 := Lib.hid (B8.out.trans (h9.mono B8.out.size)); clear h9)
    | (go_at_call 9; (with_reducible refine (P3.out _ B9.out).mono ?_); rintro e w10 ⟨rfl, h10⟩; have B10 := Lib.hid (B9.out.trans (h10.mono B9.out.size)); clear h10))
  go_ret
  exact ⟨rfl, HB5.out.trans (B10.out.mono HB5.out.size)⟩
end Go.Proofs.YtlelnoalajeihaaDoor
