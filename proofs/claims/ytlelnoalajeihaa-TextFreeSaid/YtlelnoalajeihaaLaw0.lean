/- The law's small functions; the document's Same and Parse. -/
import Derived.Test.YtlelnoalajeihaaParse
import Derived.Test.YtlelnoalajeihaaRRead
import Derived.Test.YtlelnoalajeihaaSet0
namespace Go.Proofs.Ytlelnoalajeihaa
open Go.RowKit
set_option linter.unusedVariables false
set_option linter.unusedSimpArgs false

def OkB (w : World) (e : Ending) (w' : World) : Prop := e = .returned (.bool true) ∧ Below w.heap.size w w'
set_option maxRecDepth 100000 in
set_option maxHeartbeats 2000000 in
theorem rsame_any {A1 A2 : Option Addr} {c1 c2 : Nat} {ts : List Ts} {w : World} (h1 : Row w A1 c1 ts) (h2 : Row w A2 c2 ts) : Calls Try.prog 22 #[.slice A1 ts.length c1, .slice A2 ts.length c2] w (OkB w) := by
  have hle := h1.le
  have hmx := h1.mx
  have H1 := Lib.hid h1
  have H2 := Lib.hid h2
  clear h1 h2
  go_enter Try.func22, Try.ntmps22
  go_wp2
  go_loopw [5] (fun i wr => ∃ k n : Nat, k ≤ ts.length ∧ i = .int .i64 k ∧ wr = w.drewN n) (fun i _ => ts.length - (intOf i).toNat)
  case atStart => exact ⟨0, 0, Nat.zero_le _, rfl, rfl⟩
  case round =>
    obtain ⟨k, n, hk, rfl, rfl⟩ := hrel
    by_cases hlt : k < ts.length
    · obtain ⟨b, o, x, rfl, hx, _, _, hT⟩ := H1.out.get hlt
      obtain ⟨b', o', x', rfl, hx', _, _, hT'⟩ := H2.out.get hlt
      obtain rfl : x' = x := by rw [hx] at hx'; exact (Option.some.inj hx').symm
      have a0 := hT.c0
      have a1 := hT.c1
      have a2 := hT.c2
      have a3 := hT.c3
      have a4 := hT.c4
      have a5 := hT.c5
      have a6 := hT.c6
      have b0 := hT'.c0
      have b1 := hT'.c1
      have b2 := hT'.c2
      have b3 := hT'.c3
      have b4 := hT'.c4
      have b5 := hT'.c5
      have b6 := hT'.c6
      have hi0 : (0 : Int) ≤ (k : Int) := by omega
      have hi1 : (k : Int) < (ts.length : Int) := by omega
      clear hT hT' hx hx'
      go_wp2
      go_quiet (fail)
      go_wp2
      exact ⟨⟨k + 1, n + nq, by omega, by go_num, rfl⟩, by simp [intOf]; omega⟩
    · obtain rfl : k = ts.length := by omega
      go_wp2
      go_ret
      exact ⟨rfl, below_drewN (Below.refl _ _) n⟩

def RParsePost (s : ByteArray) (w : World) (e : Ending) (w' : World) : Prop := ∃ A cap, e = .returned (.agg #[.slice A (parseS s).1.length cap, .int .i64 ((parseS s).2.1 : Int), .int .i64 (parseS s).2.2]) ∧ Row w' A cap (parseS s).1 ∧ Below w.heap.size w w'
/-- A block of its own, kept. -/
theorem gr_new {W1 : World} (v : Value) (a e : Int) : GR (W1.alloc (.cells #[v, .int .i64 a, .int .i64 e] 46)) W1.heap.size v a e := ⟨heap_alloc_new W1 _⟩
theorem below_three {B b : Nat} {w W : World} (h : Below B w W) (hb : B ≤ b) (u0 u1 u2 : Value) : Below B w (((W.setCell ⟨b, 0, none⟩ u0).setCell ⟨b, 1, none⟩ u1).setCell ⟨b, 2, none⟩ u2) :=
  ((h.setCell (p := ⟨b, 0, none⟩) hb _).setCell (p := ⟨b, 1, none⟩) hb _).setCell (p := ⟨b, 2, none⟩) hb _
theorem task_not_gr {W : World} {g o b : Nat} {x : Ts} {A : Option Addr} {n c : Nat} {a e : Int} (h : TAt W g o x) (hG : GR W b (.slice A n c) a e) : g ≠ b := by
  rintro rfl
  have c0 := h.c0
  rw [cell_of_row W g o _ _ _ hG.is] at c0
  match o, c0 with
  | 0, c0 => simp at c0
  | 1, c0 => simp at c0
  | 2, c0 => simp at c0
  | o + 3, c0 => simp at c0
theorem row_three {W : World} {b cap : Nat} {A : Option Addr} {l : List Ts} {A' : Option Addr} {n c : Nat} {a e : Int} (h : Row W A cap l) (hG : GR W b (.slice A' n c) a e) (u0 u1 u2 : Value) : Row (((W.setCell ⟨b, 0, none⟩ u0).setCell ⟨b, 1, none⟩ u1).setCell ⟨b, 2, none⟩ u2) A cap l := by
  refine ⟨h.le, h.mx, h.wf, fun i x hx => ?_⟩
  obtain ⟨g, o, e, ht⟩ := h.at_ i x hx
  refine ⟨g, o, e, ht.keep fun j => ?_⟩
  have hne := task_not_gr ht hG
  have k := (((Kept.refl [b] W).set b 0 u0 (by simp)).set b 1 u1 (by simp)).set b 2 u2 (by simp)
  exact k.cell ht.lt (by simp; exact hne)

set_option maxRecDepth 100000 in
set_option maxHeartbeats 4000000 in
theorem rparse_any (s : ByteArray) (w : World) (hs : s.size ≤ 100000) : Calls Try.prog 21 #[.string s] w (RParsePost s w) := by
  have R := Lib.hid (fun W => rread_any s W hs)
  have hP : parseS s = if (readS s).2.2 = 0 then
    (if (chkAll (readS s).1).2 = 0 then ((readS s).1, (chkAll (readS s).1).1, 0) else ([], (chkAll (readS s).1).1, (chkAll (readS s).1).2))
    else ([], (readS s).2.1, ((readS s).2.2 : Int)) := rfl
  have hemp : (readS s).2.2 ≠ 0 → (readS s).1 = [] := by
    unfold readS
    cases badP s with
    | some x => simp
    | none => cases (allS s).2 <;> simp
  unfold RReadPost at R
  unfold RParsePost
  rcases hr : readS s with ⟨l, at', er⟩
  rw [hr] at R hP hemp
  simp only at R hP hemp
  clear hr
  obtain ⟨W0, hW0, G0, B0⟩ : ∃ W0, w.alloc (.cells #[.slice none 0 0, .int .i64 0, .int .i64 0] 46) = W0 ∧ GR W0 w.heap.size (.slice none 0 0) 0 0 ∧ Below w.heap.size w W0 :=
    ⟨_, rfl, ⟨heap_alloc_new w _⟩, (Below.refl _ _).alloc (Nat.le_refl _) _⟩
  have HW := Lib.hid hW0
  have HG0 := Lib.hid G0
  have HB0 := Lib.hid B0
  have hsz0 : w.heap.size < W0.heap.size := G0.lt
  clear hW0 G0 B0
  by_cases h0 : er = 0
  · subst h0
    rw [if_pos rfl] at hP
    rcases hc : chkAll l with ⟨n, e⟩
    rw [hc] at hP
    simp only at hP
    have CK := fun A cap W hR => rcheckAll_any A cap l W hR
    rw [hc] at CK
    simp only at CK
    have CK := Lib.hid CK
    clear hc hemp
    by_cases he : e = 0
    · subst he
      rw [if_pos rfl] at hP
      rw [hP]
      clear hP
      go_enter Try.func21, Try.ntmps21
      go_upto_region 1 with (fail)
      rw [HW.out]
      go_upto_region 2 with (go_at_call 20; (with_reducible refine (R.out _).mono ?_); rintro e W1 ⟨A, cap, rfl, hR, hB⟩)
      obtain ⟨W2, hW2, G2, B2, G3, R2⟩ : ∃ W2, W1.alloc (.cells #[.slice A l.length cap, .int .i64 (at' : Int), .int .i64 0] 46) = W2 ∧ GR W2 w.heap.size (.slice none 0 0) 0 0 ∧ Below w.heap.size w W2 ∧ GR W2 W1.heap.size (.slice A l.length cap) (at' : Int) 0 ∧ Row W2 A cap l := by
        have hbl := HB0.out.trans (hB.mono HB0.out.size)
        exact ⟨_, rfl, (HG0.out.later hB).later ((Below.refl _ _).alloc (Nat.le_refl _) _), hbl.alloc hbl.size _, gr_new _ _ _, hR.later ((Below.refl _ _).alloc (Nat.le_refl _) _)⟩
      rw [hW2]
      have m0 := G3.c0
      have m2 := G3.c2
      have HG2 := Lib.hid G2
      have HG3 := Lib.hid G3
      have HR2 := Lib.hid R2
      have HB2 := Lib.hid B2
      have hlt : w.heap.size < W1.heap.size := by have := HG0.out.lt; have := hB.size; omega
      have hlt2 : W1.heap.size < W2.heap.size := HG3.out.lt
      clear hW2 G2 B2 G3 R2 hR hB
      go_upto_region 5 with (go_at_call 30; (with_reducible refine (CK.out _ _ _ HR2.out).mono ?_); rintro e W3 ⟨rfl, hB3⟩)
      obtain ⟨W4, hW4, G4, B4, G5, R4, q0, q1⟩ : ∃ W4, W3.alloc (.cells #[.int .i64 (n : Int), .int .i64 0] 69) = W4 ∧ GR W4 w.heap.size (.slice none 0 0) 0 0 ∧ Below w.heap.size w W4 ∧ GR W4 W1.heap.size (.slice A l.length cap) (at' : Int) 0 ∧ Row W4 A cap l ∧ W4.cell? ⟨W3.heap.size, 0, none⟩ = some (.int .i64 (n : Int)) ∧ W4.cell? ⟨W3.heap.size, 1, none⟩ = some (.int .i64 0) := by
        have hbl := HB2.out.trans (hB3.mono HB2.out.size)
        have ha := (Below.refl W3.heap.size W3).alloc (Nat.le_refl _) (.cells #[.int .i64 (n : Int), .int .i64 0] 69)
        refine ⟨_, rfl, (HG2.out.later hB3).later ha, hbl.alloc hbl.size _, (HG3.out.later hB3).later ha, (HR2.out.later hB3).later ha, ?_, ?_⟩
        · rw [cell_of_row _ _ 0 _ _ _ (heap_alloc_new W3 _)]; rfl
        · rw [cell_of_row _ _ 1 _ _ _ (heap_alloc_new W3 _)]; rfl
      rw [hW4]
      have hlt3 : W2.heap.size ≤ W3.heap.size := hB3.size
      have k0 := G4.c0
      have k1 := G4.c1
      have k2 := G4.c2
      have gf := G4.f
      have m0 := G5.c0
      have HG4 := Lib.hid G4
      have HR4 := Lib.hid R4
      have HB4 := Lib.hid B4
      clear hW4 G4 B4 G5 R4 hB3 m2 HG2 HG3 HR2 HB2
      go_wp2
      exact bodyPost_ret (v := .agg #[.slice A l.length cap, .int .i64 (n : Int), .int .i64 0]) (results_gr rfl _ _ _ _ _ _ rfl HG4.out.whole) rfl ⟨A, cap, rfl, row_three HR4.out HG4.out _ _ _, below_three HB4.out (Nat.le_refl _) _ _ _⟩
    · rw [if_neg he] at hP
      rw [hP]
      have t1 : (e != 0) = true := by simpa using he
      clear hP he
      go_enter Try.func21, Try.ntmps21
      go_upto_region 1 with (fail)
      rw [HW.out]
      go_upto_region 2 with (go_at_call 20; (with_reducible refine (R.out _).mono ?_); rintro e W1 ⟨A, cap, rfl, hR, hB⟩)
      obtain ⟨W2, hW2, G2, B2, G3, R2⟩ : ∃ W2, W1.alloc (.cells #[.slice A l.length cap, .int .i64 (at' : Int), .int .i64 0] 46) = W2 ∧ GR W2 w.heap.size (.slice none 0 0) 0 0 ∧ Below w.heap.size w W2 ∧ GR W2 W1.heap.size (.slice A l.length cap) (at' : Int) 0 ∧ Row W2 A cap l := by
        have hbl := HB0.out.trans (hB.mono HB0.out.size)
        exact ⟨_, rfl, (HG0.out.later hB).later ((Below.refl _ _).alloc (Nat.le_refl _) _), hbl.alloc hbl.size _, gr_new _ _ _, hR.later ((Below.refl _ _).alloc (Nat.le_refl _) _)⟩
      rw [hW2]
      have m0 := G3.c0
      have m2 := G3.c2
      have HG2 := Lib.hid G2
      have HG3 := Lib.hid G3
      have HR2 := Lib.hid R2
      have HB2 := Lib.hid B2
      have hlt : w.heap.size < W1.heap.size := by have := HG0.out.lt; have := hB.size; omega
      have hlt2 : W1.heap.size < W2.heap.size := HG3.out.lt
      clear hW2 G2 B2 G3 R2 hR hB
      go_upto_region 5 with (go_at_call 30; (with_reducible refine (CK.out _ _ _ HR2.out).mono ?_); rintro e W3 ⟨rfl, hB3⟩)
      obtain ⟨W4, hW4, G4, B4, G5, R4, q0, q1⟩ : ∃ W4, W3.alloc (.cells #[.int .i64 (n : Int), .int .i64 e] 69) = W4 ∧ GR W4 w.heap.size (.slice none 0 0) 0 0 ∧ Below w.heap.size w W4 ∧ GR W4 W1.heap.size (.slice A l.length cap) (at' : Int) 0 ∧ Row W4 A cap l ∧ W4.cell? ⟨W3.heap.size, 0, none⟩ = some (.int .i64 (n : Int)) ∧ W4.cell? ⟨W3.heap.size, 1, none⟩ = some (.int .i64 e) := by
        have hbl := HB2.out.trans (hB3.mono HB2.out.size)
        have ha := (Below.refl W3.heap.size W3).alloc (Nat.le_refl _) (.cells #[.int .i64 (n : Int), .int .i64 e] 69)
        refine ⟨_, rfl, (HG2.out.later hB3).later ha, hbl.alloc hbl.size _, (HG3.out.later hB3).later ha, (HR2.out.later hB3).later ha, ?_, ?_⟩
        · rw [cell_of_row _ _ 0 _ _ _ (heap_alloc_new W3 _)]; rfl
        · rw [cell_of_row _ _ 1 _ _ _ (heap_alloc_new W3 _)]; rfl
      rw [hW4]
      have hlt3 : W2.heap.size ≤ W3.heap.size := hB3.size
      have k0 := G4.c0
      have k1 := G4.c1
      have k2 := G4.c2
      have gf := G4.f
      have m0 := G5.c0
      have HG4 := Lib.hid G4
      have HR4 := Lib.hid R4
      have HB4 := Lib.hid B4
      clear hW4 G4 B4 G5 R4 hB3 m2 HG2 HG3 HR2 HB2
      go_wp2
      exact bodyPost_ret (v := .agg #[.slice none 0 0, .int .i64 (n : Int), .int .i64 e]) (results_gr rfl _ _ _ _ _ _ rfl HG4.out.whole) rfl ⟨none, 0, rfl, Row.nil _ _ (by omega), below_three HB4.out (Nat.le_refl _) _ _ _⟩
  · rw [if_neg h0] at hP
    have hl := hemp h0
    subst hl
    rw [hP]
    have t1 : ((er : Int) != 0) = true := by simp; omega
    clear hP hemp h0
    go_enter Try.func21, Try.ntmps21
    go_upto_region 1 with (fail)
    rw [HW.out]
    go_upto_region 2 with (go_at_call 20; (with_reducible refine (R.out _).mono ?_); rintro e W1 ⟨A, cap, rfl, hR, hB⟩)
    obtain ⟨W2, hW2, G2, B2, G3⟩ : ∃ W2, W1.alloc (.cells #[.slice A ([] : List Ts).length cap, .int .i64 (at' : Int), .int .i64 (er : Int)] 46) = W2 ∧ GR W2 w.heap.size (.slice none 0 0) 0 0 ∧ Below w.heap.size w W2 ∧ GR W2 W1.heap.size (.slice A ([] : List Ts).length cap) (at' : Int) (er : Int) := by
      have hbl := HB0.out.trans (hB.mono HB0.out.size)
      exact ⟨_, rfl, (HG0.out.later hB).later ((Below.refl _ _).alloc (Nat.le_refl _) _), hbl.alloc hbl.size _, gr_new _ _ _⟩
    have hW2 : W1.alloc (.cells #[.slice A 0 cap, .int .i64 (at' : Int), .int .i64 (er : Int)] 46) = W2 := hW2
    rw [hW2]
    have hR2 : Row W1 A cap [] := hR
    have k0 := G2.c0
    have k1 := G2.c1
    have k2 := G2.c2
    have gf := G2.f
    have m0 := G3.c0
    have m1 := G3.c1
    have m2 := G3.c2
    simp only [List.length_nil] at m0
    have HG2 := Lib.hid G2
    have HB2 := Lib.hid B2
    have hmx := hR.mx
    have hlt : w.heap.size < W1.heap.size := by have := HG0.out.lt; have := hB.size; omega
    clear hW2 G2 B2 G3 hR hR2 hB
    go_wp2
    exact bodyPost_ret (v := .agg #[.slice A 0 cap, .int .i64 (at' : Int), .int .i64 (er : Int)]) (results_gr rfl _ _ _ _ _ _ rfl HG2.out.whole) rfl ⟨A, cap, rfl, Row.nil _ _ hmx, below_three HB2.out (Nat.le_refl _) _ _ _⟩
end Go.Proofs.Ytlelnoalajeihaa
