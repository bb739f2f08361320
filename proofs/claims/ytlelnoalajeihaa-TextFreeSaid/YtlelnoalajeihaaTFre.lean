/- TextFree: the walk. -/
import Derived.Test.YtlelnoalajeihaaFre
import Derived.Test.YtlelnoalajeihaaRLine
import Derived.Test.YtlelnoalajeihaaAwake
namespace Go.Proofs.Ytlelnoalajeihaa
open Go.RowKit
set_option linter.unusedVariables false
set_option linter.unusedSimpArgs false
attribute [local go_sem ↓] Go.wp_at_zero Go.wp_at_succ

/-- A field's text. -/
def fldS (t : Ts) (k : Nat) : ByteArray := bs (wordAt k ++ 61 :: Lib.decDigits (numF t k))
theorem dgs_num {t : Ts} (h : Few t) {k : Nat} (hk : k < 6) : dgs (numI t k) = bs (Lib.decDigits (numF t k)) := by
  have := (h k hk).1
  rw [dgs, Lib.itoa, if_neg (by omega)]
  rfl
theorem fld_of {t : Ts} (h : Few t) {k : Nat} (hk : k < 6) {l : List UInt8} (hl : wordAt k ++ [61] = l) : bs l ++ dgs (numI t k) = fldS t k := by
  rw [dgs_num h hk, bs_app, ← hl, fldS]
  simp
theorem fld_size (t : Ts) (h : Few t) {k : Nat} (hk : k < 6) : (fldS t k).size ≤ 22 := by
  have hd := dec_bd (u := numF t k) (by have := numF_le h hk; omega)
  obtain ⟨c, hw, _⟩ := word_one k hk
  rw [fldS, bs_size, hw]
  simp only [List.length_append, List.length_cons, List.length_nil]
  omega
theorem txt_go {s : ByteArray} {X : List UInt8} {t : Ts} {k : Nat} (h : s = bs X) : s ++ { data := #[32] } ++ fldS t k = bs (X ++ seg k (numF t k) []) := by
  rw [h, fldS, show ({ data := #[32] } : ByteArray) = bs [32] from rfl, bs_app, bs_app, seg]
  simp
theorem txt_gap {s : ByteArray} {X : List UInt8} {t : Ts} {k : Nat} (h : s = bs X) : s ++ { data := #[32] } ++ fldS t k ++ { data := #[9, 32] } = bs (X ++ seg k (numF t k) [9, 32]) := by
  rw [h, fldS, show ({ data := #[32] } : ByteArray) = bs [32] from rfl, show ({ data := #[9, 32] } : ByteArray) = bs [9, 32] from rfl, bs_app, bs_app, bs_app, seg]
  simp
/-- The text after so many fields. -/
def Txt (pre g : List UInt8) (b8 : Bool) (t : Ts) (R i : Nat) (s : ByteArray) : Prop := s = bs (pre ++ body (numF t) g (Ks b8 t R i))
theorem Txt.skip {pre g : List UInt8} {b8 : Bool} {t : Ts} {R i K : Nat} {s : ByteArray} (h : Txt pre g b8 t R i s) (hK : (i + R) % 6 = K) (hs : skipB b8 t K = true) : Txt pre g b8 t R (i + 1) s := by
  subst hK
  unfold Txt at *
  rw [Ks_skip hs]; exact h
theorem Txt.go {pre : List UInt8} {b8 : Bool} {t : Ts} {R i K : Nat} {s : ByteArray} (h : Txt pre [] b8 t R i s) (hK : (i + R) % 6 = K) (hs : skipB b8 t K = false) : Txt pre [] b8 t R (i + 1) (s ++ { data := #[32] } ++ fldS t K) := by
  subst hK
  unfold Txt at *
  rw [Ks_go hs, body_snoc, ← List.append_assoc]; exact txt_go h
theorem Txt.gap {pre : List UInt8} {b8 : Bool} {t : Ts} {R i K : Nat} {s : ByteArray} (h : Txt pre [9, 32] b8 t R i s) (hK : (i + R) % 6 = K) (hs : skipB b8 t K = false) : Txt pre [9, 32] b8 t R (i + 1) (s ++ { data := #[32] } ++ fldS t K ++ { data := #[9, 32] }) := by
  subst hK
  unfold Txt at *
  rw [Ks_go hs, body_snoc, ← List.append_assoc]; exact txt_gap h
theorem kwhole (n : Nat) (a : Int) (h : (a == (n : Int)) = false) : a ≠ n := by simpa using h
/-- What stands in memory behind the fields' texts. -/
structure Sf (w : World) (b g : Nat) (t : Ts) (W : World) : Prop where
  c : C7 w b t.n t.c t.t t.d t.j t.q t.p W
  f : ∀ k, k < 6 → W.cell? ⟨g, k, none⟩ = some (.string (fldS t k))
  lt : g < W.heap.size

set_option maxRecDepth 100000 in
set_option maxHeartbeats 8000000 in
theorem tfree_walk (A : Option Addr) (cap : Nat) (specs : List Sp) (turn bits : Int) (w : World) (hS : SRow w A cap specs) (h1 : in64 turn) (h2 : in64 bits) :
    Calls Try.prog 4 #[.slice A specs.length cap, .int .i64 turn, .int .i64 bits] w fun e w' => e = .returned (.bool true) ∧ Below w.heap.size w w' := by
  have SR := Lib.hid hS
  have AW : Hid (∀ (W : World), Calls Try.prog 6 #[] W (fun e w' => e = .returned (.bool true) ∧ Below W.heap.size W w')) := Lib.hid (fun W => awake5_any W)
  have DG : Hid (∀ (n : Int) (W : World), in64 n → Calls Try.prog 12 #[.int .i64 n] W (fun e w' => e = .returned (.string (dgs n)) ∧ Below W.heap.size W w')) := Lib.hid (fun n W h => rdig_any n W h)
  have R1 := fun W => rest_any turn 6 W h1 (by omega) (by omega)
  obtain ⟨z0, z1⟩ := restI_bd turn 6 (by omega) (by omega)
  obtain ⟨R, hR⟩ : ∃ R : Nat, restI turn 6 = (R : Int) := ⟨(restI turn 6).toNat, by omega⟩
  rw [hR] at R1 z0 z1
  have R1 := Lib.hid R1
  have hR6 : R < 6 := by omega
  clear hS hR z0 z1
  go_enter Try.func4, Try.ntmps4
  go_upto_region 2 with (go_at_call 6; (with_reducible refine (AW.out _).mono ?_); rintro e W1 ⟨rfl, hB1⟩)
  have HB1 := Lib.hid hB1
  have SR1 := Lib.hid (SR.out.later hB1)
  clear hB1 SR AW
  go_upto_region 3 with (go_at_call 8; refine (set_any 1 (by omega) (by omega) A cap specs 0 _ SR1.out (by unfold in64; omega)).mono ?_; rintro e W2 ⟨A2, cap2, ts, rfl, hRw, hn1, hn6, -, hsf, hp, hB2⟩; obtain ⟨t, rfl⟩ : ∃ t, ts = [t] := (by
      match ts, hn1, hn6 with
      | [t], _, _ => exact ⟨t, rfl⟩
      | [], h, _ => simp at h
      | _ :: _ :: _, _, h => simp at h; omega); have hle := hRw.le; have hmx := hRw.mx; obtain ⟨b0, o0, x0, rfl, hx0, hw0, _, hT0⟩ := hRw.get (k := 0) (by simp); obtain rfl : t = x0 := (by simpa using hx0); simp only [Nat.zero_mul, Nat.add_zero] at hT0; have a0 := hT0.c0; have a1 := hT0.c1; have a2 := hT0.c2; have a3 := hT0.c3; have a4 := hT0.c4; have a5 := hT0.c5; have a6 := hT0.c6; clear hT0 hx0)
  have hsf0 := hsf 0 t rfl
  have hp0 := hp 0 t rfl
  have HFew := Lib.hid (few_of hsf0 hp0.1 hp0.2)
  have hnm : t.n = bs [116, 97] := hsf0.n
  have HTW := Lib.hid hw0
  have HB2 := Lib.hid (HB1.out.trans (hB2.mono HB1.out.size))
  clear hsf hp hsf0 hp0 hw0 hB2 hRw SR1 HB1 hn1 hn6 hle hmx a0 a1 a2 a3 a4 a5 a6
  obtain ⟨W3, hW3, HC3⟩ : ∃ W3, W2.alloc (.cells #[.string t.n, .int .i64 t.c, .int .i64 t.t, .int .i64 t.d, .int .i64 t.j, .int .i64 t.q, .int .i64 t.p] 33) = W3 ∧ C7 w W2.heap.size t.n t.c t.t t.d t.j t.q t.p W3 := by
    refine ⟨_, rfl, ?_, ?_, ?_, ?_, ?_, ?_, ?_, HB2.out.alloc HB2.out.size _, by simp⟩ <;> (rw [cell_of_row _ _ _ _ _ _ (heap_alloc_new W2 _)]; rfl)
  rw [hW3]
  have HC1 := Lib.hid (HC3.step (below_drew _))
  clear hW3 HC3 HB2
  generalize W2.heap.size = b at *
  have K0 : Hid (∀ (W : World), Calls Try.prog 12 #[.int .i64 t.c] W (fun e w' => e = .returned (.string (dgs t.c)) ∧ Below W.heap.size W w')) := Lib.hid (fun W => DG.out t.c W HTW.out.c)
  have e0 : ∀ W, (Op.stringOp .add ({ data := #[99, 61] } : ByteArray) (dgs t.c)).run Try.prog W = .ok (.string (fldS t 0)) W := fun W => by
    have z := dgs_size t.c HTW.out.c
    have z2 : ({ data := #[99, 61] } : ByteArray).size = 2 := by decide
    rw [run_string_add_sum W _ _ (by omega)]
    exact congrArg (fun x => Result.ok (Value.string x) W) (fld_of (k := 0) HFew.out (by omega) (l := [99, 61]) rfl)
  have K1 : Hid (∀ (W : World), Calls Try.prog 12 #[.int .i64 t.t] W (fun e w' => e = .returned (.string (dgs t.t)) ∧ Below W.heap.size W w')) := Lib.hid (fun W => DG.out t.t W HTW.out.t)
  have e1 : ∀ W, (Op.stringOp .add ({ data := #[116, 61] } : ByteArray) (dgs t.t)).run Try.prog W = .ok (.string (fldS t 1)) W := fun W => by
    have z := dgs_size t.t HTW.out.t
    have z2 : ({ data := #[116, 61] } : ByteArray).size = 2 := by decide
    rw [run_string_add_sum W _ _ (by omega)]
    exact congrArg (fun x => Result.ok (Value.string x) W) (fld_of (k := 1) HFew.out (by omega) (l := [116, 61]) rfl)
  have K2 : Hid (∀ (W : World), Calls Try.prog 12 #[.int .i64 t.d] W (fun e w' => e = .returned (.string (dgs t.d)) ∧ Below W.heap.size W w')) := Lib.hid (fun W => DG.out t.d W HTW.out.d)
  have e2 : ∀ W, (Op.stringOp .add ({ data := #[100, 61] } : ByteArray) (dgs t.d)).run Try.prog W = .ok (.string (fldS t 2)) W := fun W => by
    have z := dgs_size t.d HTW.out.d
    have z2 : ({ data := #[100, 61] } : ByteArray).size = 2 := by decide
    rw [run_string_add_sum W _ _ (by omega)]
    exact congrArg (fun x => Result.ok (Value.string x) W) (fld_of (k := 2) HFew.out (by omega) (l := [100, 61]) rfl)
  have K3 : Hid (∀ (W : World), Calls Try.prog 12 #[.int .i64 t.j] W (fun e w' => e = .returned (.string (dgs t.j)) ∧ Below W.heap.size W w')) := Lib.hid (fun W => DG.out t.j W HTW.out.j)
  have e3 : ∀ W, (Op.stringOp .add ({ data := #[106, 61] } : ByteArray) (dgs t.j)).run Try.prog W = .ok (.string (fldS t 3)) W := fun W => by
    have z := dgs_size t.j HTW.out.j
    have z2 : ({ data := #[106, 61] } : ByteArray).size = 2 := by decide
    rw [run_string_add_sum W _ _ (by omega)]
    exact congrArg (fun x => Result.ok (Value.string x) W) (fld_of (k := 3) HFew.out (by omega) (l := [106, 61]) rfl)
  have K4 : Hid (∀ (W : World), Calls Try.prog 12 #[.int .i64 t.q] W (fun e w' => e = .returned (.string (dgs t.q)) ∧ Below W.heap.size W w')) := Lib.hid (fun W => DG.out t.q W HTW.out.q)
  have e4 : ∀ W, (Op.stringOp .add ({ data := #[113, 61] } : ByteArray) (dgs t.q)).run Try.prog W = .ok (.string (fldS t 4)) W := fun W => by
    have z := dgs_size t.q HTW.out.q
    have z2 : ({ data := #[113, 61] } : ByteArray).size = 2 := by decide
    rw [run_string_add_sum W _ _ (by omega)]
    exact congrArg (fun x => Result.ok (Value.string x) W) (fld_of (k := 4) HFew.out (by omega) (l := [113, 61]) rfl)
  have K5 : Hid (∀ (W : World), Calls Try.prog 12 #[.int .i64 t.p] W (fun e w' => e = .returned (.string (dgs t.p)) ∧ Below W.heap.size W w')) := Lib.hid (fun W => DG.out t.p W HTW.out.p)
  have e5 : ∀ W, (Op.stringOp .add ({ data := #[112, 61] } : ByteArray) (dgs t.p)).run Try.prog W = .ok (.string (fldS t 5)) W := fun W => by
    have z := dgs_size t.p HTW.out.p
    have z2 : ({ data := #[112, 61] } : ByteArray).size = 2 := by decide
    rw [run_string_add_sum W _ _ (by omega)]
    exact congrArg (fun x => Result.ok (Value.string x) W) (fld_of (k := 5) HFew.out (by omega) (l := [112, 61]) rfl)
  clear DG
  go_region_held_law (fun W => W.cell? ⟨b, 0, none⟩ = some (.string t.n) ∧ W.cell? ⟨b, 1, none⟩ = some (.int .i64 t.c) ∧ W.cell? ⟨b, 2, none⟩ = some (.int .i64 t.t) ∧ W.cell? ⟨b, 3, none⟩ = some (.int .i64 t.d) ∧ W.cell? ⟨b, 4, none⟩ = some (.int .i64 t.j) ∧ W.cell? ⟨b, 5, none⟩ = some (.int .i64 t.q) ∧ W.cell? ⟨b, 6, none⟩ = some (.int .i64 t.p) ∧ Below w.heap.size w W ∧ b < W.heap.size)
    (first | assumption | (exact HC1.out) | (exact (C7.step (w := w) (b := b) (n := t.n) (c := t.c) (t := t.t) (d := t.d) (j := t.j) (q := t.q) (p := t.p) hB (by assumption) : C7 w b t.n t.c t.t t.d t.j t.q t.p _)) | (exact (C7.al (w := w) (b := b) (n := t.n) (c := t.c) (t := t.t) (d := t.d) (j := t.j) (q := t.q) (p := t.p) (by assumption) _ : C7 w b t.n t.c t.t t.d t.j t.q t.p _)))
    (first
    | (go_at_call 12; (first | (with_reducible refine (K0.out _).mono ?_) | (with_reducible refine (K1.out _).mono ?_) | (with_reducible refine (K2.out _).mono ?_) | (with_reducible refine (K3.out _).mono ?_) | (with_reducible refine (K4.out _).mono ?_) | (with_reducible refine (K5.out _).mono ?_)); rintro e w' ⟨rfl, hB⟩))
  have HC4 : C7 w b t.n t.c t.t t.d t.j t.q t.p (w'.alloc (.cells #[.string (fldS t 0), .string (fldS t 1), .string (fldS t 2), .string (fldS t 3), .string (fldS t 4), .string (fldS t 5)] 9)) := by assumption
  obtain ⟨W4, hW4, HS4⟩ : ∃ W4, w'.alloc (.cells #[.string (fldS t 0), .string (fldS t 1), .string (fldS t 2), .string (fldS t 3), .string (fldS t 4), .string (fldS t 5)] 9) = W4 ∧ Sf w b w'.heap.size t W4 := by
    refine ⟨_, rfl, HC4, fun k hk => ?_, by simp⟩
    rcases (by omega : k = 0 ∨ k = 1 ∨ k = 2 ∨ k = 3 ∨ k = 4 ∨ k = 5) with rfl | rfl | rfl | rfl | rfl | rfl <;> (rw [cell_of_row _ _ _ _ _ _ (heap_alloc_new w' _)]; rfl)
  have HS := Lib.hid HS4
  have c0 := HS4.c.1
  have c1 := HS4.c.2.1
  have c2 := HS4.c.2.2.1
  have c3 := HS4.c.2.2.2.1
  have c4 := HS4.c.2.2.2.2.1
  have c5 := HS4.c.2.2.2.2.2.1
  have c6 := HS4.c.2.2.2.2.2.2.1
  rw [hW4]
  clear hW4 HS4 HC4 HC1 e0 e1 e2 e3 e4 e5 K0 K1 K2 K3 K4 K5 HTW
  rw [hnm] at c0
  generalize w'.heap.size = g at *
  obtain ⟨m8, hm8⟩ : ∃ m, (Go.bits BinOp.and IntKind.i64 bits 8 == 8) = m := ⟨_, rfl⟩
  obtain ⟨m4, hm4⟩ : ∃ m, (Go.bits BinOp.and IntKind.i64 bits 4 == 4) = m := ⟨_, rfl⟩
  obtain ⟨m2, hm2⟩ : ∃ m, (Go.bits BinOp.and IntKind.i64 bits 2 == 2) = m := ⟨_, rfl⟩
  obtain ⟨m1, hm1⟩ : ∃ m, (Go.bits BinOp.and IntKind.i64 bits 1 == 1) = m := ⟨_, rfl⟩
  go_upto_region 5 with (fail)
  rcases Bool.eq_false_or_eq_true m4 with h4 | h4
  · obtain rfl := h4
    go_wp2
    go_loopw [10, 11] (fun sv iv wr => ∃ (i : Nat) (s : ByteArray), i ≤ 6 ∧ sv = .string s ∧ iv = .int .i64 i ∧ s.size ≤ 30 + 40 * i ∧ Hid (Txt [10, 32, 35, 32, 116, 97, 115, 107, 10, 116, 97, 115, 107, 32, 116, 97] (if m2 then [9, 32] else []) m8 t R i s) ∧ wr = W4) (fun _ iv _ => 6 - (intOf iv).toNat)
    case atStart => exact ⟨0, _, by omega, rfl, rfl, by decide, Lib.hid rfl, rfl⟩
    case round =>
      obtain ⟨i, s, hi, rfl, rfl, hsz, hT, rfl⟩ := hrel
      by_cases hlt : i < 6
      · obtain ⟨K, hK⟩ : ∃ K, (i + R) % 6 = K := ⟨_, rfl⟩
        have HKV := Lib.hid hK
        have hk6 : K < 6 := by omega
        have hkk : ((i : Int) + (R : Int)) % 6 = (K : Int) := by omega
        have hcell := HS.out.f K hk6
        have zf := fld_size t HFew.out hk6
        have i0 : (0 : Int) ≤ (K : Int) := by omega
        have i1 : (K : Int) < 6 := by omega
        clear hK
        go_upto_region 11 with (go_at_call 13; (with_reducible refine (R1.out _).mono ?_); rintro e w' ⟨rfl, rfl⟩)
        try rw [hkk]
        rcases Bool.eq_false_or_eq_true m8 with h8 | h8
        · obtain rfl := h8
          by_cases e2 : K = 2
          · subst e2
            have hkk : ((i : Int) + (R : Int)) % 6 = 2 := by omega
            rcases Bool.eq_false_or_eq_true (t.d == t.t) with v | v
            · have HSK : Hid (skipB true t 2 = true) := Lib.hid (by simp at v; simp [skipB, v])
              go_wp2_with (fail)
              exact ⟨⟨i + 1, _, by omega, rfl, by go_num, by omega, Lib.hid (hT.out.skip HKV.out HSK.out), (by first | rfl | trivial)⟩, by simp [intOf]; omega⟩
            · have HSK : Hid (skipB true t 2 = false) := Lib.hid (by simp at v; simp [skipB, v])
              rcases Bool.eq_false_or_eq_true m2 with hm | hm
              · obtain rfl := hm
                go_wp2_with (fail)
                exact ⟨⟨i + 1, _, by omega, rfl, by go_num, by simp only [ByteArray.size_append]; have e1 : ({ data := #[32] } : ByteArray).size = 1 := by decide
                                                               have e2 : ({ data := #[9, 32] } : ByteArray).size = 2 := by decide
                                                               omega, Lib.hid (hT.out.gap HKV.out HSK.out), (by first | rfl | trivial)⟩, by simp [intOf]; omega⟩
              · obtain rfl := hm
                go_wp2_with (fail)
                exact ⟨⟨i + 1, _, by omega, rfl, by go_num, by simp only [ByteArray.size_append]; have e1 : ({ data := #[32] } : ByteArray).size = 1 := by decide
                                                               omega, Lib.hid (hT.out.go HKV.out HSK.out), (by first | rfl | trivial)⟩, by simp [intOf]; omega⟩
          · by_cases e3 : K = 3
            · subst e3
              have hkk : ((i : Int) + (R : Int)) % 6 = 3 := by omega
              rcases Bool.eq_false_or_eq_true (t.j == 0) with v | v
              · have HSK : Hid (skipB true t 3 = true) := Lib.hid (by simp at v; simp [skipB, v])
                go_wp2_with (fail)
                exact ⟨⟨i + 1, _, by omega, rfl, by go_num, by omega, Lib.hid (hT.out.skip HKV.out HSK.out), (by first | rfl | trivial)⟩, by simp [intOf]; omega⟩
              · have HSK : Hid (skipB true t 3 = false) := Lib.hid (by simp at v; simp [skipB, v])
                rcases Bool.eq_false_or_eq_true m2 with hm | hm
                · obtain rfl := hm
                  go_wp2_with (fail)
                  exact ⟨⟨i + 1, _, by omega, rfl, by go_num, by simp only [ByteArray.size_append]; have e1 : ({ data := #[32] } : ByteArray).size = 1 := by decide
                                                                 have e2 : ({ data := #[9, 32] } : ByteArray).size = 2 := by decide
                                                                 omega, Lib.hid (hT.out.gap HKV.out HSK.out), (by first | rfl | trivial)⟩, by simp [intOf]; omega⟩
                · obtain rfl := hm
                  go_wp2_with (fail)
                  exact ⟨⟨i + 1, _, by omega, rfl, by go_num, by simp only [ByteArray.size_append]; have e1 : ({ data := #[32] } : ByteArray).size = 1 := by decide
                                                                 omega, Lib.hid (hT.out.go HKV.out HSK.out), (by first | rfl | trivial)⟩, by simp [intOf]; omega⟩
            · by_cases e4 : K = 4
              · subst e4
                have hkk : ((i : Int) + (R : Int)) % 6 = 4 := by omega
                rcases Bool.eq_false_or_eq_true (t.q == 1) with v | v
                · have HSK : Hid (skipB true t 4 = true) := Lib.hid (by simp at v; simp [skipB, v])
                  go_wp2_with (fail)
                  exact ⟨⟨i + 1, _, by omega, rfl, by go_num, by omega, Lib.hid (hT.out.skip HKV.out HSK.out), (by first | rfl | trivial)⟩, by simp [intOf]; omega⟩
                · have HSK : Hid (skipB true t 4 = false) := Lib.hid (by simp at v; simp [skipB, v])
                  rcases Bool.eq_false_or_eq_true m2 with hm | hm
                  · obtain rfl := hm
                    go_wp2_with (fail)
                    exact ⟨⟨i + 1, _, by omega, rfl, by go_num, by simp only [ByteArray.size_append]; have e1 : ({ data := #[32] } : ByteArray).size = 1 := by decide
                                                                   have e2 : ({ data := #[9, 32] } : ByteArray).size = 2 := by decide
                                                                   omega, Lib.hid (hT.out.gap HKV.out HSK.out), (by first | rfl | trivial)⟩, by simp [intOf]; omega⟩
                  · obtain rfl := hm
                    go_wp2_with (fail)
                    exact ⟨⟨i + 1, _, by omega, rfl, by go_num, by simp only [ByteArray.size_append]; have e1 : ({ data := #[32] } : ByteArray).size = 1 := by decide
                                                                   omega, Lib.hid (hT.out.go HKV.out HSK.out), (by first | rfl | trivial)⟩, by simp [intOf]; omega⟩
              · have u2 : ((K : Int) == 2) = false := by rw [beq_eq_false_iff_ne]; omega
                have u3 : ((K : Int) == 3) = false := by rw [beq_eq_false_iff_ne]; omega
                have u4 : ((K : Int) == 4) = false := by rw [beq_eq_false_iff_ne]; omega
                have HSK : Hid (skipB true t K = false) := Lib.hid (by simp [skipB, e2, e3, e4])
                rcases Bool.eq_false_or_eq_true m2 with hm | hm
                · obtain rfl := hm
                  go_wp2_with (fail)
                  exact ⟨⟨i + 1, _, by omega, rfl, by go_num, by simp only [ByteArray.size_append]; have e1 : ({ data := #[32] } : ByteArray).size = 1 := by decide
                                                                 have e2 : ({ data := #[9, 32] } : ByteArray).size = 2 := by decide
                                                                 omega, Lib.hid (hT.out.gap HKV.out HSK.out), (by first | rfl | trivial)⟩, by simp [intOf]; omega⟩
                · obtain rfl := hm
                  go_wp2_with (fail)
                  exact ⟨⟨i + 1, _, by omega, rfl, by go_num, by simp only [ByteArray.size_append]; have e1 : ({ data := #[32] } : ByteArray).size = 1 := by decide
                                                                 omega, Lib.hid (hT.out.go HKV.out HSK.out), (by first | rfl | trivial)⟩, by simp [intOf]; omega⟩
        · obtain rfl := h8
          have HSK : Hid (skipB false t K = false) := Lib.hid (by simp [skipB])
          rcases Bool.eq_false_or_eq_true m2 with hm | hm
          · obtain rfl := hm
            go_wp2_with (fail)
            exact ⟨⟨i + 1, _, by omega, rfl, by go_num, by simp only [ByteArray.size_append]; have e1 : ({ data := #[32] } : ByteArray).size = 1 := by decide
                                                           have e2 : ({ data := #[9, 32] } : ByteArray).size = 2 := by decide
                                                           omega, Lib.hid (hT.out.gap HKV.out HSK.out), (by first | rfl | trivial)⟩, by simp [intOf]; omega⟩
          · obtain rfl := hm
            go_wp2_with (fail)
            exact ⟨⟨i + 1, _, by omega, rfl, by go_num, by simp only [ByteArray.size_append]; have e1 : ({ data := #[32] } : ByteArray).size = 1 := by decide
                                                           omega, Lib.hid (hT.out.go HKV.out HSK.out), (by first | rfl | trivial)⟩, by simp [intOf]; omega⟩
      · obtain rfl : i = 6 := by omega
        have HT := Lib.hid hT.out
        clear hT
        have hgp : Gap (if m2 then [9, 32] else []) := by
          cases m2
          · exact gap_nil
          · exact gap_two
        have key : Hid (∀ (tl : List UInt8), Tail tl → ∀ s' : ByteArray, s' = s ++ bs tl → readS s' = ([t], s'.size, 0)) := Lib.hid (fun tl ht s' e => free_reads (c := 116) (r := [97]) (tl := tl) (b8 := m8) (R := R) (by decide +kernel) (by decide +kernel) hnm HFew.out lead_note ht hgp hR6 (by
          have h : s = _ := HT.out
          rw [e, h, bs_app]
          simp))
        clear hgp
        rcases Bool.eq_false_or_eq_true m1 with hm | hm
        · obtain rfl := hm
          obtain ⟨s', hs'⟩ : ∃ s', s ++ ({ data := #[35, 32, 99, 61, 57] } : ByteArray) = s' := ⟨_, rfl⟩
          have zs : s'.size ≤ 1000 := by
            rw [← hs', ByteArray.size_append]
            have e1 : ({ data := #[35, 32, 99, 61, 57] } : ByteArray).size = 5 := by decide
            omega
          have hrd := key.out _ tail_note s' hs'.symm
          have RK := fun W => read_any s' W (by omega)
          unfold ReadPost at RK
          rw [hrd] at RK
          simp only [List.length_cons, List.length_nil, Nat.zero_add] at RK
          have RK := Lib.hid RK
          clear hrd key
          go_upto_region 17 with (fail)
          try rw [hs']
          go_upto_region 18 with (go_at_call 14; (with_reducible refine (RK.out _).mono ?_); rintro e W5 ⟨A5, cap5, rfl, hR5, hB5⟩)
          have HC5 := HS.out.c.step hB5
          have HB5 := Lib.hid HC5.below
          have d0 := HC5.1
          have d1 := HC5.2.1
          have d2 := HC5.2.2.1
          have d3 := HC5.2.2.2.1
          have d4 := HC5.2.2.2.2.1
          have d5 := HC5.2.2.2.2.2.1
          have d6 := HC5.2.2.2.2.2.2.1
          rw [hnm] at d0
          have hle5 := hR5.le
          have hmx5 := hR5.mx
          simp only [List.length_cons, List.length_nil, Nat.zero_add] at hle5
          obtain ⟨b5, o5, x5, rfl, hx5, -, -, hT5⟩ := hR5.get (k := 0) (by simp)
          obtain rfl : t = x5 := by simpa using hx5
          simp only [Nat.zero_mul, Nat.add_zero] at hT5
          have a0 := hT5.c0
          have a1 := hT5.c1
          have a2 := hT5.c2
          have a3 := hT5.c3
          have a4 := hT5.c4
          have a5 := hT5.c5
          have a6 := hT5.c6
          rw [hnm] at a0
          clear HC5 hR5 hT5 hx5 hB5 c0 c1 c2 c3 c4 c5 c6
          go_quiet (fail)
          go_wp2
          go_ret
          exact ⟨rfl, below_drewN HB5.out _⟩
        · obtain rfl := hm
          have zs : s.size ≤ 1000 := by omega
          have hrd := key.out _ tail_nil s (by
            have h : s = _ := HT.out
            rw [h, bs_app, List.append_nil])
          have RK := fun W => read_any s W (by omega)
          unfold ReadPost at RK
          rw [hrd] at RK
          simp only [List.length_cons, List.length_nil, Nat.zero_add] at RK
          have RK := Lib.hid RK
          clear hrd key
          go_upto_region 17 with (fail)
          go_upto_region 18 with (go_at_call 14; (with_reducible refine (RK.out _).mono ?_); rintro e W5 ⟨A5, cap5, rfl, hR5, hB5⟩)
          have HC5 := HS.out.c.step hB5
          have HB5 := Lib.hid HC5.below
          have d0 := HC5.1
          have d1 := HC5.2.1
          have d2 := HC5.2.2.1
          have d3 := HC5.2.2.2.1
          have d4 := HC5.2.2.2.2.1
          have d5 := HC5.2.2.2.2.2.1
          have d6 := HC5.2.2.2.2.2.2.1
          rw [hnm] at d0
          have hle5 := hR5.le
          have hmx5 := hR5.mx
          simp only [List.length_cons, List.length_nil, Nat.zero_add] at hle5
          obtain ⟨b5, o5, x5, rfl, hx5, -, -, hT5⟩ := hR5.get (k := 0) (by simp)
          obtain rfl : t = x5 := by simpa using hx5
          simp only [Nat.zero_mul, Nat.add_zero] at hT5
          have a0 := hT5.c0
          have a1 := hT5.c1
          have a2 := hT5.c2
          have a3 := hT5.c3
          have a4 := hT5.c4
          have a5 := hT5.c5
          have a6 := hT5.c6
          rw [hnm] at a0
          clear HC5 hR5 hT5 hx5 hB5 c0 c1 c2 c3 c4 c5 c6
          go_quiet (fail)
          go_wp2
          go_ret
          exact ⟨rfl, below_drewN HB5.out _⟩
  · obtain rfl := h4
    go_wp2
    go_loopw [10, 11] (fun sv iv wr => ∃ (i : Nat) (s : ByteArray), i ≤ 6 ∧ sv = .string s ∧ iv = .int .i64 i ∧ s.size ≤ 30 + 40 * i ∧ Hid (Txt [116, 97, 115, 107, 32, 116, 97] (if m2 then [9, 32] else []) m8 t R i s) ∧ wr = W4) (fun _ iv _ => 6 - (intOf iv).toNat)
    case atStart => exact ⟨0, _, by omega, rfl, rfl, by decide, Lib.hid rfl, rfl⟩
    case round =>
      obtain ⟨i, s, hi, rfl, rfl, hsz, hT, rfl⟩ := hrel
      by_cases hlt : i < 6
      · obtain ⟨K, hK⟩ : ∃ K, (i + R) % 6 = K := ⟨_, rfl⟩
        have HKV := Lib.hid hK
        have hk6 : K < 6 := by omega
        have hkk : ((i : Int) + (R : Int)) % 6 = (K : Int) := by omega
        have hcell := HS.out.f K hk6
        have zf := fld_size t HFew.out hk6
        have i0 : (0 : Int) ≤ (K : Int) := by omega
        have i1 : (K : Int) < 6 := by omega
        clear hK
        go_upto_region 11 with (go_at_call 13; (with_reducible refine (R1.out _).mono ?_); rintro e w' ⟨rfl, rfl⟩)
        try rw [hkk]
        rcases Bool.eq_false_or_eq_true m8 with h8 | h8
        · obtain rfl := h8
          by_cases e2 : K = 2
          · subst e2
            have hkk : ((i : Int) + (R : Int)) % 6 = 2 := by omega
            rcases Bool.eq_false_or_eq_true (t.d == t.t) with v | v
            · have HSK : Hid (skipB true t 2 = true) := Lib.hid (by simp at v; simp [skipB, v])
              go_wp2_with (fail)
              exact ⟨⟨i + 1, _, by omega, rfl, by go_num, by omega, Lib.hid (hT.out.skip HKV.out HSK.out), (by first | rfl | trivial)⟩, by simp [intOf]; omega⟩
            · have HSK : Hid (skipB true t 2 = false) := Lib.hid (by simp at v; simp [skipB, v])
              rcases Bool.eq_false_or_eq_true m2 with hm | hm
              · obtain rfl := hm
                go_wp2_with (fail)
                exact ⟨⟨i + 1, _, by omega, rfl, by go_num, by simp only [ByteArray.size_append]; have e1 : ({ data := #[32] } : ByteArray).size = 1 := by decide
                                                               have e2 : ({ data := #[9, 32] } : ByteArray).size = 2 := by decide
                                                               omega, Lib.hid (hT.out.gap HKV.out HSK.out), (by first | rfl | trivial)⟩, by simp [intOf]; omega⟩
              · obtain rfl := hm
                go_wp2_with (fail)
                exact ⟨⟨i + 1, _, by omega, rfl, by go_num, by simp only [ByteArray.size_append]; have e1 : ({ data := #[32] } : ByteArray).size = 1 := by decide
                                                               omega, Lib.hid (hT.out.go HKV.out HSK.out), (by first | rfl | trivial)⟩, by simp [intOf]; omega⟩
          · by_cases e3 : K = 3
            · subst e3
              have hkk : ((i : Int) + (R : Int)) % 6 = 3 := by omega
              rcases Bool.eq_false_or_eq_true (t.j == 0) with v | v
              · have HSK : Hid (skipB true t 3 = true) := Lib.hid (by simp at v; simp [skipB, v])
                go_wp2_with (fail)
                exact ⟨⟨i + 1, _, by omega, rfl, by go_num, by omega, Lib.hid (hT.out.skip HKV.out HSK.out), (by first | rfl | trivial)⟩, by simp [intOf]; omega⟩
              · have HSK : Hid (skipB true t 3 = false) := Lib.hid (by simp at v; simp [skipB, v])
                rcases Bool.eq_false_or_eq_true m2 with hm | hm
                · obtain rfl := hm
                  go_wp2_with (fail)
                  exact ⟨⟨i + 1, _, by omega, rfl, by go_num, by simp only [ByteArray.size_append]; have e1 : ({ data := #[32] } : ByteArray).size = 1 := by decide
                                                                 have e2 : ({ data := #[9, 32] } : ByteArray).size = 2 := by decide
                                                                 omega, Lib.hid (hT.out.gap HKV.out HSK.out), (by first | rfl | trivial)⟩, by simp [intOf]; omega⟩
                · obtain rfl := hm
                  go_wp2_with (fail)
                  exact ⟨⟨i + 1, _, by omega, rfl, by go_num, by simp only [ByteArray.size_append]; have e1 : ({ data := #[32] } : ByteArray).size = 1 := by decide
                                                                 omega, Lib.hid (hT.out.go HKV.out HSK.out), (by first | rfl | trivial)⟩, by simp [intOf]; omega⟩
            · by_cases e4 : K = 4
              · subst e4
                have hkk : ((i : Int) + (R : Int)) % 6 = 4 := by omega
                rcases Bool.eq_false_or_eq_true (t.q == 1) with v | v
                · have HSK : Hid (skipB true t 4 = true) := Lib.hid (by simp at v; simp [skipB, v])
                  go_wp2_with (fail)
                  exact ⟨⟨i + 1, _, by omega, rfl, by go_num, by omega, Lib.hid (hT.out.skip HKV.out HSK.out), (by first | rfl | trivial)⟩, by simp [intOf]; omega⟩
                · have HSK : Hid (skipB true t 4 = false) := Lib.hid (by simp at v; simp [skipB, v])
                  rcases Bool.eq_false_or_eq_true m2 with hm | hm
                  · obtain rfl := hm
                    go_wp2_with (fail)
                    exact ⟨⟨i + 1, _, by omega, rfl, by go_num, by simp only [ByteArray.size_append]; have e1 : ({ data := #[32] } : ByteArray).size = 1 := by decide
                                                                   have e2 : ({ data := #[9, 32] } : ByteArray).size = 2 := by decide
                                                                   omega, Lib.hid (hT.out.gap HKV.out HSK.out), (by first | rfl | trivial)⟩, by simp [intOf]; omega⟩
                  · obtain rfl := hm
                    go_wp2_with (fail)
                    exact ⟨⟨i + 1, _, by omega, rfl, by go_num, by simp only [ByteArray.size_append]; have e1 : ({ data := #[32] } : ByteArray).size = 1 := by decide
                                                                   omega, Lib.hid (hT.out.go HKV.out HSK.out), (by first | rfl | trivial)⟩, by simp [intOf]; omega⟩
              · have u2 : ((K : Int) == 2) = false := by rw [beq_eq_false_iff_ne]; omega
                have u3 : ((K : Int) == 3) = false := by rw [beq_eq_false_iff_ne]; omega
                have u4 : ((K : Int) == 4) = false := by rw [beq_eq_false_iff_ne]; omega
                have HSK : Hid (skipB true t K = false) := Lib.hid (by simp [skipB, e2, e3, e4])
                rcases Bool.eq_false_or_eq_true m2 with hm | hm
                · obtain rfl := hm
                  go_wp2_with (fail)
                  exact ⟨⟨i + 1, _, by omega, rfl, by go_num, by simp only [ByteArray.size_append]; have e1 : ({ data := #[32] } : ByteArray).size = 1 := by decide
                                                                 have e2 : ({ data := #[9, 32] } : ByteArray).size = 2 := by decide
                                                                 omega, Lib.hid (hT.out.gap HKV.out HSK.out), (by first | rfl | trivial)⟩, by simp [intOf]; omega⟩
                · obtain rfl := hm
                  go_wp2_with (fail)
                  exact ⟨⟨i + 1, _, by omega, rfl, by go_num, by simp only [ByteArray.size_append]; have e1 : ({ data := #[32] } : ByteArray).size = 1 := by decide
                                                                 omega, Lib.hid (hT.out.go HKV.out HSK.out), (by first | rfl | trivial)⟩, by simp [intOf]; omega⟩
        · obtain rfl := h8
          have HSK : Hid (skipB false t K = false) := Lib.hid (by simp [skipB])
          rcases Bool.eq_false_or_eq_true m2 with hm | hm
          · obtain rfl := hm
            go_wp2_with (fail)
            exact ⟨⟨i + 1, _, by omega, rfl, by go_num, by simp only [ByteArray.size_append]; have e1 : ({ data := #[32] } : ByteArray).size = 1 := by decide
                                                           have e2 : ({ data := #[9, 32] } : ByteArray).size = 2 := by decide
                                                           omega, Lib.hid (hT.out.gap HKV.out HSK.out), (by first | rfl | trivial)⟩, by simp [intOf]; omega⟩
          · obtain rfl := hm
            go_wp2_with (fail)
            exact ⟨⟨i + 1, _, by omega, rfl, by go_num, by simp only [ByteArray.size_append]; have e1 : ({ data := #[32] } : ByteArray).size = 1 := by decide
                                                           omega, Lib.hid (hT.out.go HKV.out HSK.out), (by first | rfl | trivial)⟩, by simp [intOf]; omega⟩
      · obtain rfl : i = 6 := by omega
        have HT := Lib.hid hT.out
        clear hT
        have hgp : Gap (if m2 then [9, 32] else []) := by
          cases m2
          · exact gap_nil
          · exact gap_two
        have key : Hid (∀ (tl : List UInt8), Tail tl → ∀ s' : ByteArray, s' = s ++ bs tl → readS s' = ([t], s'.size, 0)) := Lib.hid (fun tl ht s' e => free_reads (c := 116) (r := [97]) (tl := tl) (b8 := m8) (R := R) (by decide +kernel) (by decide +kernel) hnm HFew.out lead_nil ht hgp hR6 (by
          have h : s = _ := HT.out
          rw [e, h, bs_app]
          simp))
        clear hgp
        rcases Bool.eq_false_or_eq_true m1 with hm | hm
        · obtain rfl := hm
          obtain ⟨s', hs'⟩ : ∃ s', s ++ ({ data := #[35, 32, 99, 61, 57] } : ByteArray) = s' := ⟨_, rfl⟩
          have zs : s'.size ≤ 1000 := by
            rw [← hs', ByteArray.size_append]
            have e1 : ({ data := #[35, 32, 99, 61, 57] } : ByteArray).size = 5 := by decide
            omega
          have hrd := key.out _ tail_note s' hs'.symm
          have RK := fun W => read_any s' W (by omega)
          unfold ReadPost at RK
          rw [hrd] at RK
          simp only [List.length_cons, List.length_nil, Nat.zero_add] at RK
          have RK := Lib.hid RK
          clear hrd key
          go_upto_region 17 with (fail)
          try rw [hs']
          go_upto_region 18 with (go_at_call 14; (with_reducible refine (RK.out _).mono ?_); rintro e W5 ⟨A5, cap5, rfl, hR5, hB5⟩)
          have HC5 := HS.out.c.step hB5
          have HB5 := Lib.hid HC5.below
          have d0 := HC5.1
          have d1 := HC5.2.1
          have d2 := HC5.2.2.1
          have d3 := HC5.2.2.2.1
          have d4 := HC5.2.2.2.2.1
          have d5 := HC5.2.2.2.2.2.1
          have d6 := HC5.2.2.2.2.2.2.1
          rw [hnm] at d0
          have hle5 := hR5.le
          have hmx5 := hR5.mx
          simp only [List.length_cons, List.length_nil, Nat.zero_add] at hle5
          obtain ⟨b5, o5, x5, rfl, hx5, -, -, hT5⟩ := hR5.get (k := 0) (by simp)
          obtain rfl : t = x5 := by simpa using hx5
          simp only [Nat.zero_mul, Nat.add_zero] at hT5
          have a0 := hT5.c0
          have a1 := hT5.c1
          have a2 := hT5.c2
          have a3 := hT5.c3
          have a4 := hT5.c4
          have a5 := hT5.c5
          have a6 := hT5.c6
          rw [hnm] at a0
          clear HC5 hR5 hT5 hx5 hB5 c0 c1 c2 c3 c4 c5 c6
          go_quiet (fail)
          go_wp2
          go_ret
          exact ⟨rfl, below_drewN HB5.out _⟩
        · obtain rfl := hm
          have zs : s.size ≤ 1000 := by omega
          have hrd := key.out _ tail_nil s (by
            have h : s = _ := HT.out
            rw [h, bs_app, List.append_nil])
          have RK := fun W => read_any s W (by omega)
          unfold ReadPost at RK
          rw [hrd] at RK
          simp only [List.length_cons, List.length_nil, Nat.zero_add] at RK
          have RK := Lib.hid RK
          clear hrd key
          go_upto_region 17 with (fail)
          go_upto_region 18 with (go_at_call 14; (with_reducible refine (RK.out _).mono ?_); rintro e W5 ⟨A5, cap5, rfl, hR5, hB5⟩)
          have HC5 := HS.out.c.step hB5
          have HB5 := Lib.hid HC5.below
          have d0 := HC5.1
          have d1 := HC5.2.1
          have d2 := HC5.2.2.1
          have d3 := HC5.2.2.2.1
          have d4 := HC5.2.2.2.2.1
          have d5 := HC5.2.2.2.2.2.1
          have d6 := HC5.2.2.2.2.2.2.1
          rw [hnm] at d0
          have hle5 := hR5.le
          have hmx5 := hR5.mx
          simp only [List.length_cons, List.length_nil, Nat.zero_add] at hle5
          obtain ⟨b5, o5, x5, rfl, hx5, -, -, hT5⟩ := hR5.get (k := 0) (by simp)
          obtain rfl : t = x5 := by simpa using hx5
          simp only [Nat.zero_mul, Nat.add_zero] at hT5
          have a0 := hT5.c0
          have a1 := hT5.c1
          have a2 := hT5.c2
          have a3 := hT5.c3
          have a4 := hT5.c4
          have a5 := hT5.c5
          have a6 := hT5.c6
          rw [hnm] at a0
          clear HC5 hR5 hT5 hx5 hB5 c0 c1 c2 c3 c4 c5 c6
          go_quiet (fail)
          go_wp2
          go_ret
          exact ⟨rfl, below_drewN HB5.out _⟩
end Go.Proofs.Ytlelnoalajeihaa
