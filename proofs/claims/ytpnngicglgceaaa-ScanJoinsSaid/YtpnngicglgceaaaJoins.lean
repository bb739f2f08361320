/- ScanJoins: the walk. -/
import Derived.Test.YtpnngicglgceaaaFresh
namespace Go.Proofs.Ytpnngicglgceaaa
open Go.RowKit Go.Shelf
set_option linter.unusedVariables false

/-- A row of tokens from the k-th on. -/
structure Row (w : World) (g k : Nat) (ts : List Tk) : Prop where
  lt : g < w.heap.size
  fz : ∀ o, w.frozen? ⟨g, o, none⟩ = false
  at' : ∀ i x, k ≤ i → ts[i]? = some x → w.cell? ⟨g, i * 4, none⟩ = some (.int .i64 (x.k : Int)) ∧ w.cell? ⟨g, i * 4 + 1, none⟩ = some (.int .i64 (x.at' : Int)) ∧ w.cell? ⟨g, i * 4 + 2, none⟩ = some (.string (bs x.t)) ∧ w.cell? ⟨g, i * 4 + 3, none⟩ = some (.int .i64 (x.n : Int))
theorem Row.later {w w' : World} {g k : Nat} {ts : List Tk} (h : Row w g k ts) (hb : Below w.heap.size w w') : Row w' g k ts :=
  ⟨by have := h.lt; have := hb.size; omega, fun o => (hb.frozen (p := ⟨g, o, none⟩) h.lt).trans (h.fz o), fun i x hk hx => by
    have e : ∀ o, w'.cell? ⟨g, o, none⟩ = w.cell? ⟨g, o, none⟩ := fun o => hb.cell (p := ⟨g, o, none⟩) h.lt
    rw [e, e, e, e]; exact h.at' i x hk hx⟩
theorem Row.set {w : World} {g k : Nat} {ts : List Tk} (h : Row w g k ts) (b o : Nat) (u : Value) (hb : g ≠ b ∨ o < k * 4) : Row (w.setCell ⟨b, o, none⟩ u) g k ts :=
  ⟨by simpa using h.lt, fun o => by have := h.fz o; simpa using this, fun i x hk hx => by
    have e : ∀ p, k * 4 ≤ p → (w.setCell ⟨b, o, none⟩ u).cell? ⟨g, p, none⟩ = w.cell? ⟨g, p, none⟩ := fun p hp => World.cell?_setCell_other _ _ _ _ (fun e => by
      injection e with e1 e2 e3
      rcases hb with hb | hb
      · exact hb e1.symm
      · omega)
    rw [e _ (by omega), e _ (by omega), e _ (by omega), e _ (by omega)]; exact h.at' i x hk hx⟩
theorem Row.up {w : World} {g k k' : Nat} {ts : List Tk} (h : Row w g k ts) (hk : k ≤ k') : Row w g k' ts := ⟨h.lt, h.fz, fun i x hi hx => h.at' i x (by omega) hx⟩
theorem toks_open {w : World} {v : Value} {ts : List Tk} (h : Toks w v ts) (hn : ts ≠ []) {B : Nat} (hf : ∀ g, v.ownBlock = some g → B ≤ g ∧ ∀ o, w.frozen? ⟨g, o, none⟩ = false) : ∃ g cap, v = .slice (some ⟨g, 0, none⟩) ts.length cap ∧ ts.length ≤ cap ∧ cap ≤ 9223372036854775807 ∧ Row w g 0 ts ∧ B ≤ g := by
  rcases h with h | ⟨g, cap, h1, h2, h3, h4, h5⟩
  · exact absurd h.2 hn
  · have h6 := hf g (by rw [h1]; rfl)
    exact ⟨g, cap, h1, h2, by unfold maxLen at h3; omega, ⟨h4, h6.2, fun i x _ hx => at_mul (h5 i x hx)⟩, h6.1⟩
def Four (w : World) (g o : Nat) (v0 v1 v2 v3 : Value) : Prop := w.cell? ⟨g, o, none⟩ = some v0 ∧ w.cell? ⟨g, o + 1, none⟩ = some v1 ∧ w.cell? ⟨g, o + 2, none⟩ = some v2 ∧ w.cell? ⟨g, o + 3, none⟩ = some v3
theorem Four.set {w : World} {g o : Nat} {v0 v1 v2 v3 : Value} (h : Four w g o v0 v1 v2 v3) (u : Value) : Four (w.setCell ⟨g, o + 1, none⟩ u) g o v0 u v2 v3 := by
  have e : ∀ p, p ≠ o + 1 → (w.setCell ⟨g, o + 1, none⟩ u).cell? ⟨g, p, none⟩ = w.cell? ⟨g, p, none⟩ := fun p hp => World.cell?_setCell_other _ _ _ _ (fun e => by injection e with e1 e2 e3; omega)
  exact ⟨by rw [e _ (by omega)]; exact h.1, World.cell?_setCell_same _ _ _ h.2.1, by rw [e _ (by omega)]; exact h.2.2.1, by rw [e _ (by omega)]; exact h.2.2.2⟩
theorem Four.other {w : World} {g b o p : Nat} {v0 v1 v2 v3 : Value} (h : Four w g o v0 v1 v2 v3) (hne : g ≠ b) (u : Value) : Four (w.setCell ⟨b, p, none⟩ u) g o v0 v1 v2 v3 := by
  have e : ∀ q, (w.setCell ⟨b, p, none⟩ u).cell? ⟨g, q, none⟩ = w.cell? ⟨g, q, none⟩ := fun q => World.cell?_setCell_other _ _ _ _ (fun e => by injection e with e1 e2 e3; exact hne e1.symm)
  exact ⟨by rw [e]; exact h.1, by rw [e]; exact h.2.1, by rw [e]; exact h.2.2.1, by rw [e]; exact h.2.2.2⟩
theorem and31 (k : Nat) : ∃ c : Nat, c < 32 ∧ bits .and .i64 (k : Int) 31 = (c : Int) := by
  have h : (BitVec.ofInt 64 (k : Int) &&& BitVec.ofInt 64 31).toNat ≤ 31 := by
    rw [BitVec.toNat_and]
    exact Nat.and_le_right
  have e : bits .and .i64 (k : Int) 31 = IntKind.i64.wrap (((BitVec.ofInt 64 (k : Int) &&& BitVec.ofInt 64 31).toNat : Nat) : Int) := rfl
  rw [e]
  generalize (BitVec.ofInt 64 (k : Int) &&& BitVec.ofInt 64 31).toNat = z at *
  exact ⟨z, by omega, IntWalk.i64_in _ (by omega)⟩

set_option maxRecDepth 100000 in
set_option maxHeartbeats 4000000 in
theorem joins_walk (s : ByteArray) (bb : Int) (w : World) (hs : s.size ≤ maxLen) :
    Calls Try.prog 5 #[.string s, .int .i64 bb] w fun e w' => e = .returned (.bool true) ∧ Below w.heap.size w w' := by
  have S := Lib.hid (fun w => short_any s w hs)
  have h100 := shortS_size s
  generalize shortS s = t at *
  have hs5 : t.size ≤ 100000 := by omega
  have E1 := Lib.hid (fun w => each_new t w hs5)
  have HW := Lib.hid (fun x (h : x ∈ tokL t) => (tok_wd h).1)
  have HL := Lib.hid (fun x (h : x ∈ tokL t) => Nat.le_trans (tok_wd h).2 h100)
  have hts := Nat.le_trans (toks_size t) h100
  generalize tokL t = ts at *
  go_enter Try.func5, Try.ntmps5
  go_upto_region 3 with (first
    | (go_at_call 9; refine (awake_any _).mono ?_; rintro e w1 ⟨rfl, h1⟩)
    | (go_at_call 10; (with_reducible refine (S.out _).mono ?_); rintro e w2 ⟨rfl, rfl⟩)
    | (go_at_call 12; (with_reducible refine (E1.out _).mono ?_); rintro e w3 ⟨v, rfl, hv, h3, hf⟩))
  have B3 := h1.trans (h3.mono h1.size)
  clear h1 h3 S E1
  by_cases hne : ts = []
  · subst hne
    obtain ⟨A, cp, rfl⟩ := toks_len hv
    have u1 : tokL ({ data := #[] } : ByteArray) = [] := List.map_eq_nil_iff.1 (So.ends (ts := []) (So.start []))
    have u2 : tokL ({ data := #[9] } : ByteArray) = [] := List.map_eq_nil_iff.1 (So.ends (ts := []) (So.start9 []))
    have F1 := Lib.hid (fun w => each_any ({ data := #[] } : ByteArray) w (by decide))
    have F2 := Lib.hid (fun w => each_any ({ data := #[9] } : ByteArray) w (by decide))
    rw [u1] at F1
    rw [u2] at F2
    simp only [List.length_nil]
    clear u1 u2 hv hf HW HL
    go_wp2
    go_loopw [8, 9, 10] (fun p q i wr => p = .string { data := #[] } ∧ q = .string { data := #[9] } ∧ i = .int .i64 0 ∧ wr = w3) (fun _ _ _ _ => 0)
    case atStart => exact ⟨rfl, rfl, rfl, rfl⟩
    case round =>
      obtain ⟨rfl, rfl, rfl, rfl⟩ := hrel
      go_upto_region 15 with (first
        | (go_at_call 12; (with_reducible refine (F1.out _).mono ?_); rintro e w4 ⟨v1, rfl, hv1, h4⟩; obtain ⟨A1, c1, rfl⟩ := toks_len hv1)
        | (go_at_call 12; (with_reducible refine (F2.out _).mono ?_); rintro e w5 ⟨v2, rfl, hv2, h5⟩; obtain ⟨A2, c2, rfl⟩ := toks_len hv2))
      have B5 := (B3.trans (h4.mono B3.size)).trans (h5.mono (Nat.le_trans B3.size h4.size))
      try simp only [List.length_nil]
      clear hv1 hv2 h4 h5 B3
      go_wp2
      go_loopw [15] (fun i wr => i = .int .i64 0 ∧ wr = w5) (fun _ _ => 0)
      case atStart => exact ⟨rfl, rfl⟩
      case round =>
        obtain ⟨rfl, rfl⟩ := hrel
        go_wp2
        go_ret
        exact ⟨rfl, B5⟩
  · obtain ⟨g, cap, rfl, ha, hb, hR, -⟩ := toks_open hv hne hf
    have HR := Lib.hid hR
    have HN := Lib.hid hne
    have hg := hR.lt
    clear hR hv hf hne
    go_wp2
    go_loopw [8, 9, 10] (fun p q i wr => ∃ (k : Nat) (l1 l2 : List UInt8) (nb : Bool), k ≤ ts.length ∧ p = .string (bs l1) ∧ q = .string (bs l2) ∧ i = .int .i64 k ∧ Hid (So ts k l1 false) ∧ Hid (So ts k l2 nb) ∧ Hid (nb = true → k < ts.length → ∃ y, ts[k]? = some y ∧ y.k = 4) ∧ l1.length ≤ 101 * k ∧ l2.length ≤ 1 + 114 * k ∧ wr = w3) (fun _ _ i _ => ts.length - (intOf i).toNat)
    case atStart => exact ⟨0, [], [9], false, Nat.zero_le _, rfl, rfl, rfl, Lib.hid (So.start _), Lib.hid (So.start9 _), Lib.hid (fun h => by cases h), by simp, by simp, rfl⟩
    case round =>
      obtain ⟨k, l1, l2, nb, hk, rfl, rfl, rfl, H1, H2, H3, n1, n2, rfl⟩ := hrel
      by_cases hlt : k < ts.length
      · obtain ⟨x, hx⟩ : ∃ x, ts[k]? = some x := ⟨ts[k], List.getElem?_eq_getElem hlt⟩
        obtain ⟨a0, a1, a2, a3⟩ := HR.out.at' k x (Nat.zero_le _) hx
        have hxm := List.mem_of_getElem? hx
        have hxl := HL.out x hxm
        have hxw := HW.out x hxm
        have hnb : nb = true → x.k = 4 := fun e => by
          obtain ⟨y, hy, h4⟩ := H3.out e hlt
          rw [hx] at hy; injection hy with hy; rw [hy]; exact h4
        have P1 : Hid (So ts (k + 1) (l1 ++ (x.t ++ [32])) false) := Lib.hid (by simpa using H1.out.step hx hxw (fun h => by cases h) [] (by simp))
        have P2 : Hid (So ts (k + 1) (l2 ++ (x.t ++ [32, 32, 9])) false) := Lib.hid (by simpa using H2.out.step hx hxw hnb [32, 9] (by intro c hc; simp at hc; rcases hc with rfl | rfl <;> rfl))
        have P3 := Lib.hid P2.out.note
        have HX := Lib.hid hx
        have hi0 : (0 : Int) ≤ (k : Int) := by omega
        have hi1 : (k : Int) < (ts.length : Int) := by omega
        have hdk : decide ((k : Int) < (ts.length : Int)) = true := decide_eq_true (by omega)
        have hdk2 : decide (k < ts.length) = true := decide_eq_true hlt
        obtain ⟨m3, hm3⟩ : ∃ m3, m3 = l2 ++ (x.t ++ [32, 32, 9]) ++ note := ⟨_, rfl⟩
        have P4 : Hid (So ts (k + 1) m3 true) := Lib.hid (by rw [hm3]; exact P3.out)
        have hm4 : m3.length = l2.length + (x.t.length + 3) + 11 := by rw [hm3]; simp [note]; omega
        clear P3
        have x1 : bs l1 ++ bs x.t = bs (l1 ++ x.t) := bs_app _ _
        have x2 : bs (l1 ++ x.t) ++ ({ data := #[32] } : ByteArray) = bs (l1 ++ (x.t ++ [32])) := by rw [← List.append_assoc]; exact bs_app _ [32]
        have x3 : bs l2 ++ bs x.t = bs (l2 ++ x.t) := bs_app _ _
        have x4 : bs (l2 ++ x.t) ++ ({ data := #[32, 32, 9] } : ByteArray) = bs (l2 ++ (x.t ++ [32, 32, 9])) := by rw [← List.append_assoc]; exact bs_app _ [32, 32, 9]
        have x5 : bs (l2 ++ (x.t ++ [32, 32, 9])) ++ ({ data := #[35, 32, 97, 32, 61, 32, 49, 32, 35, 44, 32] } : ByteArray) = bs m3 := by rw [hm3]; exact bs_app _ note
        have z0 : ({ data := #[32] } : ByteArray).size = 1 := rfl
        have z1 : ({ data := #[32, 32, 9] } : ByteArray).size = 3 := rfl
        have z2 : ({ data := #[35, 32, 97, 32, 61, 32, 49, 32, 35, 44, 32] } : ByteArray).size = 11 := rfl
        have y1 := bs_size l1
        have y2 := bs_size (l1 ++ x.t)
        have y3 := bs_size l2
        have y4 := bs_size (l2 ++ x.t)
        have y5 := bs_size (l2 ++ (x.t ++ [32, 32, 9]))
        have y6 := bs_size x.t
        simp only [List.length_append, List.length_cons, List.length_nil] at y2 y4 y5
        obtain ⟨c, hc32, hc⟩ := and31 k
        clear hx hxm hxw hnb hm3
        by_cases c1 : k + 1 = ts.length
        · have q1 : ((k : Int) == (ts.length : Int) - 1) = true := by simp; omega
          go_wp2
          · exact ⟨⟨k + 1, _, _, true, by omega, rfl, rfl, by simp, P1, P4, Lib.hid (fun _ h => absurd h (by omega)), by simp; omega, by omega, trivial⟩, by simp [intOf]; omega⟩
          · exact ⟨⟨k + 1, _, _, false, by omega, rfl, rfl, by simp, P1, P2, Lib.hid (fun h => by cases h), by simp; omega, by simp; omega, trivial⟩, by simp [intOf]; omega⟩
        · have q1 : ((k : Int) == (ts.length : Int) - 1) = false := by simp; omega
          obtain ⟨y, hy⟩ : ∃ y, ts[k + 1]? = some y := ⟨ts[k + 1]'(by omega), List.getElem?_eq_getElem (by omega)⟩
          obtain ⟨b0, -, -, -⟩ := HR.out.at' (k + 1) y (Nat.zero_le _) hy
          have HY := Lib.hid hy
          have hi2 : (0 : Int) ≤ (k : Int) + 1 := by omega
          have hi3 : (k : Int) + 1 < (ts.length : Int) := by omega
          clear hy
          by_cases c2 : y.k = 4
          · have q2 : ((y.k : Int) == 4) = true := by rw [c2]; rfl
            have HC := Lib.hid c2
            clear c2
            go_wp2
            · exact ⟨⟨k + 1, _, _, true, by omega, rfl, rfl, by simp, P1, P4, Lib.hid (fun _ _ => ⟨y, HY.out, HC.out⟩), by simp; omega, by omega, trivial⟩, by simp [intOf]; omega⟩
            · exact ⟨⟨k + 1, _, _, false, by omega, rfl, rfl, by simp, P1, P2, Lib.hid (fun h => by cases h), by simp; omega, by simp; omega, trivial⟩, by simp [intOf]; omega⟩
          · have q2 : ((y.k : Int) == 4) = false := by simp; omega
            clear c2
            go_wp2
            exact ⟨⟨k + 1, _, _, false, by omega, rfl, rfl, by simp, P1, P2, Lib.hid (fun h => by cases h), by simp; omega, by simp; omega, trivial⟩, by simp [intOf]; omega⟩
      · obtain rfl : k = ts.length := by omega
        have hdk : decide ((ts.length : Int) < (ts.length : Int)) = false := decide_eq_false (by omega)
        have hdk2 : decide (ts.length < ts.length) = false := decide_eq_false hlt
        have u1 := H1.out.ends
        have u2 := H2.out.ends
        have hs1 : (bs l1).size ≤ 100000 := by rw [bs_size]; omega
        have hs2 : (bs l2).size ≤ 100000 := by rw [bs_size]; omega
        have F1 := Lib.hid (fun w => each_new (bs l1) w hs1)
        have F2 := Lib.hid (fun w => each_new (bs l2) w hs2)
        clear H1 H2 H3
        generalize tokL (bs l1) = us1 at *
        generalize tokL (bs l2) = us2 at *
        have e1 : us1.length = ts.length := by have := congrArg List.length u1; simpa using this
        have e2 : us2.length = ts.length := by have := congrArg List.length u2; simpa using this
        have hn1 : us1 ≠ [] := fun e => HN.out (List.eq_nil_of_length_eq_zero (by rw [← e1, e]; rfl))
        have hn2 : us2 ≠ [] := fun e => HN.out (List.eq_nil_of_length_eq_zero (by rw [← e2, e]; rfl))
        have U1 := Lib.hid u1
        have U2 := Lib.hid u2
        clear u1 u2
        go_upto_region 15 with (first
          | (go_at_call 12; (with_reducible refine (F1.out _).mono ?_); rintro e w4 ⟨v1, rfl, hv1, h4, f1⟩; obtain ⟨g1, cap1, rfl, ha1, hb1, R1, hg1⟩ := toks_open hv1 hn1 f1; rw [e1]; clear hv1 f1)
          | (go_at_call 12; (with_reducible refine (F2.out _).mono ?_); rintro e w5 ⟨v2, rfl, hv2, h5, f2⟩; obtain ⟨g2, cap2, rfl, ha2, hb2, R2, hg2⟩ := toks_open hv2 hn2 f2; rw [e2]; clear hv2 f2))
        have L4 : w4.heap.size ≤ w5.heap.size := h5.size
        have L3 : wr.heap.size ≤ w4.heap.size := h4.size
        have R15 := R1.later h5
        have R05 := (HR.out.later h4).later h5
        have B5 := (B3.trans (h4.mono B3.size)).trans (h5.mono (Nat.le_trans B3.size h4.size))
        have hw3 := B3.size
        have n12 : g1 ≠ g2 := by have := R1.lt; omega
        have n01 : g ≠ g1 := by omega
        have n02 : g ≠ g2 := by omega
        have n10 := Ne.symm n01
        have n20 := Ne.symm n02
        have n21 := Ne.symm n12
        have G1 : w.heap.size ≤ g1 := by omega
        have G2 : w.heap.size ≤ g2 := by omega
        rw [e1] at ha1
        rw [e2] at ha2
        clear h4 h5 B3 R1 HR
        go_wp2
        go_loopw [15] (fun i wr => ∃ k : Nat, k ≤ ts.length ∧ i = .int .i64 k ∧ Row wr g 0 ts ∧ Row wr g1 k us1 ∧ Row wr g2 k us2 ∧ Below w.heap.size w wr) (fun i _ => ts.length - (intOf i).toNat)
        case atStart => exact ⟨0, Nat.zero_le _, rfl, R05, R15, R2, B5⟩
        case round =>
          clear R05 R15 R2 B5
          obtain ⟨k, hk, rfl, R0, R1, R2, hB⟩ := hrel
          by_cases hlt : k < ts.length
          · obtain ⟨x, hx⟩ : ∃ x, ts[k]? = some x := ⟨ts[k], List.getElem?_eq_getElem hlt⟩
            obtain ⟨y, hy, y1, y2, y3⟩ := un_get U1.out hx
            obtain ⟨z, hz, z1, z2, z3⟩ := un_get U2.out hx
            obtain ⟨a0, a1, a2, a3⟩ := R0.at' k x (Nat.zero_le _) hx
            obtain ⟨b0, b1, b2, b3⟩ := R1.at' k y (Nat.le_refl _) hy
            obtain ⟨c0, c1, c2, c3⟩ := R2.at' k z (Nat.le_refl _) hz
            rw [y1] at b0
            rw [y2] at b2
            rw [y3] at b3
            rw [z1] at c0
            rw [z2] at c2
            rw [z3] at c3
            have fb := R1.fz
            have fc := R2.fz
            have hi0 : (0 : Int) ≤ (k : Int) := by omega
            have hi1 : (k : Int) < (ts.length : Int) := by omega
            have hdk : decide ((k : Int) < (ts.length : Int)) = true := decide_eq_true (by omega)
            have hdk2 : decide (k < ts.length) = true := decide_eq_true hlt
            have HX := Lib.hid (And.intro hx (And.intro hy hz))
            have HR0 := Lib.hid R0
            have HR1 := Lib.hid R1
            have HR2 := Lib.hid R2
            clear hx hy hz y1 y2 y3 z1 z2 z3 R0 R1 R2
            go_upto_region 22 with (fail)
            obtain ⟨W2, hW2, Q0, Q1, Q2, B2, ⟨s0, s1, s2, s3⟩, ⟨t0, t1, t2, t3⟩, ⟨r0, r1, r2, r3⟩⟩ : ∃ W2, (wr.setCell ⟨g1, k * 4 + 1, none⟩ (.int .i64 (x.at' : Int))).setCell ⟨g2, k * 4 + 1, none⟩ (.int .i64 (x.at' : Int)) = W2 ∧ Row W2 g 0 ts ∧ Row W2 g1 (k + 1) us1 ∧ Row W2 g2 (k + 1) us2 ∧ Below w.heap.size w W2 ∧
                Four W2 g (k * 4) (.int .i64 (x.k : Int)) (.int .i64 (x.at' : Int)) (.string (bs x.t)) (.int .i64 (x.n : Int)) ∧ Four W2 g1 (k * 4) (.int .i64 (x.k : Int)) (.int .i64 (x.at' : Int)) (.string (bs x.t)) (.int .i64 (x.n : Int)) ∧ Four W2 g2 (k * 4) (.int .i64 (x.k : Int)) (.int .i64 (x.at' : Int)) (.string (bs x.t)) (.int .i64 (x.n : Int)) :=
              ⟨_, rfl, (HR0.out.set _ _ _ (.inl n01)).set _ _ _ (.inl n02), ((HR1.out.up (Nat.le_succ _)).set _ _ _ (.inr (by omega))).set _ _ _ (.inl n12), ((HR2.out.up (Nat.le_succ _)).set _ _ _ (.inl n21)).set _ _ _ (.inr (by omega)), (hB.setCell (p := ⟨g1, k * 4 + 1, none⟩) G1 _).setCell (p := ⟨g2, k * 4 + 1, none⟩) G2 _,
                Four.other (Four.other ⟨a0, a1, a2, a3⟩ n01 _) n02 _, Four.other (Four.set ⟨b0, b1, b2, b3⟩ _) n12 _, Four.set (Four.other ⟨c0, c1, c2, c3⟩ n21 _) _⟩
            rw [hW2]
            clear hW2 a0 a1 a2 a3 b0 b1 b2 b3 c0 c1 c2 c3 fb fc HR0 HR1 HR2 hB
            have HQ := Lib.hid (And.intro Q0 (And.intro Q1 (And.intro Q2 B2)))
            clear Q0 Q1 Q2 B2
            go_quiet (fail)
            go_wp2
            exact ⟨⟨k + 1, by omega, by simp, HQ.out.1.later (below_drewN (Below.refl _ _) nq), HQ.out.2.1.later (below_drewN (Below.refl _ _) nq), HQ.out.2.2.1.later (below_drewN (Below.refl _ _) nq), below_drewN HQ.out.2.2.2 nq⟩, by simp [intOf]; omega⟩
          · obtain rfl : k = ts.length := by omega
            have hdk : decide ((ts.length : Int) < (ts.length : Int)) = false := decide_eq_false (by omega)
            have hdk2 : decide (ts.length < ts.length) = false := decide_eq_false hlt
            clear R0 R1 R2
            go_wp2
            go_ret
            exact ⟨rfl, hB⟩
end Go.Proofs.Ytpnngicglgceaaa
