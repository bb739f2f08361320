/- The law's own parses, short, spoilt, awake. -/
import Derived.Test.YtlelnoalajeihaaLaw0
namespace Go.Proofs.Ytlelnoalajeihaa
open Go.RowKit
set_option linter.unusedVariables false
set_option linter.unusedSimpArgs false

set_option maxRecDepth 100000 in
set_option maxHeartbeats 4000000 in
theorem parses_any (s : ByteArray) (w : World) (hs : s.size ≤ 100000) : Calls Try.prog 9 #[.string s] w (OkB w) := by
  have K1 := Lib.hid (fun W => read_any s W hs)
  have K2 := Lib.hid (fun W => parse_any s W hs)
  have K3 := Lib.hid (fun W => rread_any s W hs)
  have K4 := Lib.hid (fun W => rparse_any s W hs)
  unfold ReadPost at K1
  unfold ParsePost at K2
  unfold RReadPost at K3
  unfold RParsePost at K4
  generalize (readS s).1 = l1 at *
  generalize (readS s).2.1 = a1 at *
  generalize (readS s).2.2 = e1 at *
  generalize (parseS s).1 = l2 at *
  generalize (parseS s).2.1 = a2 at *
  generalize (parseS s).2.2 = e2 at *
  go_enter Try.func9, Try.ntmps9
  go_upto_region 2 with (go_at_call 14; (with_reducible refine (K1.out _).mono ?_); rintro e W1 ⟨A1, c1, rfl, hR1, hB1⟩)
  have R1 := Lib.hid hR1
  have B1 := Lib.hid hB1
  clear hR1 hB1
  go_upto_region 3 with (go_at_call 16; (with_reducible refine (K2.out _).mono ?_); rintro e W2 ⟨A2, c2, rfl, hR2, hB2⟩)
  have R2 := Lib.hid hR2
  have R12 := Lib.hid (R1.out.later hB2)
  have B2 := Lib.hid (B1.out.trans (hB2.mono B1.out.size))
  clear hR2 hB2 R1 B1
  go_upto_region 4 with (go_at_call 20; (with_reducible refine (K3.out _).mono ?_); rintro e W3 ⟨A3, c3, rfl, hR3, hB3⟩)
  obtain ⟨b9, h9⟩ : ∃ b9, W3.heap.size = b9 := ⟨_, rfl⟩
  obtain ⟨V3, hV3, G3, Q3, Q31, Q32, C3, S3⟩ : ∃ V3, W3.alloc (.cells #[.slice A3 l1.length c3, .int .i64 (a1 : Int), .int .i64 (e1 : Int)] 46) = V3 ∧ GR V3 b9 (.slice A3 l1.length c3) (a1 : Int) (e1 : Int) ∧ Row V3 A3 c3 l1 ∧ Row V3 A1 c1 l1 ∧ Row V3 A2 c2 l2 ∧ Below w.heap.size w V3 ∧ b9 < V3.heap.size := by
    have ha := (Below.refl W3.heap.size W3).alloc (Nat.le_refl _) (.cells #[.slice A3 l1.length c3, .int .i64 (a1 : Int), .int .i64 (e1 : Int)] 46)
    have hb := B2.out.trans (hB3.mono B2.out.size)
    exact ⟨_, rfl, by rw [← h9]; exact gr_new _ _ _, hR3.later ha, (R12.out.later hB3).later ha, (R2.out.later hB3).later ha, hb.alloc hb.size _, by simp; omega⟩
  rw [hV3]
  try rw [h9]
  have G3 := Lib.hid G3
  have Q3 := Lib.hid Q3
  have Q31 := Lib.hid Q31
  have Q32 := Lib.hid Q32
  have C3 := Lib.hid C3
  clear hV3 hR3 hB3 R2 R12 B2 h9
  go_upto_region 5 with (go_at_call 21; (with_reducible refine (K4.out _).mono ?_); rintro e W4 ⟨A4, c4, rfl, hR4, hB4⟩)
  obtain ⟨b10, h10⟩ : ∃ b10, W4.heap.size = b10 := ⟨_, rfl⟩
  obtain ⟨V4, hV4, G4, G43, P4, P3, P1, P2, C4, S4⟩ : ∃ V4, W4.alloc (.cells #[.slice A4 l2.length c4, .int .i64 (a2 : Int), .int .i64 e2] 46) = V4 ∧ GR V4 b10 (.slice A4 l2.length c4) (a2 : Int) e2 ∧ GR V4 b9 (.slice A3 l1.length c3) (a1 : Int) (e1 : Int) ∧ Row V4 A4 c4 l2 ∧ Row V4 A3 c3 l1 ∧ Row V4 A1 c1 l1 ∧ Row V4 A2 c2 l2 ∧ Below w.heap.size w V4 ∧ b10 < V4.heap.size := by
    have ha := (Below.refl W4.heap.size W4).alloc (Nat.le_refl _) (.cells #[.slice A4 l2.length c4, .int .i64 (a2 : Int), .int .i64 e2] 46)
    have hb := C3.out.trans (hB4.mono C3.out.size)
    exact ⟨_, rfl, by rw [← h10]; exact gr_new _ _ _, (G3.out.later hB4).later ha, hR4.later ha, (Q3.out.later hB4).later ha, (Q31.out.later hB4).later ha, (Q32.out.later hB4).later ha, hb.alloc hb.size _, by simp; omega⟩
  rw [hV4]
  try rw [h10]
  have f0 := G43.c0
  have G4 := Lib.hid G4
  have G43 := Lib.hid G43
  have P4 := Lib.hid P4
  have S12 := Lib.hid (rsame_any P1 P3)
  have P2 := Lib.hid P2
  have C4 := Lib.hid C4
  clear hV4 hR4 hB4 G3 Q3 Q31 Q32 C3 h10 P1 P3
  go_upto_region 6 with (go_at_call 22; (with_reducible refine S12.out.mono ?_); rintro e W5 ⟨rfl, hB5⟩)
  have g0 := (G4.out.later hB5).c0
  have S34 := Lib.hid (rsame_any (P2.out.later hB5) (P4.out.later hB5))
  have G5 := Lib.hid (G4.out.later hB5)
  have G53 := Lib.hid (G43.out.later hB5)
  have C5 := Lib.hid (C4.out.trans (hB5.mono C4.out.size))
  clear hB5 f0 G4 G43 C4 S12
  go_wp2_with (go_at_call 22; (with_reducible refine S34.out.mono ?_); rintro e W6 ⟨rfl, hB6⟩; have k1 := (G5.out.later hB6).c1; have k2 := (G5.out.later hB6).c2; have m1 := (G53.out.later hB6).c1; have m2 := (G53.out.later hB6).c2; have C6 := Lib.hid (C5.out.trans (hB6.mono C5.out.size)))
  go_ret
  exact ⟨rfl, C6.out⟩

/-! ### short, spoilt -/
def shortS (s : ByteArray) : ByteArray := if 200 < s.size then s.extract 0 200 else s
theorem shortS_size (s : ByteArray) : (shortS s).size ≤ 200 := by
  unfold shortS
  split
  · simp; omega
  · omega
set_option maxHeartbeats 1000000 in
theorem short_any (s : ByteArray) (w : World) (hs : s.size ≤ maxLen) : Calls Try.prog 10 #[.string s] w fun e w' => e = .returned (.string (shortS s)) ∧ w = w' := by
  unfold maxLen at hs
  by_cases h : 200 < s.size
  · have e : shortS s = s.extract 0 200 := by rw [shortS, if_pos h]
    rw [e]
    go_enter Try.func10, Try.ntmps10
    go_wp2
    go_ret
    exact ⟨rfl, rfl⟩
  · have e : shortS s = s := by rw [shortS, if_neg h]
    rw [e]
    go_enter Try.func10, Try.ntmps10
    go_wp2
    go_ret
    exact ⟨rfl, rfl⟩
end Go.Proofs.Ytlelnoalajeihaa
