/- The document's Push. -/
import Derived.Test.YtebbpgokhelmdaaApp
import Derived.BigQuiet
import Derived.Deep.RegionLaw
namespace Go.Proofs.Ytebbpgokhelmdaa
open Go.RowKit Go.Shelf
set_option linter.unusedVariables false
set_option linter.unusedSimpArgs false
attribute [local go_sem ↓] Go.wp_at_zero Go.wp_at_succ
/-- The place at which Push sets it in: from behind, ahead of all that are greater. -/
def At (x : It) (L : List It) (k : Nat) : Prop := k ≤ L.length ∧ ∀ i y, k ≤ i → L[i]? = some y → x.k < y.k
theorem At.ins {x : It} {L : List It} {k : Nat} (h : At x L k) (hs : ∀ i y, i < k → L[i]? = some y → y.k ≤ x.k) : ins keyM x L = L.take k ++ [x] ++ L.drop k := by
  induction L generalizing k with
  | nil => simp [Go.Proofs.Ytebbpgokhelmdaa.ins]
  | cons a l ih =>
    unfold Go.Proofs.Ytebbpgokhelmdaa.ins
    cases k with
    | zero =>
      have := h.2 0 a (Nat.le_refl _) rfl
      rw [if_pos (show keyM x < keyM a from this)]; rfl
    | succ k =>
      have h0 := hs 0 a (by omega) rfl
      rw [if_neg (by unfold keyM; omega), ih (k := k) ⟨by have := h.1; simp at this; omega, fun i y hi hy => h.2 (i + 1) y (by omega) (by simpa using hy)⟩ (fun i y hi hy => hs (i + 1) y (by omega) (by simpa using hy))]
      simp
set_option maxRecDepth 100000
set_option maxHeartbeats 4000000
theorem mpush {B bm : Nat} {w : World} {X : List Nat} {L : List It} {x : It} (h : MH B w bm X L) (hx : okM x) (hL : L.length ≤ 200) (hso : L.Pairwise (fun a b => a.k ≤ b.k)) :
    Calls Try.prog 10 #[.pointer (some ⟨bm, 0, none⟩), .agg #[.int .i64 x.k, .int .i64 x.w]] w fun e w' => e = .returned (.tuple #[]) ∧ ∃ X', MH B w' bm X' (ins keyM x L) ∧ Kept [bm] w w' ∧ ∀ k ∈ X', k ∈ X ∨ w.heap.size ≤ k := by
  have hlt := h.lt
  have hbX := h.mem
  obtain ⟨⟨A, cap, h0, h1, h2, h3, h4⟩, hB⟩ := h
  have c0 := cell_of_row w bm 0 _ _ _ h0
  have f0 : w.frozen? ⟨bm, 0, none⟩ = false := by simp [World.frozen?, h0]
  simp at c0
  unfold maxLen at h2
  have hw1 : Below w.heap.size w (w.alloc (.cells #[.int .i64 x.k, .int .i64 x.w] 31)) := (Below.refl _ _).alloc (Nat.le_refl _) _
  have I1 := Lib.hid (IB.new w x)
  have H0 := Lib.hid h0
  have H3 := Lib.hid h3
  have H4 := Lib.hid h4
  have HB1 := Lib.hid hw1
  have HSO := Lib.hid hso
  have HX := Lib.hid hx
  have hsz : w.heap.size < (w.alloc (.cells #[.int .i64 x.k, .int .i64 x.w] 31)).heap.size := by simp
  clear h0 h3 h4 hso hx hw1
  go_enter Try.func10, Try.ntmps10
  go_wp2
  generalize w.alloc (.cells #[.int .i64 x.k, .int .i64 x.w] 31) = w1 at *
  go_loopw [4] (fun a wr => ∃ (k : Nat), a = .int .i64 (k : Int) ∧ Hid (At x L k) ∧ Hid (Below w1.heap.size w1 wr)) (fun a _ => (intOf a).toNat)
  case atStart => exact ⟨L.length, rfl, Lib.hid ⟨Nat.le_refl _, fun i y hi hy => by have := (List.getElem?_eq_some_iff.1 hy).1; omega⟩, Lib.hid (Below.refl _ _)⟩
  case round =>
    obtain ⟨k, rfl, hk, hb⟩ := hrel
    have hkl := hk.out.1
    have hI := I1.out.later hb.out
    have i0 := hI.c0
    have i1 := hI.c1
    have hbw := HB1.out.trans (hb.out.mono HB1.out.size)
    have hltr : bm < wr.heap.size := Nat.lt_of_lt_of_le hlt hbw.size
    have c1 : wr.cell? ⟨bm, 0, none⟩ = some (.slice A L.length cap) := (hbw.cell (p := ⟨bm, 0, none⟩) hlt).trans c0
    have f1 : wr.frozen? ⟨bm, 0, none⟩ = false := by simp only [World.frozen?, hbw.block bm hlt]; simpa [World.frozen?] using f0
    have hs0 := Nat.lt_of_lt_of_le hsz hb.out.size
    have hA4 : (A = none ∧ L = []) ∨ ∃ b o, A = some ⟨b, o, none⟩ := by
      rcases H4.out with ⟨rfl, h, -⟩ | ⟨b, o, rfl, -⟩
      · exact .inl ⟨rfl, List.length_eq_zero_iff.1 (by omega)⟩
      · exact .inr ⟨b, o, rfl⟩
    have hA4 : (A = none ∧ L = [] ∧ cap = 0) ∨ ∃ b o, A = some ⟨b, o, none⟩ := by
      rcases H4.out with ⟨rfl, h, -⟩ | ⟨b, o, rfl, -⟩
      · exact .inl ⟨rfl, List.length_eq_zero_iff.1 (by omega), h⟩
      · exact .inr ⟨b, o, rfl⟩
    have hA4 : (A = none ∧ L = [] ∧ cap = 0) ∨ ∃ b o, A = some ⟨b, o, none⟩ := by
      rcases H4.out with ⟨rfl, h, -⟩ | ⟨b, o, rfl, -⟩
      · exact .inl ⟨rfl, List.length_eq_zero_iff.1 (by omega), h⟩
      · exact .inr ⟨b, o, rfl⟩
    have hA4 : (A = none ∧ L = [] ∧ cap = 0) ∨ ∃ b o, A = some ⟨b, o, none⟩ := by
      rcases H4.out with ⟨rfl, h, -⟩ | ⟨b, o, rfl, -⟩
      · exact .inl ⟨rfl, List.length_eq_zero_iff.1 (by omega), h⟩
      · exact .inr ⟨b, o, rfl⟩
    have hA4 : (A = none ∧ L = [] ∧ cap = 0) ∨ ∃ b o, A = some ⟨b, o, none⟩ := by
      rcases H4.out with ⟨rfl, h, -⟩ | ⟨b, o, rfl, -⟩
      · exact .inl ⟨rfl, List.length_eq_zero_iff.1 (by omega), h⟩
      · exact .inr ⟨b, o, rfl⟩
    have hA4 : (A = none ∧ L = [] ∧ cap = 0) ∨ ∃ b o, A = some ⟨b, o, none⟩ := by
      rcases H4.out with ⟨rfl, h, -⟩ | ⟨b, o, rfl, -⟩
      · exact .inl ⟨rfl, List.length_eq_zero_iff.1 (by omega), h⟩
      · exact .inr ⟨b, o, rfl⟩
    have hA4 : (A = none ∧ L = [] ∧ cap = 0) ∨ ∃ b o, A = some ⟨b, o, none⟩ := by
      rcases H4.out with ⟨rfl, h, -⟩ | ⟨b, o, rfl, -⟩
      · exact .inl ⟨rfl, List.length_eq_zero_iff.1 (by omega), h⟩
      · exact .inr ⟨b, o, rfl⟩
    have hA4 : (A = none ∧ L = [] ∧ cap = 0) ∨ ∃ b o, A = some ⟨b, o, none⟩ := by
      rcases H4.out with ⟨rfl, h, -⟩ | ⟨b, o, rfl, -⟩
      · exact .inl ⟨rfl, List.length_eq_zero_iff.1 (by omega), h⟩
      · exact .inr ⟨b, o, rfl⟩
    have hA4 : (A = none ∧ L = [] ∧ cap = 0) ∨ ∃ b o, A = some ⟨b, o, none⟩ := by
      rcases H4.out with ⟨rfl, h, -⟩ | ⟨b, o, rfl, -⟩
      · exact .inl ⟨rfl, List.length_eq_zero_iff.1 (by omega), h⟩
      · exact .inr ⟨b, o, rfl⟩
    have hA4 : (A = none ∧ L = [] ∧ cap = 0) ∨ ∃ b o, A = some ⟨b, o, none⟩ := by
      rcases H4.out with ⟨rfl, h, -⟩ | ⟨b, o, rfl, -⟩
      · exact .inl ⟨rfl, List.length_eq_zero_iff.1 (by omega), h⟩
      · exact .inr ⟨b, o, rfl⟩
    by_cases hk0 : k = 0
    · subst hk0
      have hd : decide ((0 : Int) < (0 : Nat)) = false := by simp
      have hlow : Hid (∀ i y, i < 0 → L[i]? = some y → y.k ≤ x.k) := Lib.hid (fun i y hi => absurd hi (Nat.not_lt_zero _))
      rcases hA4 with ⟨rfl, rfl, rfl⟩ | ⟨b, o, rfl⟩
      · go_wp2
        go_quiet (fail)
        have hbq : Below w1.heap.size w1 (wr.drewN nq) := hb.out.trans ((below_drewN' wr nq).mono hb.out.size)
        obtain ⟨wq, hwq⟩ : ∃ wq, wr.drewN nq = wq := ⟨_, rfl⟩
        rw [hwq] at hbq ⊢
        have hBw := Lib.hid (HB1.out.trans (hbq.mono HB1.out.size))
        have hIq := Lib.hid (I1.out.later hbq)
        have HAt := Lib.hid hk.out
        have hsq := Nat.lt_of_lt_of_le hsz hbq.size
        clear i0 i1 c1 f1 hltr hI hbw hs0 hb hwq hbq hk
        have hltq : bm < wq.heap.size := Nat.lt_of_lt_of_le hlt hBw.out.size
        have c1 : wq.cell? ⟨bm, 0, none⟩ = some (.slice none 0 0) := (hBw.out.cell (p := ⟨bm, 0, none⟩) hlt).trans c0
        have H3q := Lib.hid (H3.out.later (hBw.out.alloc hBw.out.size (.cells #[] 31)))
        have hown0 := Lib.hid (show (wq.alloc (.cells #[] 31)).ownsRow wq.heap.size 31 2 (.slice (some ⟨wq.heap.size, 0, none⟩) 0 0) ([] : List It).length (itC []) from ⟨rfl, .inr ⟨wq.heap.size, 0, #[], rfl, Nat.le_refl _, heap_alloc_new _ _, Nat.le_refl _, Nat.zero_le _, rfl, rfl⟩⟩)
        go_wp2
        have hdr : ([] : List It).drop 0 = [] := List.drop_eq_nil_of_le (by first | omega | (simp; omega))
        have ho2 : (wq.alloc (.cells #[] 31)).ownsRow wq.heap.size 31 2 (.slice (some ⟨wq.heap.size, 0, none⟩) 0 0) 0 (itC (([] : List It).drop 0)) := by rw [hdr]; exact hown0.out
        have hb2 : Below w.heap.size w (wq.alloc (.cells #[] 31)) := hBw.out.alloc hBw.out.size _
        have hI2 : IB (wq.alloc (.cells #[] 31)) w.heap.size x := hIq.out.later ((Below.refl _ _).alloc (Nat.le_refl _) _)
        clear hdr
        generalize wq.alloc (.cells #[] 31) = w2 at *
        have hb5 := (hb2.trans ((below_drew w2).mono hb2.size)).alloc (by have := hb2.size; simpa using this) (.cells #[.int .i64 x.k, .int .i64 x.w] 31)
        have HB5 := Lib.hid hb5
        have HB2 := Lib.hid hb2
        have i0 := hI2.c0
        have i1 := hI2.c1
        have hs2 := hI2.lt
        have hltr : bm < w2.heap.size := Nat.lt_of_lt_of_le hlt hb2.size
        have c2 : w2.cell? ⟨bm, 0, none⟩ = some (.slice none 0 0) := (hb2.cell (p := ⟨bm, 0, none⟩) hlt).trans c0
        have X5 := Lib.hid (IB.new w2.drew x)
        have HT5 := Lib.hid ((H3.out.later hb5).take 0)
        have HO2 := Lib.hid ho2
        have HR2 := Lib.hid (rowM_of_own ho2 (fun z hz => H3.out.ok z (List.mem_of_mem_drop hz)) rfl)
        have hkl2 := HAt.out.1
        have HL5 := Lib.hid (show (([] : List It).take 0).length = 0 by first | (rw [List.length_take]; omega) | (rw [List.length_take]; omega) | (simp; done))
        have HL6 := Lib.hid (show (([] : List It).take 0).length ≤ 1000 by rw [List.length_take]; omega)
        have HL7 := Lib.hid (show (([] : List It).take 0 ++ [x]).length ≤ 1000 by rw [List.length_append, HL5.out]; simp only [List.length_cons, List.length_nil]; omega)
        have HL8 := Lib.hid (show (([] : List It).drop 0).length = 0 by first | (rw [List.length_drop]; done) | (rw [List.length_drop]; omega))
        have HL9 := Lib.hid (show 0 ≤ 1000 by omega)
        clear hb2 hI2 hb5 ho2 hown0 H3q c1 hIq hkl2
        go_region_law (first
          | (refine step_app1 rfl _ _ rfl (y := x) (L := ([] : List It).take 0) 0 HL5.out (fun _ => by simp) (fun a ha => by cases ha <;> rfl) HT5.out HL6.out ⟨w2.heap.size, 0, none⟩ X5.out.c0 X5.out.c1 rfl rfl ?_
             intro v3 w3 ho3 hb3
             obtain ⟨g3, cc3, rfl, hg3, -, hle3, hmx3, -⟩ := own_form ho3 (by omega))
          | (refine step_app2 rfl _ _ rfl (L := ([] : List It).take 0 ++ [x]) (by rw [List.length_append, HL5.out]; rfl) ho3 (own_addr HO2.out).1 (own_addr HO2.out).2 (HR2.out.later (((below_drew w2).alloc (Nat.le_refl _) (.cells #[.int .i64 x.k, .int .i64 x.w] 31)).trans (hb3.mono (by simp)))) HL7.out 0 HL8.out HL9.out hb3.size rfl rfl ?_
             intro v4 w4 ho4 hg4
             have hk4 : Kept [g3] w3 w4 := kept_grown hg4 (fun k e => by cases e; simp)
             have hb4 : Below w.heap.size w w4 := HB5.out.trans ((hb3.mono HB5.out.size).trans (hk4.below (Nat.le_trans HB5.out.size hb3.size) (fun k hk => by simp only [List.mem_singleton] at hk; subst hk; exact Nat.le_trans HB5.out.size hg3)))
             have HB4 := Lib.hid hb4
             have HO4 := Lib.hid ho4
             have f4 := frozen_block (hb4.block bm hlt) f0
             have c4 : w4.cell? ⟨bm, 0, none⟩ = some (.slice none 0 0) := (hb4.cell (p := ⟨bm, 0, none⟩) hlt).trans c0
             have hl4 : bm < w4.heap.size := Nat.lt_of_lt_of_le hlt hb4.size
             obtain ⟨A4, cc4, rfl, hle4, hmx4⟩ := own_len ho4
             clear hb4 hg4 hk4 ho4))
        all_goals
          go_end0
          have e := At.ins (L := ([] : List It)) HAt.out hlow.out
          refine ⟨rfl, ?_⟩
          rw [e]
          exact push_end hB ⟨_, H0.out⟩ hbX (by omega) HB4.out HB5.out.size (by simp only [List.length_append, List.length_cons, List.length_nil]; omega) (by rw [List.length_append, List.length_append, HL5.out, HL8.out]; rfl) HO4.out (fun z hz => by
            simp only [List.mem_append, List.mem_singleton] at hz
            rcases hz with (hz | rfl) | hz
            · exact H3.out.ok z (List.mem_of_mem_take hz)
            · exact HX.out
            · exact H3.out.ok z (List.mem_of_mem_drop hz))

      · go_wp2
        go_quiet (fail)
        have hbq : Below w1.heap.size w1 (wr.drewN nq) := hb.out.trans ((below_drewN' wr nq).mono hb.out.size)
        obtain ⟨wq, hwq⟩ : ∃ wq, wr.drewN nq = wq := ⟨_, rfl⟩
        rw [hwq] at hbq ⊢
        have hBw := Lib.hid (HB1.out.trans (hbq.mono HB1.out.size))
        have hIq := Lib.hid (I1.out.later hbq)
        have HAt := Lib.hid hk.out
        have hsq := Nat.lt_of_lt_of_le hsz hbq.size
        clear i0 i1 c1 f1 hltr hI hbw hs0 hb hwq hbq hk
        have hltq : bm < wq.heap.size := Nat.lt_of_lt_of_le hlt hBw.out.size
        have c1 : wq.cell? ⟨bm, 0, none⟩ = some (.slice (some ⟨b, o, none⟩) L.length cap) := (hBw.out.cell (p := ⟨bm, 0, none⟩) hlt).trans c0
        have H3q := Lib.hid (H3.out.later (hBw.out.alloc hBw.out.size (.cells #[] 31)))
        have hown0 := Lib.hid (show (wq.alloc (.cells #[] 31)).ownsRow wq.heap.size 31 2 (.slice (some ⟨wq.heap.size, 0, none⟩) 0 0) ([] : List It).length (itC []) from ⟨rfl, .inr ⟨wq.heap.size, 0, #[], rfl, Nat.le_refl _, heap_alloc_new _ _, Nat.le_refl _, Nat.zero_le _, rfl, rfl⟩⟩)
        go_wp2_with (refine wpList_app2 rfl _ _ rfl (L := []) (M := L.drop 0) (n1 := 0) rfl hown0.out (fun h => by cases h) (fun a ha => by cases ha <;> rfl) (by simpa using H3q.out) (by simp) L.length (by simp) (by first | omega | (simp; omega)) (by simp) rfl rfl ?_; intro v2 w2 ho2 hg2; obtain ⟨A2, cc2, rfl, hle2, hmx2⟩ := own_len ho2)
        simp only [List.nil_append, Nat.zero_add] at ho2
        have hk2 : Kept [wq.heap.size] (wq.alloc (.cells #[] 31)) w2 := kept_grown hg2 (fun k e => by cases e; simp)
        have hb2 : Below w.heap.size w w2 := (hBw.out.alloc hBw.out.size _).trans (hk2.below (by simp; have := hBw.out.size; omega) (fun k hk => by simp at hk; have := hBw.out.size; omega))
        have hI2 : IB w2 w.heap.size x := (hIq.out.later ((Below.refl _ _).alloc (Nat.le_refl _) _)).kept hk2 (by simp; omega)
        clear hk2 hg2
        have hb5 := (hb2.trans ((below_drew w2).mono hb2.size)).alloc (by have := hb2.size; simpa using this) (.cells #[.int .i64 x.k, .int .i64 x.w] 31)
        have HB5 := Lib.hid hb5
        have HB2 := Lib.hid hb2
        have i0 := hI2.c0
        have i1 := hI2.c1
        have hs2 := hI2.lt
        have hltr : bm < w2.heap.size := Nat.lt_of_lt_of_le hlt hb2.size
        have c2 : w2.cell? ⟨bm, 0, none⟩ = some (.slice (some ⟨b, o, none⟩) L.length cap) := (hb2.cell (p := ⟨bm, 0, none⟩) hlt).trans c0
        have X5 := Lib.hid (IB.new w2.drew x)
        have HT5 := Lib.hid ((H3.out.later hb5).take 0)
        have HO2 := Lib.hid ho2
        have HR2 := Lib.hid (rowM_of_own ho2 (fun z hz => H3.out.ok z (List.mem_of_mem_drop hz)) rfl)
        have hkl2 := HAt.out.1
        have HL5 := Lib.hid (show (L.take 0).length = 0 by first | (rw [List.length_take]; omega) | (rw [List.length_take]; omega) | (simp; done))
        have HL6 := Lib.hid (show (L.take 0).length ≤ 1000 by rw [List.length_take]; omega)
        have HL7 := Lib.hid (show (L.take 0 ++ [x]).length ≤ 1000 by rw [List.length_append, HL5.out]; simp only [List.length_cons, List.length_nil]; omega)
        have HL8 := Lib.hid (show (L.drop 0).length = L.length by first | (rw [List.length_drop]; done) | (rw [List.length_drop]; omega))
        have HL9 := Lib.hid (show L.length ≤ 1000 by omega)
        clear hb2 hI2 hb5 ho2 hown0 H3q c1 hIq hkl2
        go_region_law (first
          | (refine step_app1 rfl _ _ rfl (y := x) (L := L.take 0) 0 HL5.out (fun h => by cases h) (fun a ha => by cases ha <;> rfl) HT5.out HL6.out ⟨w2.heap.size, 0, none⟩ X5.out.c0 X5.out.c1 rfl rfl ?_
             intro v3 w3 ho3 hb3
             obtain ⟨g3, cc3, rfl, hg3, -, hle3, hmx3, -⟩ := own_form ho3 (by omega))
          | (refine step_app2 rfl _ _ rfl (L := L.take 0 ++ [x]) (by rw [List.length_append, HL5.out]; rfl) ho3 (own_addr HO2.out).1 (own_addr HO2.out).2 (HR2.out.later (((below_drew w2).alloc (Nat.le_refl _) (.cells #[.int .i64 x.k, .int .i64 x.w] 31)).trans (hb3.mono (by simp)))) HL7.out L.length HL8.out HL9.out hb3.size rfl rfl ?_
             intro v4 w4 ho4 hg4
             have hk4 : Kept [g3] w3 w4 := kept_grown hg4 (fun k e => by cases e; simp)
             have hb4 : Below w.heap.size w w4 := HB5.out.trans ((hb3.mono HB5.out.size).trans (hk4.below (Nat.le_trans HB5.out.size hb3.size) (fun k hk => by simp only [List.mem_singleton] at hk; subst hk; exact Nat.le_trans HB5.out.size hg3)))
             have HB4 := Lib.hid hb4
             have HO4 := Lib.hid ho4
             have f4 := frozen_block (hb4.block bm hlt) f0
             have c4 : w4.cell? ⟨bm, 0, none⟩ = some (.slice (some ⟨b, o, none⟩) L.length cap) := (hb4.cell (p := ⟨bm, 0, none⟩) hlt).trans c0
             have hl4 : bm < w4.heap.size := Nat.lt_of_lt_of_le hlt hb4.size
             obtain ⟨A4, cc4, rfl, hle4, hmx4⟩ := own_len ho4
             clear hb4 hg4 hk4 ho4))
        all_goals
          go_end0
          have e := At.ins (L := L) HAt.out hlow.out
          refine ⟨rfl, ?_⟩
          rw [e]
          exact push_end hB ⟨_, H0.out⟩ hbX (by omega) HB4.out HB5.out.size (by simp only [List.length_append, List.length_cons, List.length_nil]; omega) (by rw [List.length_append, List.length_append, HL5.out, HL8.out]; rfl) HO4.out (fun z hz => by
            simp only [List.mem_append, List.mem_singleton] at hz
            rcases hz with (hz | rfl) | hz
            · exact H3.out.ok z (List.mem_of_mem_take hz)
            · exact HX.out
            · exact H3.out.ok z (List.mem_of_mem_drop hz))

    · obtain ⟨k, rfl⟩ : ∃ k', k = k' + 1 := ⟨k - 1, by omega⟩
      have hkp : (0 : Int) < ((k + 1 : Nat) : Int) := by omega
      have hkp2 : (0 : Int) < (k : Int) + 1 := by omega
      have hkn : (k : Int) < (L.length : Int) := by omega
      have hk00 : (0 : Int) ≤ (k : Int) := by omega
      have hk200 : (k : Int) ≤ 200 := by omega
      obtain ⟨y, hy⟩ : ∃ y, L[k]? = some y := ⟨L[k]'(by omega), List.getElem?_eq_getElem _⟩
      obtain ⟨b, o, rfl, hbl, hoy, y0, y1⟩ := RowOfM.later H3.out hbw k y hy
      by_cases hxy : x.k < y.k
      · go_wp2
        go_quiet (fail)
        go_wp2
        go_roundw
        case rel => exact ⟨k, rfl, Lib.hid ⟨by omega, fun i z hi hz => by
          rcases Nat.eq_or_lt_of_le hi with rfl | hi
          · rw [hy] at hz; cases hz; exact hxy
          · exact hk.out.2 i z hi hz⟩, Lib.hid (hb.out.trans ((below_drewN' wr nq).mono hb.out.size))⟩
        case measure => simp [intOf] <;> omega
      · have hlow : Hid (∀ i z, i < k + 1 → L[i]? = some z → z.k ≤ x.k) := Lib.hid (fun i z hi hz => by
          rcases Nat.eq_or_lt_of_le (Nat.le_of_lt_succ hi) with rfl | hi
          · rw [hy] at hz; cases hz; omega
          · obtain ⟨hk1, e1⟩ := List.getElem?_eq_some_iff.1 hy
            obtain ⟨hi1, e2⟩ := List.getElem?_eq_some_iff.1 hz
            have := List.pairwise_iff_getElem.1 HSO.out i k hi1 hk1 hi
            rw [e1, e2] at this
            omega)
        rcases Nat.eq_or_lt_of_le (show k + 1 ≤ cap by omega) with hce | hce
        · subst hce
          have hce3 : (0 : Int) ≤ (k : Int) + 1 := by omega
          go_wp2
          go_quiet (fail)
          have hbq : Below w1.heap.size w1 (wr.drewN nq) := hb.out.trans ((below_drewN' wr nq).mono hb.out.size)
          obtain ⟨wq, hwq⟩ : ∃ wq, wr.drewN nq = wq := ⟨_, rfl⟩
          rw [hwq] at hbq ⊢
          have hBw := Lib.hid (HB1.out.trans (hbq.mono HB1.out.size))
          have hIq := Lib.hid (I1.out.later hbq)
          have HAt := Lib.hid hk.out
          have hsq := Nat.lt_of_lt_of_le hsz hbq.size
          clear i0 i1 c1 f1 hltr hI hbw hs0 hb hwq hbq hk
          have hltq : bm < wq.heap.size := Nat.lt_of_lt_of_le hlt hBw.out.size
          have c1 : wq.cell? ⟨bm, 0, none⟩ = some (.slice (some ⟨b, o, none⟩) L.length (k + 1)) := (hBw.out.cell (p := ⟨bm, 0, none⟩) hlt).trans c0
          have H3q := Lib.hid (H3.out.later (hBw.out.alloc hBw.out.size (.cells #[] 31)))
          have hown0 := Lib.hid (show (wq.alloc (.cells #[] 31)).ownsRow wq.heap.size 31 2 (.slice (some ⟨wq.heap.size, 0, none⟩) 0 0) ([] : List It).length (itC []) from ⟨rfl, .inr ⟨wq.heap.size, 0, #[], rfl, Nat.le_refl _, heap_alloc_new _ _, Nat.le_refl _, Nat.zero_le _, rfl, rfl⟩⟩)
          go_wp2
          have hdr : L.drop (k + 1) = [] := List.drop_eq_nil_of_le (by first | omega | (simp; omega))
          have ho2 : (wq.alloc (.cells #[] 31)).ownsRow wq.heap.size 31 2 (.slice (some ⟨wq.heap.size, 0, none⟩) 0 0) 0 (itC (L.drop (k + 1))) := by rw [hdr]; exact hown0.out
          have hb2 : Below w.heap.size w (wq.alloc (.cells #[] 31)) := hBw.out.alloc hBw.out.size _
          have hI2 : IB (wq.alloc (.cells #[] 31)) w.heap.size x := hIq.out.later ((Below.refl _ _).alloc (Nat.le_refl _) _)
          clear hdr
          generalize wq.alloc (.cells #[] 31) = w2 at *
          have hb5 := (hb2.trans ((below_drew w2).mono hb2.size)).alloc (by have := hb2.size; simpa using this) (.cells #[.int .i64 x.k, .int .i64 x.w] 31)
          have HB5 := Lib.hid hb5
          have HB2 := Lib.hid hb2
          have i0 := hI2.c0
          have i1 := hI2.c1
          have hs2 := hI2.lt
          have hltr : bm < w2.heap.size := Nat.lt_of_lt_of_le hlt hb2.size
          have c2 : w2.cell? ⟨bm, 0, none⟩ = some (.slice (some ⟨b, o, none⟩) L.length (k + 1)) := (hb2.cell (p := ⟨bm, 0, none⟩) hlt).trans c0
          have X5 := Lib.hid (IB.new w2.drew x)
          have HT5 := Lib.hid ((H3.out.later hb5).take (k + 1))
          have HO2 := Lib.hid ho2
          have HR2 := Lib.hid (rowM_of_own ho2 (fun z hz => H3.out.ok z (List.mem_of_mem_drop hz)) rfl)
          have hkl2 := HAt.out.1
          have HL5 := Lib.hid (show (L.take (k + 1)).length = (k + 1) by first | (rw [List.length_take]; omega) | (rw [List.length_take]; omega) | (simp; done))
          have HL6 := Lib.hid (show (L.take (k + 1)).length ≤ 1000 by rw [List.length_take]; omega)
          have HL7 := Lib.hid (show (L.take (k + 1) ++ [x]).length ≤ 1000 by rw [List.length_append, HL5.out]; simp only [List.length_cons, List.length_nil]; omega)
          have HL8 := Lib.hid (show (L.drop (k + 1)).length = 0 by first | (rw [List.length_drop]; done) | (rw [List.length_drop]; omega))
          have HL9 := Lib.hid (show 0 ≤ 1000 by omega)
          clear hb2 hI2 hb5 ho2 hown0 H3q c1 hIq hkl2
          go_region_law (first
            | (refine step_app1 rfl _ _ rfl (y := x) (L := L.take (k + 1)) (k + 1) HL5.out (fun h => by cases h) (fun a ha => by cases ha <;> rfl) HT5.out HL6.out ⟨w2.heap.size, 0, none⟩ X5.out.c0 X5.out.c1 rfl rfl ?_
               intro v3 w3 ho3 hb3
               obtain ⟨g3, cc3, rfl, hg3, -, hle3, hmx3, -⟩ := own_form ho3 (by omega))
            | (refine step_app2 rfl _ _ rfl (L := L.take (k + 1) ++ [x]) (by rw [List.length_append, HL5.out]; rfl) ho3 (own_addr HO2.out).1 (own_addr HO2.out).2 (HR2.out.later (((below_drew w2).alloc (Nat.le_refl _) (.cells #[.int .i64 x.k, .int .i64 x.w] 31)).trans (hb3.mono (by simp)))) HL7.out 0 HL8.out HL9.out hb3.size rfl rfl ?_
               intro v4 w4 ho4 hg4
               have hk4 : Kept [g3] w3 w4 := kept_grown hg4 (fun k e => by cases e; simp)
               have hb4 : Below w.heap.size w w4 := HB5.out.trans ((hb3.mono HB5.out.size).trans (hk4.below (Nat.le_trans HB5.out.size hb3.size) (fun k hk => by simp only [List.mem_singleton] at hk; subst hk; exact Nat.le_trans HB5.out.size hg3)))
               have HB4 := Lib.hid hb4
               have HO4 := Lib.hid ho4
               have f4 := frozen_block (hb4.block bm hlt) f0
               have c4 : w4.cell? ⟨bm, 0, none⟩ = some (.slice (some ⟨b, o, none⟩) L.length (k + 1)) := (hb4.cell (p := ⟨bm, 0, none⟩) hlt).trans c0
               have hl4 : bm < w4.heap.size := Nat.lt_of_lt_of_le hlt hb4.size
               obtain ⟨A4, cc4, rfl, hle4, hmx4⟩ := own_len ho4
               clear hb4 hg4 hk4 ho4))
          all_goals
            go_end0
            have e := At.ins (L := L) HAt.out hlow.out
            refine ⟨rfl, ?_⟩
            rw [e]
            exact push_end hB ⟨_, H0.out⟩ hbX (by omega) HB4.out HB5.out.size (by simp only [List.length_append, List.length_cons, List.length_nil]; omega) (by rw [List.length_append, List.length_append, HL5.out, HL8.out]; rfl) HO4.out (fun z hz => by
              simp only [List.mem_append, List.mem_singleton] at hz
              rcases hz with (hz | rfl) | hz
              · exact H3.out.ok z (List.mem_of_mem_take hz)
              · exact HX.out
              · exact H3.out.ok z (List.mem_of_mem_drop hz))

        · have hce1 : (k : Int) + 1 < (cap : Int) := by omega
          have hce2 : (k : Int) + 1 ≤ (cap : Int) := by omega
          have hce3 : (0 : Int) ≤ (k : Int) + 1 := by omega
          have hce4 : ¬ ((cap : Int) < (k : Int) + 1) := by omega
          go_wp2
          go_quiet (fail)
          have hbq : Below w1.heap.size w1 (wr.drewN nq) := hb.out.trans ((below_drewN' wr nq).mono hb.out.size)
          obtain ⟨wq, hwq⟩ : ∃ wq, wr.drewN nq = wq := ⟨_, rfl⟩
          rw [hwq] at hbq ⊢
          have hBw := Lib.hid (HB1.out.trans (hbq.mono HB1.out.size))
          have hIq := Lib.hid (I1.out.later hbq)
          have HAt := Lib.hid hk.out
          have hsq := Nat.lt_of_lt_of_le hsz hbq.size
          clear i0 i1 c1 f1 hltr hI hbw hs0 hb hwq hbq hk
          have hltq : bm < wq.heap.size := Nat.lt_of_lt_of_le hlt hBw.out.size
          have c1 : wq.cell? ⟨bm, 0, none⟩ = some (.slice (some ⟨b, o, none⟩) L.length cap) := (hBw.out.cell (p := ⟨bm, 0, none⟩) hlt).trans c0
          have H3q := Lib.hid (H3.out.later (hBw.out.alloc hBw.out.size (.cells #[] 31)))
          have hown0 := Lib.hid (show (wq.alloc (.cells #[] 31)).ownsRow wq.heap.size 31 2 (.slice (some ⟨wq.heap.size, 0, none⟩) 0 0) ([] : List It).length (itC []) from ⟨rfl, .inr ⟨wq.heap.size, 0, #[], rfl, Nat.le_refl _, heap_alloc_new _ _, Nat.le_refl _, Nat.zero_le _, rfl, rfl⟩⟩)
          go_wp2_with (refine wpList_app2 rfl _ _ rfl (L := []) (M := L.drop (k + 1)) (n1 := 0) rfl hown0.out (fun h => by cases h) (fun a ha => by cases ha <;> rfl) (H3q.out.drop (k + 1)) (by simp) (L.length - (k + 1)) (by simp) (by first | omega | (simp; omega)) (by simp) rfl rfl ?_; intro v2 w2 ho2 hg2; obtain ⟨A2, cc2, rfl, hle2, hmx2⟩ := own_len ho2)
          simp only [List.nil_append, Nat.zero_add] at ho2
          have hk2 : Kept [wq.heap.size] (wq.alloc (.cells #[] 31)) w2 := kept_grown hg2 (fun k e => by cases e; simp)
          have hb2 : Below w.heap.size w w2 := (hBw.out.alloc hBw.out.size _).trans (hk2.below (by simp; have := hBw.out.size; omega) (fun k hk => by simp at hk; have := hBw.out.size; omega))
          have hI2 : IB w2 w.heap.size x := (hIq.out.later ((Below.refl _ _).alloc (Nat.le_refl _) _)).kept hk2 (by simp; omega)
          clear hk2 hg2
          have hb5 := (hb2.trans ((below_drew w2).mono hb2.size)).alloc (by have := hb2.size; simpa using this) (.cells #[.int .i64 x.k, .int .i64 x.w] 31)
          have HB5 := Lib.hid hb5
          have HB2 := Lib.hid hb2
          have i0 := hI2.c0
          have i1 := hI2.c1
          have hs2 := hI2.lt
          have hltr : bm < w2.heap.size := Nat.lt_of_lt_of_le hlt hb2.size
          have c2 : w2.cell? ⟨bm, 0, none⟩ = some (.slice (some ⟨b, o, none⟩) L.length cap) := (hb2.cell (p := ⟨bm, 0, none⟩) hlt).trans c0
          have X5 := Lib.hid (IB.new w2.drew x)
          have HT5 := Lib.hid ((H3.out.later hb5).take (k + 1))
          have HO2 := Lib.hid ho2
          have HR2 := Lib.hid (rowM_of_own ho2 (fun z hz => H3.out.ok z (List.mem_of_mem_drop hz)) rfl)
          have hkl2 := HAt.out.1
          have HL5 := Lib.hid (show (L.take (k + 1)).length = (k + 1) by first | (rw [List.length_take]; omega) | (rw [List.length_take]; omega) | (simp; done))
          have HL6 := Lib.hid (show (L.take (k + 1)).length ≤ 1000 by rw [List.length_take]; omega)
          have HL7 := Lib.hid (show (L.take (k + 1) ++ [x]).length ≤ 1000 by rw [List.length_append, HL5.out]; simp only [List.length_cons, List.length_nil]; omega)
          have HL8 := Lib.hid (show (L.drop (k + 1)).length = (L.length - (k + 1)) by first | (rw [List.length_drop]; done) | (rw [List.length_drop]; omega))
          have HL9 := Lib.hid (show (L.length - (k + 1)) ≤ 1000 by omega)
          clear hb2 hI2 hb5 ho2 hown0 H3q c1 hIq hkl2
          go_region_law (first
            | (refine step_app1 rfl _ _ rfl (y := x) (L := L.take (k + 1)) (k + 1) HL5.out (fun h => by cases h) (fun a ha => by cases ha <;> rfl) HT5.out HL6.out ⟨w2.heap.size, 0, none⟩ X5.out.c0 X5.out.c1 rfl rfl ?_
               intro v3 w3 ho3 hb3
               obtain ⟨g3, cc3, rfl, hg3, -, hle3, hmx3, -⟩ := own_form ho3 (by omega))
            | (refine step_app2 rfl _ _ rfl (L := L.take (k + 1) ++ [x]) (by rw [List.length_append, HL5.out]; rfl) ho3 (own_addr HO2.out).1 (own_addr HO2.out).2 (HR2.out.later (((below_drew w2).alloc (Nat.le_refl _) (.cells #[.int .i64 x.k, .int .i64 x.w] 31)).trans (hb3.mono (by simp)))) HL7.out (L.length - (k + 1)) HL8.out HL9.out hb3.size rfl rfl ?_
               intro v4 w4 ho4 hg4
               have hk4 : Kept [g3] w3 w4 := kept_grown hg4 (fun k e => by cases e; simp)
               have hb4 : Below w.heap.size w w4 := HB5.out.trans ((hb3.mono HB5.out.size).trans (hk4.below (Nat.le_trans HB5.out.size hb3.size) (fun k hk => by simp only [List.mem_singleton] at hk; subst hk; exact Nat.le_trans HB5.out.size hg3)))
               have HB4 := Lib.hid hb4
               have HO4 := Lib.hid ho4
               have f4 := frozen_block (hb4.block bm hlt) f0
               have c4 : w4.cell? ⟨bm, 0, none⟩ = some (.slice (some ⟨b, o, none⟩) L.length cap) := (hb4.cell (p := ⟨bm, 0, none⟩) hlt).trans c0
               have hl4 : bm < w4.heap.size := Nat.lt_of_lt_of_le hlt hb4.size
               obtain ⟨A4, cc4, rfl, hle4, hmx4⟩ := own_len ho4
               clear hb4 hg4 hk4 ho4))
          all_goals
            go_end0
            have e := At.ins (L := L) HAt.out hlow.out
            refine ⟨rfl, ?_⟩
            rw [e]
            exact push_end hB ⟨_, H0.out⟩ hbX (by omega) HB4.out HB5.out.size (by simp only [List.length_append, List.length_cons, List.length_nil]; omega) (by rw [List.length_append, List.length_append, HL5.out, HL8.out]; rfl) HO4.out (fun z hz => by
              simp only [List.mem_append, List.mem_singleton] at hz
              rcases hz with (hz | rfl) | hz
              · exact H3.out.ok z (List.mem_of_mem_take hz)
              · exact HX.out
              · exact H3.out.ok z (List.mem_of_mem_drop hz))

end Go.Proofs.Ytebbpgokhelmdaa
