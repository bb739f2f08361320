/- Lex's contract. -/
import Derived.Test.YtlelnoalajeihaaDoorToks
namespace Go.Proofs.YtlelnoalajeihaaDoor
open Go.RowKit Go.Shelf
set_option linter.unusedVariables false
attribute [local go_sem] Oper.semAt_some

/-- Where tokens end, what goes wrong there (10, or nothing: 0), and all of them. -/
def badP (s : ByteArray) : Option Tk := (pieceL s).find? fun x => decide (x.k = 0)
def endP (s : ByteArray) : Nat := match badP s with | some x => x.at' | none => s.size
def errP (s : ByteArray) : Nat := match badP s with | some _ => 10 | none => 0
def lexT (s : ByteArray) : List Tk := match badP s with | some _ => [] | none => pieceL s
theorem badP_none {s : ByteArray} (h : ∀ y ∈ pieceL s, y.k ≠ 0) : badP s = none := by
  rw [badP, List.find?_eq_none]
  intro x hx
  simpa using h x hx
theorem badP_some {s : ByteArray} {q : List Tk} {x : Tk} (h : q ++ [x] <+: pieceL s) (hq : ∀ y ∈ q, y.k ≠ 0) (hx : x.k = 0) : badP s = some x := by
  obtain ⟨r, hr⟩ := h
  rw [badP, ← hr, List.append_assoc, List.find?_append]
  have : q.find? (fun x => decide (x.k = 0)) = none := by rw [List.find?_eq_none]; intro y hy; simpa using hq y hy
  rw [this]
  simp [hx]

theorem stores3 {V : World} {b b1 b2 n0 : Nat} {x0 x1 x2 : Value} (u0 u1 u2 : Value) (hA : Boxed V b 61 x0) (hC : Boxed V b1 3 x1) (hE : Boxed V b2 37 x2) (h01 : b < b1) (h12 : b1 < b2) (hn : n0 ≤ b) :
    ∃ V3, ((V.setCell ⟨b, 0, none⟩ u0).setCell ⟨b1, 0, none⟩ u1).setCell ⟨b2, 0, none⟩ u2 = V3 ∧ KeepsOthers V V3 ∧ Boxed V3 b 61 u0 ∧ Boxed V3 b1 3 u1 ∧ Boxed V3 b2 37 u2 ∧ Below n0 V V3 ∧
      (∀ {n m : Nat} {v : Value} {xs : List Value}, V.ownsRow n0 65 m v n xs → V3.ownsRow n0 65 m v n xs) :=
  ⟨_, rfl, ((KeepsOthers.setCell V ⟨b, 0, none⟩ u0).trans (KeepsOthers.setCell _ ⟨b1, 0, none⟩ u1)).trans (KeepsOthers.setCell _ ⟨b2, 0, none⟩ u2),
   Boxed.other (Boxed.other (hA.set u0) (by omega) u1) (by omega) u2,
   Boxed.other (Boxed.set u1 (Boxed.other hC (by omega) u0)) (by omega) u2,
   Boxed.set u2 (Boxed.other (Boxed.other hE (by omega) u0) (by omega) u1),
   ((((Below.refl n0 V).setCell (p := ⟨b, 0, none⟩) hn u0).setCell (p := ⟨b1, 0, none⟩) (by show n0 ≤ b1; omega) u1).setCell (p := ⟨b2, 0, none⟩) (by show n0 ≤ b2; omega) u2),
   fun hrow => by
    have r1 := hrow.kept (grownBy_setCell' _ b u0) (.inr (hA.not_row (by decide) hrow).symm)
    have r2 := r1.kept (grownBy_setCell' _ b1 u1) (.inr (Boxed.not_row (Boxed.other hC (show b1 ≠ b by omega) u0) (by decide) r1).symm)
    exact r2.kept (grownBy_setCell' _ b2 u2) (.inr (Boxed.not_row (Boxed.other (Boxed.other hE (show b2 ≠ b by omega) u0) (show b2 ≠ b1 by omega) u1) (by decide) r2).symm)⟩
theorem row_form {w : World} {n0 : Nat} {v : Value} {n : Nat} {xs : List Value} (h : w.ownsRow n0 65 4 v n xs) : ∃ A n c, v = .slice A n c := by
  rcases h.2 with ⟨rfl, _⟩ | ⟨g, cap, cur, rfl, _⟩
  · exact ⟨_, _, _, rfl⟩
  · exact ⟨_, _, _, rfl⟩

set_option maxRecDepth 100000 in
set_option maxHeartbeats 4000000 in
theorem lex_any (s : ByteArray) (w : World) (hs : s.size ≤ 100000) :
    Calls Tryd.prog 28 #[.string s] w fun e w' => ∃ v, e = .returned (.tuple #[v, .int .i64 (endP s : Int), .int .i64 (errP s : Int)]) ∧ w'.ownsRow w.heap.size 65 4 v (lexT s).length (tkCells (lexT s)) ∧ Below w.heap.size w w' := by
  obtain ⟨b, hb⟩ : ∃ b, w.heap.size = b := ⟨_, rfl⟩
  obtain ⟨W1, hW1, A1, C1, E1, L1, B1, s1⟩ : ∃ W1, (((w.alloc (.cells #[.slice none 0 0] 61)).alloc (.cells #[.int .i64 0] 3)).alloc (.cells #[.int .i64 0] 37)).alloc (.cells #[.slice none 0 0] 61) = W1 ∧
      Boxed W1 b 61 (.slice none 0 0) ∧ Boxed W1 (b + 1) 3 (.int .i64 0) ∧ Boxed W1 (b + 1 + 1) 37 (.int .i64 0) ∧ Boxed W1 (b + 1 + 1 + 1) 61 (.slice none 0 0) ∧ Below b w W1 ∧ W1.heap.size = b + 4 := by
    subst hb
    refine ⟨_, rfl, Boxed.alloc (Boxed.alloc (Boxed.alloc (Boxed.new _ _ _) _) _) _, ?_, ?_, ?_, (((((Below.refl _ _).alloc (Nat.le_refl _) _).alloc (by simp) _).alloc (by simp; omega) _).alloc (by simp; omega) _), by simp⟩
    · have := Boxed.new (w.alloc (.cells #[.slice none 0 0] 61)) 3 (.int .i64 0)
      rw [World.size_alloc] at this
      exact Boxed.alloc (Boxed.alloc this _) _
    · have := Boxed.new ((w.alloc (.cells #[.slice none 0 0] 61)).alloc (.cells #[.int .i64 0] 3)) 37 (.int .i64 0)
      rw [World.size_alloc, World.size_alloc] at this
      exact Boxed.alloc this _
    · have := Boxed.new (((w.alloc (.cells #[.slice none 0 0] 61)).alloc (.cells #[.int .i64 0] 3)).alloc (.cells #[.int .i64 0] 37)) 61 (.slice none 0 0)
      rw [World.size_alloc, World.size_alloc, World.size_alloc] at this
      exact this
  refine (callsIn_wide (n := 9)).1 ?_
  refine callsIn_of_wp_marks Tryd.func28 rfl trivial ?_ rfl
  simp only [Tryd.ntmps28, List.size_toArray, List.length_cons, List.length_nil, Nat.reduceAdd, Nat.reduceSub, Array.replicate_succ, Array.replicate_zero, List.push_toArray, List.append_toArray, List.nil_append, List.cons_append]
  gi_wp2_with (refine ⟨trivial, ?_⟩; gi_at_call 34; refine (callsIn_wide.2 (pieces_any _ _)).mono ?_; rintro e w' ⟨rfl, rfl⟩)
  obtain ⟨W2, hW2, A2, C2, E2, L2, P2, B2, s2⟩ : ∃ W2, W1.alloc (.cells #[.string s] 9) = W2 ∧ Boxed W2 b 61 (.slice none 0 0) ∧ Boxed W2 (b + 1) 3 (.int .i64 0) ∧ Boxed W2 (b + 1 + 1) 37 (.int .i64 0) ∧ Boxed W2 (b + 1 + 1 + 1) 61 (.slice none 0 0) ∧ Boxed W2 (b + 4) 9 (.string s) ∧ Below b w W2 ∧ b + 4 < W2.heap.size :=
    ⟨_, rfl, Boxed.alloc A1 _, Boxed.alloc C1 _, Boxed.alloc E1 _, Boxed.alloc L1 _, (by have := Boxed.new W1 9 (.string s); rwa [s1] at this), B1.trans ((Below.refl _ _).alloc (by omega) _), by simp; omega⟩
  rw [hW2]
  clear hW1 hW2 A1 C1 E1 L1 B1 s1
  obtain ⟨i0, hi, hz0, hz1, hz2⟩ := info_parts infoTok
  have h34 : b + 1 + 1 + 1 < b + 4 := by omega
  generalize b + 4 = b4 at *
  have h01 : b < b + 1 := by omega
  generalize b + 1 = b1 at *
  have h12 : b1 < b1 + 1 := by omega
  generalize b1 + 1 = b2 at *
  have h23 : b2 < b2 + 1 := by omega
  generalize b2 + 1 = b3 at *
  have hw2 : b ≤ W2.heap.size := by omega
  have hb3 : b ≤ b3 := by omega
  have hww : w.heap.size ≤ W2.heap.size := B2.size
  refine rangeO (gf := 49) (lb := #[.pointer (some ⟨b4, 0, none⟩)]) rfl (enters_of Tryd.func49 (by kernel_rfl) rfl)
    (pieces1_seq (9 - 1) (by omega) b4 s hs W2 P2) (Below.refl _ _) rfl
    (fun pre V => ((∀ y ∈ pre, y.k ≠ 0) ∧ Boxed V b 61 (.slice none 0 0) ∧ Boxed V b1 3 (.int .i64 0) ∧ Boxed V b2 37 (.int .i64 0)) ∧ Coll b b3 pre V ∧ Below b w V)
    (fun c pre V => (c = .ret ∧ ∃ q x, pre = q ++ [x] ∧ (∀ y ∈ q, y.k ≠ 0) ∧ x.k = 0 ∧ Boxed V b 61 (.slice none 0 0) ∧ Boxed V b1 3 (.int .i64 (x.at' : Int)) ∧ Boxed V b2 37 (.int .i64 10)) ∧ Below b w V)
    (OwnFrom.and (fun pre X Y row h hg hr => ⟨h.1, boxed_kept h.2.1 hg (fun r e => (hr r e).2), boxed_kept h.2.2.1 hg (fun r e => (hr r e).2), boxed_kept h.2.2.2 hg (fun r e => (hr r e).2)⟩)
      (OwnFrom.and (Own.from (holdsRow_own b b3 61 65 4 List.length tkCells (fun pre v => v = .slice none 0 0 ↔ pre = [])) _) (ownFrom_below (Nat.le_of_eq hb.symm) hw2)))
    (fun c => OwnFrom.and (by rintro pre X Y row ⟨hc, q, x, h1, h2, h3, h4, h5, h6⟩ hg hr; exact ⟨hc, q, x, h1, h2, h3, boxed_kept h4 hg (fun r e => (hr r e).2), boxed_kept h5 hg (fun r e => (hr r e).2), boxed_kept h6 hg (fun r e => (hr r e).2)⟩) (ownFrom_below (Nat.le_of_eq hb.symm) hw2))
    ⟨⟨by simp, A2, C2, E2⟩, ⟨_, L2, World.ownsRow_nil _ _ _ _, by simp⟩, B2⟩
    (fun x a' V => ∃ Bx, TB V Bx x ∧ a' = { tmps := #[.string s, undef, .pointer (some ⟨b, 0, none⟩), .pointer (some ⟨b1, 0, none⟩), .pointer (some ⟨b2, 0, none⟩), .pointer (some ⟨b3, 0, none⟩), .pointer (some ⟨Bx, 0, none⟩), .string s, .func (.func 49) #[] #[.pointer (some ⟨b4, 0, none⟩)], tkV x, undef, undef, undef, undef, undef, undef, undef, undef, undef, undef, undef, undef], defers := [] })
    (fun x a' _ X Y row hs hg hr => hs.imp fun Bx h => ⟨h.1.kept hg (fun r e => (hr r e).2), h.2⟩)
    ?assign ?body ?done ?stop
  case assign =>
    rintro l2 pre x V K ⟨⟨hp, hA, hC, hE⟩, ⟨v, hv, hrow, hnil⟩, hB⟩ hK
    gi_wp2
    have hbV : b ≤ V.heap.size := by have := hB.size; omega
    exact hK _ _ ((KeepsOthers.alloc _ _).from _) (Kp.alloc _ _) ⟨⟨hp, Boxed.alloc hA _, Boxed.alloc hC _, Boxed.alloc hE _⟩, ⟨v, Boxed.alloc hv _, hrow.alloc _, hnil⟩, hB.trans ((Below.refl _ _).alloc hbV _)⟩ ⟨_, TB.new V x, rfl⟩
  case body =>
    rintro l2 pre x a' V ⟨⟨hp, hA, hC, hE⟩, ⟨v, hv, hrow, hnil⟩, hB⟩ ⟨Bx, hT, rfl⟩ hlen
    have c0 := hT.c0
    have c1 := hT.c1
    have hbV : b ≤ V.heap.size := by have := hB.size; omega
    by_cases hk : x.k = 0
    · have t0 : ((x.k : Int) == 0) = true := by simp; omega
      have ca := hA.cell
      have cc := hC.cell
      have ce := hE.cell
      have fa := hA.frozen
      have fc := hC.frozen
      have fe := hE.frozen
      have HX := Lib.hid hk
      clear hk
      gi_wp2
      gi_region
      all_goals gi_wp2
      all_goals
        obtain ⟨V3, hV3, k3, a3, d3, e3, b3', -⟩ := stores3 (n0 := b) (.slice none 0 0) (.int .i64 (x.at' : Int)) (.int .i64 10) hA hC hE h01 h12 (Nat.le_refl _)
        rw [hV3]
        exact ⟨(k3.trans (KeepsOthers.drew _)).from _, ⟨rfl, pre, x, rfl, hp, HX.out, a3, d3, e3⟩, (hB.trans b3').drew⟩
    · have t0 : ((x.k : Int) == 0) = false := by simp; omega
      have c2 := hT.c2
      have c3 := hT.c3
      have cv := hv.cell
      have HP : Hid (∀ y ∈ pre ++ [x], y.k ≠ 0) := Lib.hid fun y hy => by
        rw [List.mem_append, List.mem_singleton] at hy
        rcases hy with hy | rfl
        · exact hp y hy
        · exact hk
      clear hk hp
      gi_wp2_with (gi_at_builtin; refine wpListIn_append_own _ rfl _ _ 61 rfl b 65 i0 _ 4 40 Tryd.underlying61 hi hz0 hz1 hz2 rfl (by decide) _ _ _ rfl (hrow.alloc _) ⟨V.heap.size, 0, none⟩ 1 1 [.int .i64 (x.k : Int), .int .i64 (x.at' : Int), .string (bs x.t), .int .i64 (x.n : Int)] rfl rfl (four_new V x) (by simp [Value.oneCell']) (by unfold maxLen; omega) (by omega) (by simp; omega) ?_; intro v' w1 hown' hgrow hnil'; obtain ⟨g', cap', rfl⟩ := ownsRow_succ hown'; obtain ⟨hv1, hv2, hr2, hk2, hb2⟩ := hv.appended (by decide) hrow hbV hb3 hown' hgrow; have hc1 := hv1.cell; have hf1 := hv1.frozen)
      have o : ∀ {B : Nat} {t : TypeId} {u : Value}, Boxed V B t u → t ≠ 65 → B ≠ b3 → Boxed (w1.setCell ⟨b3, 0, none⟩ (.slice (some ⟨g', 0, none⟩) (pre.length + 1) cap')) B t u := fun h ht hne => Boxed.other (Boxed.kept (Boxed.alloc h _) hgrow (h.not_row ht hrow)) hne _
      exact ⟨hk2.from _, kp_append hrow hnil hgrow hv1, ⟨HP.out, o hA (by decide) (by omega), o hC (by decide) (by omega), o hE (by decide) (by omega)⟩, ⟨_, hv2, by rw [List.length_append, tkCells_snoc]; exact hr2, by simp⟩, hB.trans hb2⟩
  case done =>
    rintro D xs V hD hS ⟨⟨hp, hA, hC, hE⟩, ⟨v, hv, hrow, hnil⟩, hB⟩ hK
    obtain ⟨A, n', c', rfl⟩ := row_form hrow
    have cv := hv.cell
    have cc := hC.cell
    have ca := hA.cell
    have ce := hE.cell
    have fa := hA.frozen
    have fc := hC.frozen
    have fe := hE.frozen
    have HS := Lib.hid hS
    clear hS
    gi_wp2
    obtain ⟨V3, hV3, k3, a3, d3, e3, b3', r3⟩ := stores3 (n0 := b) (.slice A n' c') (.int .i64 (s.size : Int)) (.int .i64 0) hA hC hE h01 h12 (Nat.le_refl _)
    rw [hV3]
    have hK' := k3.same D _ hK rfl
    have hrow' := r3 hrow
    have kept : ∀ {B : Nat} {t : TypeId} {u : Value}, Boxed V3 B t u → (V3.putObj D (.deferred none)).cell? ⟨B, 0, none⟩ = some u := fun h => cell_kept h.cell (grownBy_putObj' _ D (.deferred none)) (fun r e => by cases e; exact ⟨_, hK', rfl⟩)
    have ha := kept a3
    have hc := kept d3
    have he := kept e3
    obtain rfl := HS.out
    have hbad := badP_none hp
    refine ⟨by simp, .inl ⟨_, _, rfl, run_takeDeferred hK', ?_⟩⟩
    refine ⟨.tuple #[.slice A n' c', .int .i64 (s.size : Int), .int .i64 0], ?_, .slice A n' c', by rw [endP, errP, hbad]; rfl, by rw [lexT, hbad, hb]; exact ownsRow_putObj hrow' _ hK' rfl, ?_⟩
    · simp [results, Tryd.f28, go_sem, ha, hc, he]
    · rw [hb]; exact (hB.trans b3').trans (belowK_b (w := w) (Nat.le_of_eq hb.symm) _ D _ _ (by omega) hK' rfl rfl)
  case stop =>
    rintro D c pre V hD hpre ⟨⟨rfl, q, x, rfl, hq, hx, hA, hC, hE⟩, hB⟩ hK
    gi_wp2
    refine ⟨by simp, .inl ⟨_, _, rfl, run_takeDeferred hK, ?_⟩⟩
    have kept : ∀ {B : Nat} {t : TypeId} {u : Value}, Boxed V B t u → (V.putObj D (.deferred none)).cell? ⟨B, 0, none⟩ = some u := fun h => cell_kept h.cell (grownBy_putObj' _ D (.deferred none)) (fun r e => by cases e; exact ⟨_, hK, rfl⟩)
    have ha := kept hA
    have hc := kept hC
    have he := kept hE
    have hbad := badP_some hpre hq hx
    refine ⟨.tuple #[.slice none 0 0, .int .i64 (x.at' : Int), .int .i64 10], ?_, .slice none 0 0, by rw [endP, errP, hbad]; rfl, by rw [lexT, hbad]; exact World.ownsRow_nil _ _ _ _, ?_⟩
    · simp [results, Tryd.f28, go_sem, ha, hc, he]
    · rw [hb]; exact hB.trans (belowK_b (w := w) (Nat.le_of_eq hb.symm) _ D _ _ (by omega) hK rfl rfl)
end Go.Proofs.YtlelnoalajeihaaDoor
