/- The document's queue. -/
import Derived.Test.YtgcchmenadgboaaFSt
namespace Go.Proofs.Ytgcchmenadgboaa
open Go.RowKit
set_option linter.unusedVariables false
set_option linter.unusedSimpArgs false
attribute [local go_sem ↓] Go.wp_at_zero Go.wp_at_succ

/-- Its row. -/
def MRow (w : World) (bm : Nat) (Y : List Nat) (A : Option Addr) (c : Nat) (L : List Int) : Prop := (A = none ∧ L = [] ∧ c = 0) ∨
  ∃ g o cs, A = some ⟨g, o, none⟩ ∧ g ∈ Y ∧ g ≠ bm ∧ L.length ≤ c ∧ c ≤ maxLen ∧ w.heap[g]? = some (.cells cs 3 (0, 0)) ∧ ∀ (i : Nat) (x : Int), L[i]? = some x → cs[o + i]? = some (Value.int .i64 x)
/-- Block bm is the document's queue, its blocks are Y: most, and L. -/
structure MQ (w : World) (bm : Nat) (Y : List Nat) (most : Nat) (L : List Int) : Prop where
  ex : ∃ A c, w.heap[bm]? = some (.cells #[.slice A L.length c, .int .i64 (most : Int)] 28 (0, 0)) ∧ MRow w bm Y A c L
  mem : bm ∈ Y
section
variable {w w' : World} {bm most : Nat} {Y : List Nat} {L : List Int}
theorem MRow.kept {X : List Nat} {A : Option Addr} {c : Nat} (h : MRow w bm Y A c L) (hk : Kept X w w') (hx : ∀ k ∈ Y, k ∉ X) : MRow w' bm Y A c L := by
  rcases h with h | ⟨g, o, cs, h1, h2, h3, h4, h5, h6, h7⟩
  · exact .inl h
  · exact .inr ⟨g, o, cs, h1, h2, h3, h4, h5, (hk.block g (Array.getElem?_eq_some_iff.1 h6).1 (hx g h2)).trans h6, h7⟩
theorem MQ.kept {X : List Nat} (h : MQ w bm Y most L) (hk : Kept X w w') (hx : ∀ k ∈ Y, k ∉ X) : MQ w' bm Y most L := by
  obtain ⟨A, c, h1, h2⟩ := h.ex
  exact ⟨⟨A, c, (hk.block bm (Array.getElem?_eq_some_iff.1 h1).1 (hx bm h.mem)).trans h1, h2.kept hk hx⟩, h.mem⟩
theorem MQ.later (h : MQ w bm Y most L) (hb : Below w.heap.size w w') : MQ w' bm Y most L := h.kept (Kept.of [] hb) (by simp)
theorem MQ.lt (h : MQ w bm Y most L) : bm < w.heap.size := by
  obtain ⟨A, c, h1, h2⟩ := h.ex
  exact (Array.getElem?_eq_some_iff.1 h1).1
theorem MRow.row {A : Option Addr} {c : Nat} (h : MRow w bm Y A c L) : RowOI w A L.length c L := by
  rcases h with ⟨rfl, rfl, rfl⟩ | ⟨g, o, cs, rfl, h2, h3, h4, h5, h6, h7⟩
  · exact ⟨rfl, fun _ => ⟨rfl, rfl⟩, fun a e => by cases e⟩
  · refine ⟨rfl, fun e => (by cases e), fun a e i x hx => ?_⟩
    cases e
    rw [add_none, cell_of_row w g _ _ _ _ h6]
    exact h7 i x hx
theorem MRow.cap {A : Option Addr} {c : Nat} (h : MRow w bm Y A c L) : L.length ≤ c ∧ c ≤ 9223372036854775807 := by
  rcases h with ⟨rfl, rfl, rfl⟩ | ⟨g, o, cs, rfl, h2, h3, h4, h5, h6, h7⟩
  · simp
  · unfold maxLen at h5; omega
/-- Blocks may be told beside. -/
theorem MQ.more (h : MQ w bm Y most L) {Y' : List Nat} (hs : ∀ k ∈ Y, k ∈ Y') : MQ w bm Y' most L := by
  obtain ⟨A, c, h1, h2⟩ := h.ex
  refine ⟨⟨A, c, h1, ?_⟩, hs _ h.mem⟩
  rcases h2 with h | ⟨g, o, cs, h1, h2, r⟩
  · exact .inl h
  · exact .inr ⟨g, o, cs, h1, hs _ h2, r⟩
end
def MPush (bm : Nat) (Y : List Nat) (most : Nat) (L : List Int) (w : World) (e : Ending) (w' : World) : Prop := e = .returned (.tuple #[]) ∧ ∃ Y', MQ w' bm Y' most L ∧ Kept [bm] w w' ∧ ∀ k ∈ Y', k = bm ∨ w.heap.size ≤ k
theorem wpList_appO {w : World} {ops : Array Oper} {rest : List Oper} {o : Oper} {a : Act} {Q : Exit → Act → World → Prop} (hg : o.guard = none) (s x : Operand)
    (hop : o.op = Op.call { callee := Callee.builtin Builtin.append, args := #[s, x], argTypes := #[22, 22] }) (base k : Nat) (v : Value) (xs : List Value) (hs : a.eval s = v) (hown : w.ownsRow base 3 1 v k xs)
    (A : Option Addr) (m c : Nat) (L : List Int) (hx : a.eval x = .slice A m c) (hR : RowOI w A m c L) (hb : k + m ≤ 1000000) (hbase : base ≤ w.heap.size)
    (hK : ∀ v' w', w'.ownsRow base 3 1 v' (k + m) (xs ++ clI L) → w.grownBy w' v.ownBlock → wpList Try.prog ops Q rest (a.put o.dst v') w') : wpList Try.prog ops Q (o :: rest) a w := by
  obtain ⟨i0, hi, hz0, hz1, hz2⟩ := info_parts infoTI
  cases A with
  | some ad =>
    exact wpList_append_own w hg s x 22 hop base 3 i0 _ 1 8 Try.underlying22 hi hz0 hz1 hz2 rfl (by decide) v k xs hs hown ad m c (clI L) hx (by rw [cl_lenI, hR.len, Nat.mul_one]) (hR.row ad rfl).cells (cl_oneI L) (by unfold maxLen; omega) (by omega) hbase (fun v' w' h1 h2 _ => hK v' w' h1 h2)
  | none =>
    obtain ⟨rfl, rfl⟩ := hR.nil rfl
    have hL : L = [] := List.eq_nil_of_length_eq_zero hR.len
    subst hL
    refine wpList_plain hg fun K hK' => ?_
    have hrun := run_append_owned_none (P := Try.prog) w base 22 o.type 3 i0 1 Try.underlying22 hi v k xs hown
    unfold Oper.wp
    simp [execOp, hop, resolve, invoke, builtin, hs, hx, hrun, Result.andThen]
    exact hK' _ _ (hK v w (by simpa [clI] using hown) (World.grownBy.refl _ _))
theorem own_empty {w : World} {base : Nat} (hb : base ≤ w.heap.size) : (w.alloc (.cells #[] 3)).ownsRow base 3 1 (.slice (some ⟨w.heap.size, 0, none⟩) 0 0) 0 [] := World.ownsRow_lit w #[] 0 hb (by unfold maxLen; omega) rfl
theorem row_one {w : World} (x : Int) : RowOI (w.alloc (.cells #[.int .i64 x] 3)) (some ⟨w.heap.size, 0, none⟩) 1 1 [x] := by
  refine ⟨rfl, fun e => (by cases e), fun a e i y hy => ?_⟩
  cases e
  rw [add_none, cell_of_row _ _ _ _ _ _ (heap_alloc_new w _)]
  match i, hy with
  | 0, hy => simp at hy; subst hy; rfl
theorem mq_made {w w2 : World} {bm most g cap n : Nat} {L : List Int} (hbm : bm < w.heap.size) (hB : Below w.heap.size w w2) (hown : w2.ownsRow w.heap.size 3 1 (.slice (some ⟨g, 0, none⟩) (n + 1) cap) (n + 1) (clI L)) (hL : L.length = n + 1)
    {v0 v1 : Value} (hi : w.heap[bm]? = some (.cells #[v0, v1] 28 (0, 0))) :
    MPush bm [bm] most L w (.returned (.tuple #[])) ((w2.setCell ⟨bm, 0, none⟩ (.slice (some ⟨g, 0, none⟩) (n + 1) cap)).setCell ⟨bm, 1, none⟩ (.int .i64 (most : Int))) := by
  have hi2 := (hB.block bm hbm).trans hi
  rcases hown.2 with ⟨h, _⟩ | ⟨g', cp, cur, h, hbg, hg, hnc, hcm, hcs, ht⟩
  · simp at h
  · simp only [Value.slice.injEq, Option.some.injEq, Addr.mk.injEq, and_true, true_and] at h
    obtain ⟨rfl, rfl⟩ := h
    have hne : g ≠ bm := by omega
    refine ⟨rfl, [bm, g], ⟨⟨some ⟨g, 0, none⟩, cap, ?_, .inr ⟨g, 0, cur, rfl, by simp, hne, by omega, hcm, ?_, ?_⟩⟩, by simp⟩, ?_, ?_⟩
    · rw [hL]
      exact heap_setCell_same _ bm 1 _ _ _ (heap_setCell_same _ bm 0 _ _ _ hi2)
    · rw [Below.heap_setCell _ _ _ _ (by simpa using hne), Below.heap_setCell _ _ _ _ (by simpa using hne)]
      exact hg
    · intro i x hx
      have hil := (List.getElem?_eq_some_iff.1 hx).1
      have h1 := cl_getI hx
      rw [← ht, List.getElem?_take, if_pos (by omega), Array.getElem?_toList] at h1
      rw [Nat.zero_add]
      exact h1
    · exact ((Kept.of [bm] hB).set bm 0 _ (by simp)).set bm 1 _ (by simp)
    · intro k hk
      simp at hk
      omega
set_option maxRecDepth 100000 in
set_option maxHeartbeats 8000000 in
theorem mpush {w : World} {bm most : Nat} {Y : List Nat} {L : List Int} (x : Int) (h : MQ w bm Y most L) (hn : L.length ≤ 100000) (hm : most ≤ 100000) : Calls Try.prog 10 #[.pointer (some ⟨bm, 0, none⟩), .int .i64 x] w (MPush bm Y (max most (L.length + 1)) (L ++ [x]) w) := by
  obtain ⟨A, c, hb, hR⟩ := h.ex
  have hbl := h.lt
  have c0 := cell_of_row w bm 0 _ _ _ hb
  have c1 := cell_of_row w bm 1 _ _ _ hb
  simp at c0 c1
  have hRO := Lib.hid hR.row
  have HLL := Lib.hid (show (L ++ [x]).length = L.length + 1 by simp)
  have HI := Lib.hid hb
  obtain ⟨n, hnn⟩ : ∃ n, L.length = n := ⟨_, rfl⟩
  rw [hnn] at c0 hRO hn HLL ⊢
  have hbl1 : bm < w.heap.size + 1 := by omega
  have ha1 := Lib.hid ((Below.refl w.heap.size w).alloc (Nat.le_refl _) (.cells #[] 3))
  have HO := Lib.hid (own_empty (w := w) (Nat.le_refl _))
  clear h hR hb hnn
  go_enter Try.func10, Try.ntmps10
  go_upto_region 1 with (first
    | (at_builtin; go_loud (refine wpList_appO rfl _ _ rfl w.heap.size 0 (.slice (some ⟨w.heap.size, 0, none⟩) 0 0) [] rfl HO.out A n c L rfl (hRO.out.later ha1.out) (by omega) (by simp) ?_; intro v1 w1 hown1 hgrow1; have hB1 : Below w.heap.size w w1 := ha1.out.grown hgrow1 (by simp) (fun k e => by simp [Value.ownBlock] at e; omega); have HB1 := Lib.hid hB1; have HO1 := Lib.hid hown1; clear hown1 hgrow1 hB1))
    | (at_builtin; go_loud (refine wpList_appO rfl _ _ rfl w.heap.size (0 + n) v1 _ rfl (HO1.out.alloc _) _ 1 1 [x] rfl (row_one x) (by omega) (by have := HB1.out.size; simp; omega) ?_; intro v2 w2 hown2 hgrow2; have hB2 : Below w.heap.size w w2 := (HB1.out.alloc HB1.out.size _).grown hgrow2 (by have := HB1.out.size; simp; omega) (fun k e => (HO1.out.lt k e).1); rw [Nat.zero_add, List.nil_append, ← cl_appI] at hown2; obtain ⟨g2, cap2, rfl, -, hg2, -, -, -⟩ := own_form hown2 (by omega); have HB2 := Lib.hid hB2; have HO2 := Lib.hid hown2; have d0 := ((hB2.cell (p := ⟨bm, 0, none⟩) hbl)).trans c0; have e0 : w2.frozen? ⟨bm, 0, none⟩ = false := (World.frozen?_of_block (a := ⟨bm, 0, none⟩) (hB2.block bm hbl)).trans (by simp [World.frozen?, HI.out]); clear hown2 hgrow2 hB2)))
  have d1 := ((HB2.out.cell (p := ⟨bm, 1, none⟩) hbl)).trans c1
  have e1 : w2.frozen? ⟨bm, 1, none⟩ = false := (World.frozen?_of_block (a := ⟨bm, 1, none⟩) (HB2.out.block bm hbl)).trans (by simp [World.frozen?, HI.out])
  have MM := Lib.hid (mq_made (most := max most (n + 1)) hbl HB2.out HO2.out HLL.out HI.out)
  have hmx : max (most : Int) ((n : Int) + 1) = ((max most (n + 1) : Nat) : Int) := by omega
  obtain ⟨W, hW, k0, k1, f1⟩ : ∃ W, w2.setCell ⟨bm, 0, none⟩ (.slice (some ⟨g2, 0, none⟩) (n + 1) cap2) = W ∧ W.cell? ⟨bm, 0, none⟩ = some (.slice (some ⟨g2, 0, none⟩) (n + 1) cap2) ∧ W.cell? ⟨bm, 1, none⟩ = some (.int .i64 (most : Int)) ∧ W.frozen? ⟨bm, 1, none⟩ = false := by
    have hi2 := (HB2.out.block bm hbl).trans HI.out
    have h3 := heap_setCell_same w2 bm 0 _ _ (.slice (some ⟨g2, 0, none⟩) (n + 1) cap2) hi2
    exact ⟨_, rfl, cell_of_row _ bm 0 _ _ _ h3, cell_of_row _ bm 1 _ _ _ h3, by simp [World.frozen?, h3]⟩
  rw [hW] at MM ⊢
  generalize max most (n + 1) = M at *
  clear hW d0 d1 e0 e1 HB2 HO2 HI HB1 HO1
  have hMn : ((n + 1 : Nat) : Int) = (n : Int) + 1 := by omega
  go_region
  go_wp2
  refine bodyPost_ret (results_none rfl _ _ _) rfl ?_
  obtain ⟨_, Y', h1, h2, h3⟩ := MM.out
  exact ⟨rfl, Y', h1.later (below_drew _), h2.later (below_drew _), h3⟩
def MPop (v : Value) (bm : Nat) (Y : List Nat) (most : Nat) (L : List Int) (w : World) (e : Ending) (w' : World) : Prop := e = .returned v ∧ MQ w' bm Y most L ∧ Kept [bm] w w'
set_option maxRecDepth 100000 in
set_option maxHeartbeats 4000000 in
theorem mpop {w : World} {bm most : Nat} {Y : List Nat} {L : List Int} {x : Int} (h : MQ w bm Y most (x :: L)) (hn : L.length ≤ 100000) : Calls Try.prog 14 #[.pointer (some ⟨bm, 0, none⟩)] w (MPop (.int .i64 x) bm Y most L w) := by
  obtain ⟨A, c, hb, hR⟩ := h.ex
  have hbl := h.lt
  have hmem := h.mem
  rcases hR with ⟨_, h0, _⟩ | ⟨g, o, cs, rfl, h2, h3, h4, h5, h6, h7⟩
  · cases h0
  · have c0 := cell_of_row w bm 0 _ _ _ hb
    simp at c0
    have f0 : w.frozen? ⟨bm, 0, none⟩ = false := by simp [World.frozen?, hb]
    have cx : w.cell? ⟨g, o, none⟩ = some (.int .i64 x) := by rw [cell_of_row w g _ _ _ _ h6]; exact h7 0 x rfl
    obtain ⟨n, hnn⟩ : ∃ n, L.length = n := ⟨_, rfl⟩
    simp only [List.length_cons] at h4
    rw [hnn] at c0 h4 hn
    unfold maxLen at h5
    have HP := Lib.hid (fun (a : Addr) (ha : a = (if c = 1 then ⟨g, o, none⟩ else ⟨g, o + 1, none⟩ : Addr)) => show MPop (.int .i64 x) bm Y most L w (.returned (.int .i64 x)) (w.setCell ⟨bm, 0, none⟩ (.slice (some a) n (c - 1))) from by
      have hk := (Kept.refl [bm] w).set bm 0 (.slice (some a) n (c - 1)) (by simp)
      refine ⟨rfl, ⟨⟨some a, c - 1, by rw [hnn]; exact heap_setCell_same _ bm 0 _ _ _ hb, ?_⟩, hmem⟩, hk⟩
      by_cases hc : c = 1
      · rw [if_pos hc] at ha
        subst ha
        refine .inr ⟨g, o, cs, rfl, h2, h3, by omega, by unfold maxLen; omega, (Below.heap_setCell _ _ _ _ (by simpa using h3)).trans h6, fun i y hy => ?_⟩
        have := (List.getElem?_eq_some_iff.1 hy).1
        omega
      · rw [if_neg hc] at ha
        subst ha
        refine .inr ⟨g, o + 1, cs, rfl, h2, h3, by omega, by unfold maxLen; omega, (Below.heap_setCell _ _ _ _ (by simpa using h3)).trans h6, fun i y hy => ?_⟩
        have := h7 (i + 1) y (by simpa using hy)
        rw [show o + 1 + i = o + (i + 1) by omega]
        exact this)
    have hn0 : ((n : Int) + 1 == 0) = false := by simp; omega
    have hn1 : ¬ ((n : Int) + 1 = 0) := by omega
    have hn2 : (0 : Int) < (n : Int) + 1 := by omega
    have hn3 : (1 : Int) ≤ (n : Int) + 1 := by omega
    have hc1 : (1 : Nat) ≤ c := by omega
    by_cases hc : c = 1
    · have HP1 := Lib.hid (HP.out ⟨g, o, none⟩ (by rw [if_pos hc]))
      clear HP h h7 hb h6
      subst hc
      obtain rfl : n = 0 := by omega
      go_enter Try.func14, Try.ntmps14
      go_wp2
      go_ret
      exact HP1.out
    · have HP1 := Lib.hid (HP.out ⟨g, o + 1, none⟩ (by rw [if_neg hc]))
      clear HP h h7 hb h6
      have hc2 : ¬ (1 = c) := by omega
      go_enter Try.func14, Try.ntmps14
      go_wp2
      go_ret
      exact HP1.out
theorem mnone {w : World} {bm most : Nat} {Y : List Nat} (h : MQ w bm Y most []) : Calls Try.prog 14 #[.pointer (some ⟨bm, 0, none⟩)] w fun e w' => e = .returned (.int .i64 0) ∧ w = w' := by
  obtain ⟨A, c, hb, hR⟩ := h.ex
  have c0 := cell_of_row w bm 0 _ _ _ hb
  simp at c0
  clear h hb hR
  go_enter Try.func14, Try.ntmps14
  go_wp2
  go_ret
  exact ⟨rfl, rfl⟩
end Go.Proofs.Ytgcchmenadgboaa
