/- What is told is put down. -/
import Derived.Test.YtebbpgokhelmdaaCln
import Derived.Test.YtebbpgokhelmdaaBms
namespace Go.Proofs.Ytebbpgokhelmdaa
open Go.RowKit Go.Shelf
set_option linter.unusedVariables false
set_option linter.unusedSimpArgs false
attribute [local go_sem ↓] Go.wp_at_zero Go.wp_at_succ
theorem run_appN {base : Nat} {v : Value} {n : Nat} {xs : List Value} {w : World} (ty : TypeId) (hown : w.ownsRow base 31 2 v n xs) (ad : Addr) (news : List Value) (hn : news.length = 2) (hc : ∀ j u, news[j]? = some u → w.cell? (ad.add j) = some u) (h1c : ∀ u ∈ news, u.oneCell' = true) (b1 : n ≤ 1000000) (hbase : base ≤ w.heap.size) :
    ∃ v' w', (Builtin.append_ #[25, 25] ty #[v, .slice (some ad) 1 1]).run Try.prog w = .ok v' w' ∧ w'.ownsRow base 31 2 v' (n + 1) (xs ++ news) ∧ w.grownBy w' v.ownBlock ∧ ∀ k, v'.ownBlock = some k → v.ownBlock = some k ∨ w.heap.size ≤ k := by
  obtain ⟨i0, hi, hz0, hz1, hz2⟩ := info_parts infoItem
  obtain ⟨v', w', hrun, r1, r2, _⟩ := run_append_own (P := Try.prog) w base 25 ty 31 i0 _ 2 16 Try.underlying25 hi hz0 hz1 hz2 rfl (by omega) v n xs hown ad 1 1 news (by omega) hc h1c (by unfold maxLen; omega) (by omega) hbase
  refine ⟨v', w', hrun, r1, r2, ?_⟩
  rcases hown.2 with ⟨rfl, rfl⟩ | ⟨g, cap, cur, rfl, _, hg, hnc, hcm, hcs, _⟩
  · have h2 := run_append_nil (P := Try.prog) w 25 ty 31 i0 _ Try.underlying25 hi hz0 ad 1 1 news (by rw [hz1]; omega) hc (by omega) (by omega) (by rw [hz2]; decide)
    rw [hrun] at h2
    injection h2 with e1 e2
    subst e1
    intro k hk
    simp only [Value.ownBlock, Option.some.injEq] at hk
    exact .inr (by omega)
  · by_cases hroom : n + 1 ≤ cap
    · have h2 := run_append_room (P := Try.prog) w 25 ty 31 i0 Try.underlying25 hi g n cap cur hg ad 1 1 news (by rw [hz1]; omega) hc h1c hroom (by rw [hz1, hn, hcs]; have := Nat.mul_le_mul_right 2 hroom; omega)
      rw [hrun] at h2
      injection h2 with e1 e2
      subst e1
      exact fun k hk => .inl hk
    · have h2 := run_append_grow (P := Try.prog) w 25 ty 31 i0 _ Try.underlying25 hi hz0 ⟨g, 0, none⟩ n cap xs (by rw [hz1]; exact hown.1) (hown.cells rfl) ad 1 1 news (by rw [hz1]; omega) hc (by omega) (by omega) (by rw [hz2]; exact growslice_fits (by omega) (by omega))
      rw [hrun] at h2
      injection h2 with e1 e2
      subst e1
      intro k hk
      simp only [Value.ownBlock, Option.some.injEq] at hk
      exact .inr (by omega)
/-- append onto a row of the heap's own, as one step of a region that draws. -/
theorem step_appN {ops : Array Oper} {o : Oper} {a : Act} {w : World} {K : Act → World → Prop} {Q : Exit → Act → World → Prop} {E : Prop}
    (hg : o.guard = none) (s x : Operand) (hop : o.op = Op.call { callee := Callee.builtin Builtin.append, args := #[s, x], argTypes := #[25, 25] })
    (base : Nat) (v : Value) (n : Nat) (xs : List Value) (hs : a.eval s = v) (hown : w.ownsRow base 31 2 v n xs)
    (ad : Addr) (news : List Value) (hx : a.eval x = .slice (some ad) 1 1) (hn : news.length = 2) (hc : ∀ j u, news[j]? = some u → w.cell? (ad.add j) = some u) (h1c : ∀ u ∈ news, u.oneCell' = true)
    (b1 : n ≤ 1000000) (hbase : base ≤ w.heap.size)
    (hK : ∀ v' w', w'.ownsRow base 31 2 v' (n + 1) (xs ++ news) → w.grownBy w' v.ownBlock → (∀ k, v'.ownBlock = some k → v.ownBlock = some k ∨ w.heap.size ≤ k) → K (a.put o.dst v') w') :
    if Region.wanted o (yielded ops a.tmps) = true then Oper.wp Try.prog o a w K Q else E := by
  have hw : Region.wanted o (yielded ops a.tmps) = true := by simp [Region.wanted, hg]
  rw [if_pos hw]
  obtain ⟨v', w', hrun, r1, r2, r3⟩ := run_appN o.type hown ad news hn hc h1c b1 hbase
  unfold Oper.wp
  simp [execOp, hop, resolve, invoke, builtin, hs, hx, hrun, Result.andThen]
  exact hK v' w' r1 r2 r3
/-- Block bs holds what was told: L; its blocks are Z. -/
structure SeenB (B : Nat) (W : World) (bs : Nat) (Z : List Nat) (L : List It) : Prop where
  ex : ∃ v, W.heap[bs]? = some (.cells #[v] 44 (0, 0)) ∧ W.ownsRow B 31 2 v L.length (itC L) ∧ blk bs v = Z
  ge : B ≤ bs
section
variable {B : Nat} {W W' : World} {bs : Nat} {Z : List Nat} {L : List It}
theorem SeenB.lt (h : SeenB B W bs Z L) : bs < W.heap.size := by
  obtain ⟨v, h1, -⟩ := h.ex
  exact (Array.getElem?_eq_some_iff.1 h1).1
theorem SeenB.kept {Y : List Nat} (h : SeenB B W bs Z L) (hk : Kept Y W W') (hx : ∀ k ∈ Z, k ∉ Y) : SeenB B W' bs Z L := by
  obtain ⟨v, h1, h2, rfl⟩ := h.ex
  exact ⟨⟨v, (hk.block bs h.lt (hx bs (by simp [blk]))).trans h1, hk.row h2 (fun g hg => hx g (by simp [blk, hg])), rfl⟩, h.ge⟩
theorem SeenB.later (h : SeenB B W bs Z L) (hb : Below W.heap.size W W') : SeenB B W' bs Z L := h.kept (Kept.of [] hb) (by simp)
theorem SeenB.bound (h : SeenB B W bs Z L) : ∀ k ∈ Z, B ≤ k ∧ k < W.heap.size := by
  obtain ⟨v, h1, h2, rfl⟩ := h.ex
  intro k hk
  simp only [blk, List.mem_cons] at hk
  rcases hk with rfl | hk
  · exact ⟨h.ge, h.lt⟩
  · exact h2.lt k (by simpa using hk)
theorem SeenB.mem (h : SeenB B W bs Z L) : bs ∈ Z := by
  obtain ⟨v, h1, h2, rfl⟩ := h.ex
  simp [blk]
theorem SeenB.own {row : Option Nat} (h : SeenB B W bs Z L) (hg : W.grownBy W' row) (hr : ∀ r, row = some r → ∃ o : Obj, W.heap[r]? = some o ∧ o.isCells = false) : SeenB B W' bs Z L := by
  obtain ⟨v, h1, h2, rfl⟩ := h.ex
  refine ⟨⟨v, (grownBy_keeps_cells hg hr h1 rfl).trans h1, ⟨h2.1, ?_⟩, rfl⟩, h.ge⟩
  rcases h2.2 with h3 | ⟨g, cap, cur, hv, hb, hh, r⟩
  · exact .inl h3
  · exact .inr ⟨g, cap, cur, hv, hb, (grownBy_keeps_cells hg hr hh rfl).trans hh, r⟩
end
theorem it_new (w : World) (x : It) : ∀ j u, ([.int .i64 x.k, .int .i64 x.w] : List Value)[j]? = some u → (w.alloc (.cells #[.int .i64 x.k, .int .i64 x.w] 31)).cell? ((⟨w.heap.size, 0, none⟩ : Addr).add j) = some u := by
  intro j u hj
  rw [add_none, Nat.zero_add, cell_of_row _ _ j _ _ _ (heap_alloc_new w _)]
  simpa using hj
def SeeP (B bs : Nat) (Z : List Nat) (L : List It) (w : World) (e : Ending) (w' : World) : Prop := e = .returned (.tuple #[]) ∧ ∃ Z', SeenB B w' bs Z' L ∧ Kept Z w w' ∧ ∀ k ∈ Z', k ∈ Z ∨ w.heap.size ≤ k
set_option maxRecDepth 100000 in
set_option maxHeartbeats 4000000 in
theorem see_any {B bs : Nat} {Z : List Nat} {L : List It} (x : It) (w : World) (h : SeenB B w bs Z L) (hl : L.length ≤ 100000) (hB : B ≤ w.heap.size) :
    Calls Try.prog 17 #[.pointer (some ⟨bs, 0, none⟩), .agg #[.int .i64 x.k, .int .i64 x.w]] w (SeeP B bs Z (L ++ [x]) w) := by
  have hbl := h.lt
  obtain ⟨v, h1, h2, rfl⟩ := h.ex
  have hge := h.ge
  have hne := own_ne h2 h1 (by decide)
  have A1 : Below w.heap.size w (w.alloc (.cells #[.int .i64 x.k, .int .i64 x.w] 31)) := (Below.refl _ _).alloc (Nat.le_refl _) _
  have b0 : (w.alloc (.cells #[.int .i64 x.k, .int .i64 x.w] 31)).cell? ⟨w.heap.size, 0, none⟩ = some (.int .i64 x.k) := by rw [cell_of_row _ _ _ _ _ _ (heap_alloc_new w _)]; rfl
  have b1 : (w.alloc (.cells #[.int .i64 x.k, .int .i64 x.w] 31)).cell? ⟨w.heap.size, 1, none⟩ = some (.int .i64 x.w) := by rw [cell_of_row _ _ _ _ _ _ (heap_alloc_new w _)]; rfl
  have HE := Lib.hid h1
  have HO := Lib.hid h2
  have HA := Lib.hid A1
  have HN := Lib.hid hne
  clear h h1 h2 A1 hne
  go_enter Try.func17, Try.ntmps17
  go_upto_region 1 with (fail)
  generalize w.alloc (.cells #[.int .i64 x.k, .int .i64 x.w] 31) = w1 at *
  have e1 := (HA.out.block bs hbl).trans HE.out
  have c0 := cell_of_row w1 bs 0 _ _ _ e1
  simp at c0
  have O1 := (Kept.of [] HA.out).row HO.out (fun _ _ => by simp)
  have O2 := Lib.hid ((Kept.of [] ((below_drew w1).alloc (Nat.le_refl _) (.cells #[.int .i64 x.k, .int .i64 x.w] 31))).row O1 (fun _ _ => by simp))
  have s1 := HA.out.size
  have hbl1 : bs < w1.heap.size := by omega
  have hbl2 : w.heap.size < w1.heap.size := World.block_lt_of_cell? w1 ⟨w.heap.size, 0, none⟩ b0
  have HE1 := Lib.hid e1
  clear e1 O1
  go_region_law (first
    | (refine step_appN rfl _ _ rfl B v L.length (itC L) rfl O2.out ⟨w1.heap.size, 0, none⟩ [.int .i64 x.k, .int .i64 x.w] rfl rfl (it_new w1.drew x) (by simp [Value.oneCell']) (by omega) (by simp; omega) ?_
       intro v2 w2 hown2 hg2 hor
       obtain ⟨g2, cap2, rfl, -, hgl2, hle2, hmx2, -⟩ := own_form hown2 (by omega)
       have hB2 : Kept (v.ownBlock.toList) w1 w2 := (Kept.of _ ((below_drew w1).alloc (Nat.le_refl _) (.cells #[.int .i64 x.k, .int .i64 x.w] 31))).trans (kept_grown hg2 (fun k hk => by simp [hk]))
       have e2 : w2.heap[bs]? = some (.cells #[v] 44 (0, 0)) := (hB2.block bs (by omega) (fun hm => HN.out (by simpa using hm))).trans HE1.out
       have d0 : w2.cell? ⟨bs, 0, none⟩ = some v := by rw [cell_of_row w2 bs 0 _ _ _ e2]; rfl
       have f0 : w2.frozen? ⟨bs, 0, none⟩ = false := by simp [World.frozen?, e2]))
  all_goals
    go_wp2
    refine bodyPost_ret (results_none rfl _ _ _) rfl ?_
    have hne2 := own_ne hown2 e2 (by decide)
    have hO : g2 ∈ blk bs v ∨ w.heap.size ≤ g2 := by
      rcases hor g2 rfl with h | h
      · exact .inl (by simp [blk, h])
      · exact .inr (by have h3 : w1.heap.size ≤ g2 := Nat.le_trans (by simp) h; omega)
    have hset : Kept [bs] w2 (w2.setCell ⟨bs, 0, none⟩ (.slice (some ⟨g2, 0, none⟩) (L.length + 1) cap2)) := (Kept.refl _ _).set _ _ _ (by simp)
    refine ⟨rfl, [bs, g2], ⟨⟨.slice (some ⟨g2, 0, none⟩) (L.length + 1) cap2, Boxed.set (W := w2) (B := bs) (t := 44) _ e2, ?_, rfl⟩, hge⟩, ?_, ?_⟩
    · have := hset.row hown2 (fun g hg => by simp; rintro rfl; exact hne2 hg)
      simpa [itC] using this
    · exact ((Kept.of _ HA.out).trans (hB2.mono (fun k hk => by simp only [blk, List.mem_cons]; exact .inr hk))).trans (hset.mono (by simp [blk]))
    · intro k hk
      simp at hk
      rcases hk with rfl | rfl
      · exact .inl (by simp [blk])
      · exact hO
end Go.Proofs.Ytebbpgokhelmdaa
