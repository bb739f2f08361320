/- A heap's Len, Push. -/
import Derived.Test.YtebbpgokhelmdaaHDM
namespace Go.Proofs.Ytebbpgokhelmdaa
open Go.RowKit
set_option linter.unusedVariables false
set_option linter.unusedSimpArgs false
attribute [local go_sem ↓] Go.wp_at_zero Go.wp_at_succ

theorem infoTM : (Try.prog.info? 76).map (fun i => (i.zero, i.size, i.bytes)) = some (some (.agg #[.int .i64 0, .int .i64 0, .int .i64 0]), 3, 24) := by kernel_rfl
theorem run_appM {base : Nat} {v : Value} {n : Nat} {xs : List Value} {w : World} (ty : TypeId) (hown : w.ownsRow base 76 3 v n xs) (ad : Addr) (news : List Value) (hn : news.length = 3) (hc : ∀ j u, news[j]? = some u → w.cell? (ad.add j) = some u) (h1c : ∀ u ∈ news, u.oneCell' = true) (b1 : n ≤ 1000000) (hbase : base ≤ w.heap.size) :
    ∃ v' w', (Builtin.append_ #[68, 68] ty #[v, .slice (some ad) 1 1]).run Try.prog w = .ok v' w' ∧ w'.ownsRow base 76 3 v' (n + 1) (xs ++ news) ∧ w.grownBy w' v.ownBlock ∧ ∀ k, v'.ownBlock = some k → v.ownBlock = some k ∨ w.heap.size ≤ k := by
  obtain ⟨i0, hi, hz0, hz1, hz2⟩ := info_parts infoTM
  obtain ⟨v', w', hrun, r1, r2, _⟩ := run_append_own (P := Try.prog) w base 68 ty 76 i0 _ 3 24 Try.underlying68 hi hz0 hz1 hz2 rfl (by omega) v n xs hown ad 1 1 news (by omega) hc h1c (by unfold maxLen; omega) (by omega) hbase
  refine ⟨v', w', hrun, r1, r2, ?_⟩
  rcases hown.2 with ⟨rfl, rfl⟩ | ⟨g, cap, cur, rfl, _, hg, hnc, hcm, hcs, _⟩
  · have h2 := run_append_nil (P := Try.prog) w 68 ty 76 i0 _ Try.underlying68 hi hz0 ad 1 1 news (by rw [hz1]; omega) hc (by omega) (by omega) (by rw [hz2]; decide)
    rw [hrun] at h2
    injection h2 with e1 e2
    subst e1
    intro k hk
    simp only [Value.ownBlock, Option.some.injEq] at hk
    exact .inr (by omega)
  · by_cases hroom : n + 1 ≤ cap
    · have h2 := run_append_room (P := Try.prog) w 68 ty 76 i0 Try.underlying68 hi g n cap cur hg ad 1 1 news (by rw [hz1]; omega) hc h1c hroom (by rw [hz1, hn, hcs]; have := Nat.mul_le_mul_right 3 hroom; omega)
      rw [hrun] at h2
      injection h2 with e1 e2
      subst e1
      exact fun k hk => .inl hk
    · have h2 := run_append_grow (P := Try.prog) w 68 ty 76 i0 _ Try.underlying68 hi hz0 ⟨g, 0, none⟩ n cap xs (by rw [hz1]; exact hown.1) (hown.cells rfl) ad 1 1 news (by rw [hz1]; omega) hc (by omega) (by omega) (by rw [hz2]; exact growslice_fits (by omega) (by omega))
      rw [hrun] at h2
      injection h2 with e1 e2
      subst e1
      intro k hk
      simp only [Value.ownBlock, Option.some.injEq] at hk
      exact .inr (by omega)
/-- append onto a row of the heap's own, as one step of a region that draws. -/
theorem step_appM {ops : Array Oper} {o : Oper} {a : Act} {w : World} {K : Act → World → Prop} {Q : Exit → Act → World → Prop} {E : Prop}
    (hg : o.guard = none) (s x : Operand) (hop : o.op = Op.call { callee := Callee.builtin Builtin.append, args := #[s, x], argTypes := #[68, 68] })
    (base : Nat) (v : Value) (n : Nat) (xs : List Value) (hs : a.eval s = v) (hown : w.ownsRow base 76 3 v n xs)
    (ad : Addr) (news : List Value) (hx : a.eval x = .slice (some ad) 1 1) (hn : news.length = 3) (hc : ∀ j u, news[j]? = some u → w.cell? (ad.add j) = some u) (h1c : ∀ u ∈ news, u.oneCell' = true)
    (b1 : n ≤ 1000000) (hbase : base ≤ w.heap.size)
    (hK : ∀ v' w', w'.ownsRow base 76 3 v' (n + 1) (xs ++ news) → w.grownBy w' v.ownBlock → (∀ k, v'.ownBlock = some k → v.ownBlock = some k ∨ w.heap.size ≤ k) → K (a.put o.dst v') w') :
    if Region.wanted o (yielded ops a.tmps) = true then Oper.wp Try.prog o a w K Q else E := by
  have hw : Region.wanted o (yielded ops a.tmps) = true := by simp [Region.wanted, hg]
  rw [if_pos hw]
  obtain ⟨v', w', hrun, r1, r2, r3⟩ := run_appM o.type hown ad news hn hc h1c b1 hbase
  unfold Oper.wp
  simp [execOp, hop, resolve, invoke, builtin, hs, hx, hrun, Result.andThen]
  exact hK v' w' r1 r2 r3
theorem th_newM (w : World) (p : It × Nat) : ∀ j u, (thM p)[j]? = some u → (w.alloc (.cells #[.int .i64 (p.1).k, .int .i64 (p.1).w, .int .i64 (p.2 : Int)] 76)).cell? ((⟨w.heap.size, 0, none⟩ : Addr).add j) = some u := by
  intro j u hj
  rw [add_none, Nat.zero_add, cell_of_row _ _ j _ _ _ (heap_alloc_new w _)]
  simpa [thM] using hj
theorem th_oneM (p : It × Nat) : ∀ u ∈ thM p, u.oneCell' = true := by
  intro u hu
  simp only [thM, List.mem_cons, List.not_mem_nil, or_false] at hu
  rcases hu with rfl | rfl | rfl <;> rfl
theorem len_anyM {B b c : Nat} {v : Value} {l : List (It × Nat)} (w : World) (h : HBM B w b v c l) : Calls Try.prog 14 #[.pointer (some ⟨b, 0, none⟩)] w fun e w' => e = .returned (.int .i64 l.length) ∧ w = w' := by
  obtain ⟨A, cap, hv, hle, hmx⟩ := own_len h.row
  have c1 := h.c1
  subst hv
  unfold maxLen at hmx
  clear h
  go_enter Try.func14, Try.ntmps14
  go_wp2
  go_ret
  exact ⟨rfl, rfl⟩

/-- A heap whose row has grown by a thing. -/
theorem HBM.pushed {B : Nat} {w W w2 : World} {b c : Nat} {v v2 : Value} {l : List (It × Nat)} {p : It × Nat} (h : HBM B w b v c l) (hW : Below w.heap.size w W) (hg : W.grownBy w2 v.ownBlock) (ho : w2.ownsRow B 76 3 v2 (l.length + 1) (thCM l ++ thM p)) (hp : okM p.1) (hpc : p.2 = c) (hc : c + 1 ≤ 1000000) :
    (w2.cell? ⟨b, 1, none⟩ = some v ∧ w2.cell? ⟨b, 2, none⟩ = some (.int .i64 (c : Int)) ∧ (∀ i, w2.frozen? ⟨b, i, none⟩ = false)) ∧ Kept (blk b v) w w2 ∧
    HBM B ((w2.setCell ⟨b, 1, none⟩ v2).setCell ⟨b, 2, none⟩ (.int .i64 ((c + 1 : Nat) : Int))) b v2 (c + 1) (l ++ [p]) ∧ Kept (blk b v) w ((w2.setCell ⟨b, 1, none⟩ v2).setCell ⟨b, 2, none⟩ (.int .i64 ((c + 1 : Nat) : Int))) := by
  have hk : Kept (blk b v) w w2 := (Kept.of _ hW).trans (kept_grown hg (fun k hk => by simp [blk, hk]))
  have hWb : W.heap[b]? = some (.cells #[.func (.func 12) #[] #[], v, .int .i64 (c : Int)] 70 (0, 0)) := (hW.block b h.lt).trans h.is
  have hb2 : w2.heap[b]? = some (.cells #[.func (.func 12) #[] #[], v, .int .i64 (c : Int)] 70 (0, 0)) :=
    (hg.block b (Nat.lt_of_lt_of_le h.lt hW.size) (fun e => h.ne e.symm)).trans hWb
  have hne := own_ne ho hb2 (by decide)
  have e1 : (w2.setCell ⟨b, 1, none⟩ v2).heap[b]? = some (.cells #[.func (.func 12) #[] #[], v2, .int .i64 (c : Int)] 70 (0, 0)) := heap_setCell_same _ b 1 _ _ _ hb2
  have e2 : ((w2.setCell ⟨b, 1, none⟩ v2).setCell ⟨b, 2, none⟩ (.int .i64 ((c + 1 : Nat) : Int))).heap[b]? = some (.cells #[.func (.func 12) #[] #[], v2, .int .i64 ((c + 1 : Nat) : Int)] 70 (0, 0)) := heap_setCell_same _ b 2 _ _ _ e1
  have k2 : Kept [b] w2 ((w2.setCell ⟨b, 1, none⟩ v2).setCell ⟨b, 2, none⟩ (.int .i64 ((c + 1 : Nat) : Int))) := ((Kept.refl [b] w2).set b 1 v2 (by simp)).set b 2 _ (by simp)
  refine ⟨⟨by rw [cell_of_row w2 b 1 _ _ _ hb2]; rfl, by rw [cell_of_row w2 b 2 _ _ _ hb2]; rfl, fun i => by simp [World.frozen?, hb2]⟩, hk, ⟨h.hB, e2, ?_, ?_, ?_, hc⟩, hk.trans (k2.mono (by simp [blk]))⟩
  · rw [List.length_append, thC_appM]
    have := k2.row ho (fun g hg' => by simp; exact fun e => hne (by rw [hg', e]))
    simpa [thCM] using this
  · intro q hq
    rcases List.mem_append.1 hq with hq | hq
    · exact h.ok q hq
    · rw [List.mem_singleton.1 hq]; exact hp
  · intro q hq
    rcases List.mem_append.1 hq with hq | hq
    · have := h.few q hq; omega
    · rw [List.mem_singleton.1 hq]; omega
def PushPostM (B b c : Nat) (v : Value) (l : List (It × Nat)) (x : It) (w : World) (e : Ending) (w' : World) : Prop := e = .returned (.tuple #[]) ∧ ∃ v' l', l'.Perm (l ++ [(x, c)]) ∧ Hp keyM l' ∧ HBM B w' b v' (c + 1) l' ∧ Kept (blk b v) w w' ∧ ∀ k ∈ blk b v', k ∈ blk b v ∨ w.heap.size ≤ k
set_option maxRecDepth 100000 in
set_option maxHeartbeats 4000000 in
theorem push_anyM {B b c : Nat} {v : Value} {l : List (It × Nat)} {x : It} (w : World) (h : HBM B w b v c l) (hh : Hp keyM l) (hx : okM x) (hc : c + 1 ≤ 1000000) (hl : l.length ≤ 1000000) :
    Calls Try.prog 29 #[.pointer (some ⟨b, 0, none⟩), .agg #[.int .i64 (x).k, .int .i64 (x).w]] w (PushPostM B b c v l x w) := by
  have HH := Lib.hid hh
  have HX := Lib.hid hx
  have hw1 : Below w.heap.size w (w.alloc (.cells #[.int .i64 x.k, .int .i64 x.w] 31)) := (Below.refl _ _).alloc (Nat.le_refl _) _
  have h1 := h.later hw1
  have b0 : (w.alloc (.cells #[.int .i64 x.k, .int .i64 x.w] 31)).cell? ⟨w.heap.size, 0, none⟩ = some (.int .i64 x.k) := by rw [cell_of_row _ _ _ _ _ _ (heap_alloc_new w _)]; rfl
  have b1 : (w.alloc (.cells #[.int .i64 x.k, .int .i64 x.w] 31)).cell? ⟨w.heap.size, 1, none⟩ = some (.int .i64 x.w) := by rw [cell_of_row _ _ _ _ _ _ (heap_alloc_new w _)]; rfl
  have hsb : w.heap.size < (w.alloc (.cells #[.int .i64 x.k, .int .i64 x.w] 31)).heap.size := by simp
  have HI := Lib.hid h
  clear hh hx h
  go_enter Try.func29, Try.ntmps29
  go_upto_region 2 with (fail)
  generalize w.alloc (.cells #[.int .i64 x.k, .int .i64 x.w] 31) = w1 at *
  have c1 := h1.c1
  have c2 := h1.c2
  have hb := h1.lt
  have H1 := Lib.hid h1
  have HB1 := Lib.hid hw1
  have O1 := Lib.hid (h1.later (((below_drew w1).alloc (Nat.le_refl _) (.cells #[.int .i64 (x).k, .int .i64 (x).w, .int .i64 (c : Int)] 76))))
  clear h1 hw1
  go_region_law (first
    | (refine step_appM rfl _ _ rfl B v l.length (thCM l) rfl O1.out.row ⟨w1.heap.size, 0, none⟩ (thM (x, c)) rfl rfl (th_newM w1.drew (x, c)) (th_oneM (x, c)) hl (Nat.le_trans O1.out.hB (Nat.le_of_lt O1.out.lt)) ?_
       intro v2 w2 hown2 hg2 hor
       obtain ⟨g2, cap2, rfl, -, hgl2, hle2, hmx2, -⟩ := own_form hown2 (by omega)
       obtain ⟨⟨d1, d2, fz⟩, K2, H2, K3⟩ := H1.out.pushed ((below_drew w1).alloc (Nat.le_refl _) _) hg2 hown2 HX.out rfl hc
       have f1 := fz 1
       have f2 := fz 2))
  all_goals
    have hlen : (l ++ [(x, c)]).length = l.length + 1 := by simp
    have RS := Lib.hid (riseM _ H2 hlen (by omega) HH.out.up_last)
    have HK3 := Lib.hid K3
    have hcI : ((c + 1 : Nat) : Int) = (c : Int) + 1 := by omega
    rw [hcI] at RS HK3
    have HOR := Lib.hid (hor g2 rfl)
    clear hg2 hown2 K2 K3 H2 fz hlen hcI hor
    go_wp2_with (go_at_call 41; (with_reducible refine RS.out.mono ?_); rintro e w4 ⟨rfl, l2, hP, hHp, hH2, hK4⟩)
    go_end0
    have hO : g2 ∈ blk b v ∨ w.heap.size ≤ g2 := by
      rcases HOR.out with h | h
      · exact .inl (by simp [blk, h])
      · exact .inr (by have h2 := HB1.out.size; have h3 : w1.heap.size ≤ g2 := Nat.le_trans (by simp) h; omega)
    refine ⟨rfl, _, l2, hP, hHp, hH2, kept_push HB1.out HK3.out hK4 hO, fun k hk => ?_⟩
    simp only [blk, Value.ownBlock, Option.toList_some, List.mem_cons, List.not_mem_nil, or_false] at hk
    rcases hk with rfl | rfl
    · exact .inl (by simp [blk])
    · exact hO
end Go.Proofs.Ytebbpgokhelmdaa
