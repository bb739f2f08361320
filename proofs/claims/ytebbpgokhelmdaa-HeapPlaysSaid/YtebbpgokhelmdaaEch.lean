/- Each. -/
import Derived.Test.YtebbpgokhelmdaaSee
namespace Go.Proofs.Ytebbpgokhelmdaa
open Go.RowKit Go.Shelf
set_option linter.unusedVariables false
set_option linter.unusedSimpArgs false
attribute [local go_sem] Oper.semAt_some
theorem run_store_func (P : Program) (w : World) (a : Addr) (m : Mode) (f : Fn) (x y : Array Value) : (store a (.func f x y) m).run P w = stored P w a (.func f x y) m := run_store P w a _ m rfl
attribute [local go_sem] run_store_func
abbrev Zh : Obj := .cells #[.nilFunc, .slice none 0 0, .int .i64 0] 70
theorem echA {w1 w' : World} {b : Nat} {u : Value} (hbl1 : b < w1.heap.size) (c : w1.cell? ⟨b, 0, none⟩ = some u) (hB1 : Below (w1.alloc Zh).drew.heap.size (w1.alloc Zh).drew w') :
    w'.heap[w1.heap.size]? = some (.cells #[.nilFunc, .slice none 0 0, .int .i64 0] 70 (0, 0)) ∧ w'.cell? ⟨w1.heap.size, 0, none⟩ = some .nilFunc ∧ w'.cell? ⟨w1.heap.size, 1, none⟩ = some (.slice none 0 0) ∧ w'.cell? ⟨w1.heap.size, 2, none⟩ = some (.int .i64 0) ∧ w'.frozen? ⟨w1.heap.size, 0, none⟩ = false ∧ w'.frozen? ⟨w1.heap.size, 1, none⟩ = false ∧ w'.frozen? ⟨w1.heap.size, 2, none⟩ = false ∧ w'.cell? ⟨b, 0, none⟩ = some u := by
  have zA : (w1.alloc Zh).drew.heap[w1.heap.size]? = some (.cells #[.nilFunc, .slice none 0 0, .int .i64 0] 70 (0, 0)) := heap_alloc_new w1 _
  have lA : w1.heap.size < (w1.alloc Zh).drew.heap.size := by show w1.heap.size < (w1.alloc _).heap.size; simp
  have zb := (hB1.block w1.heap.size lA).trans zA
  refine ⟨zb, (cell_of_row w' _ 0 _ _ _ zb).trans rfl, (cell_of_row w' _ 1 _ _ _ zb).trans rfl, (cell_of_row w' _ 2 _ _ _ zb).trans rfl, ?_, ?_, ?_, ?_⟩
  · simp [World.frozen?, zb]
  · simp [World.frozen?, zb]
  · simp [World.frozen?, zb]
  · exact (hB1.cell (p := ⟨b, 0, none⟩) (Nat.lt_trans hbl1 lA)).trans (show _ = _ from (World.cell?_alloc_lt _ _ _ (by simpa using hbl1)).trans c)
theorem SeenB.others {B : Nat} {W W' : World} {bs : Nat} {Z : List Nat} {L : List It} (h : SeenB B W bs Z L) (hk : Kept Z W W') : KeepsOthers W W' := by
  obtain ⟨v, h1, h2, rfl⟩ := h.ex
  refine ⟨hk.size, fun k o hk1 ho => ?_⟩
  by_cases hm : k ∈ blk bs v
  · exfalso
    simp only [blk, List.mem_cons] at hm
    rcases hm with rfl | hm
    · rw [h1] at hk1
      injection hk1 with e
      subst e
      simp [Obj.isCells] at ho
    · rcases h2.2 with ⟨hv, _⟩ | ⟨g, cap, cur, hv, _, hh, _⟩
      · subst hv; simp [Value.ownBlock] at hm
      · subst hv
        simp [Value.ownBlock] at hm
        subst hm
        rw [hh] at hk1
        injection hk1 with e
        subst e
        simp [Obj.isCells] at ho
  · exact (hk.block k (Array.getElem?_eq_some_iff.1 hk1).1 hm).trans hk1
/-- What a range in which one is told keeps. -/
structure EchI (w : World) (Bs bs n0 : Nat) (Z : List Nat) (f : Value) (pre : List It) (V : World) : Prop where
  ex : ∃ Z', SeenB Bs V bs Z' pre ∧ (∀ k ∈ Z', k ∈ Z ∨ n0 ≤ k)
  kept : Kept Z w V
  box : Boxed V w.heap.size 32 f
  le : n0 ≤ V.heap.size
section
variable {w : World} {Bs bs n0 : Nat} {Z : List Nat} {f : Value} {pre : List It} {V V' : World}
theorem EchI.keptY {Y : List Nat} (h : EchI w Bs bs n0 Z f pre V) (hk : Kept Y V V') (hY : ∀ k ∈ Y, w.heap.size < k ∧ k < n0) (hZ : ∀ k ∈ Z, k < w.heap.size) : EchI w Bs bs n0 Z f pre V' := by
  obtain ⟨Z', h1, h2⟩ := h.ex
  have hs := h.kept.size
  refine ⟨⟨Z', h1.kept hk (fun k hm hy => ?_), h2⟩, ⟨hk.os.trans h.kept.os, hk.tape.trans h.kept.tape, hk.output.trans h.kept.output, Nat.le_trans hs hk.size, fun k hl hm => ?_⟩, ?_, Nat.le_trans h.le hk.size⟩
  · have := hY k hy
    rcases h2 k hm with h3 | h3
    · have := hZ k h3; omega
    · omega
  · exact (hk.block k (by omega) (fun hy => by have := hY k hy; omega)).trans (h.kept.block k hl hm)
  · exact (hk.block _ h.box.lt (fun hy => by have := hY _ hy; omega)).trans h.box
theorem EchI.own (hn0 : w.heap.size ≤ n0) : OwnFrom n0 (EchI w Bs bs n0 Z f) := by
  rintro pre X Y row h hg hr
  obtain ⟨Z', h1, h2⟩ := h.ex
  have hs := h.kept.size
  have hk := kept_grown hg (X := row.toList) (fun k hk => by simp [hk])
  refine ⟨⟨Z', h1.own hg (fun r e => (hr r e).2), h2⟩, ⟨hk.os.trans h.kept.os, hk.tape.trans h.kept.tape, hk.output.trans h.kept.output, Nat.le_trans hs hk.size, fun k hl hm => ?_⟩, boxed_kept h.box hg (fun r e => (hr r e).2), Nat.le_trans h.le hk.size⟩
  exact (hk.block k (by omega) (fun hy => by simp at hy; have := (hr k hy).1; omega)).trans (h.kept.block k hl hm)
end
theorem own_low {w : World} {B B' e size n : Nat} {v : Value} {xs : List Value} (h : w.ownsRow B e size v n xs) (hb : B' ≤ B) : w.ownsRow B' e size v n xs := by
  refine ⟨h.1, ?_⟩
  rcases h.2 with h3 | ⟨g, cap, cur, hv, hg, r⟩
  · exact .inl h3
  · exact .inr ⟨g, cap, cur, hv, by omega, r⟩
theorem setCell_cells {w : World} {cur : Array Value} {e : TypeId} {g : Nat} (u : Value) (h : w.heap[g]? = some (.cells cur e (0, 0))) {i : Nat} : (w.setCell ⟨g, i, none⟩ u).heap[g]? = some (.cells (cur.setIfInBounds i u) e (0, 0)) := by
  rw [setCell_eq_setRow w g i cur e (0, 0) u h]
  exact setRow_heap w g cur _ e _ h
theorem echA2 {w1 w' : World} {v' : Value} {l : List (It × Nat)} (ok : ∀ p ∈ l, okM p.1) (few : ∀ p ∈ l, p.2 < 1000000) (ho : w'.ownsRow (w1.alloc Zh).drew.heap.size 76 3 v' l.length (thCM l)) (hB1 : Below (w1.alloc Zh).drew.heap.size (w1.alloc Zh).drew w')
    (zb : w'.heap[w1.heap.size]? = some (.cells #[.nilFunc, .slice none 0 0, .int .i64 0] 70 (0, 0))) :
    HBM w1.heap.size (((w'.setCell ⟨w1.heap.size, 0, none⟩ (.func (.func 12) #[] #[])).setCell ⟨w1.heap.size, 1, none⟩ v').setCell ⟨w1.heap.size, 2, none⟩ (.int .i64 0)) w1.heap.size v' 0 l ∧ Below w1.heap.size w1 (((w'.setCell ⟨w1.heap.size, 0, none⟩ (.func (.func 12) #[] #[])).setCell ⟨w1.heap.size, 1, none⟩ v').setCell ⟨w1.heap.size, 2, none⟩ (.int .i64 0)) := by
  have B0 : Below w1.heap.size w1 (w1.alloc Zh).drew := by
    have := (Below.refl w1.heap.size w1).alloc (Nat.le_refl _) Zh
    exact ⟨this.os, this.tape, this.output, this.size, this.block⟩
  have sz : (w1.alloc Zh).drew.heap.size = w1.heap.size + 1 := by show (w1.alloc _).heap.size = _; simp
  rw [sz] at ho hB1
  have hne := own_ne (own_low ho (Nat.le_succ _)) zb (by decide)
  have e0 : (((w'.setCell ⟨w1.heap.size, 0, none⟩ (.func (.func 12) #[] #[])).setCell ⟨w1.heap.size, 1, none⟩ v').setCell ⟨w1.heap.size, 2, none⟩ (.int .i64 0)).heap[w1.heap.size]? = some (.cells #[.func (.func 12) #[] #[], v', .int .i64 0] 70 (0, 0)) := by
    have s0 := setCell_cells (w := w') (.func (.func 12) #[] #[]) zb (i := 0)
    have s1 := setCell_cells (w := (w'.setCell ⟨w1.heap.size, 0, none⟩ (.func (.func 12) #[] #[]))) v' s0 (i := 1)
    exact setCell_cells (.int .i64 0) s1 (i := 2)
  refine ⟨⟨Nat.le_refl _, e0, ?_, ok, few, by omega⟩, ?_⟩
  · have K3 : Kept [w1.heap.size] w' (((w'.setCell ⟨w1.heap.size, 0, none⟩ (.func (.func 12) #[] #[])).setCell ⟨w1.heap.size, 1, none⟩ v').setCell ⟨w1.heap.size, 2, none⟩ (.int .i64 0)) := (((Kept.refl _ _).set _ _ _ (by simp)).set _ _ _ (by simp)).set _ _ _ (by simp)
    exact K3.row (own_low ho (Nat.le_succ _)) (fun g hg hm => hne (by simp at hm; rw [hg, hm]))
  · exact (((B0.trans (hB1.mono (Nat.le_succ _))).setCell (Nat.le_refl _) _).setCell (Nat.le_refl _) _).setCell (Nat.le_refl _) _
theorem echB2 {w1 w' : World} {v' : Value} {l : List (It × Nat)} (ok : ∀ p ∈ l, okM p.1) (few : ∀ p ∈ l, p.2 < 1000000) (ho : w'.ownsRow w1.drew.heap.size 76 3 v' l.length (thCM l)) (hB1 : Below w1.drew.heap.size w1.drew w') :
    HBM w1.heap.size (w'.alloc (.cells #[.func (.func 12) #[] #[], v', .int .i64 0] 70)) w'.heap.size v' 0 l ∧ Below w1.heap.size w1 (w'.alloc (.cells #[.func (.func 12) #[] #[], v', .int .i64 0] 70)) := by
  have hs : w1.heap.size ≤ w'.heap.size := hB1.size
  have B1 : Below w1.heap.size w1 w' := (below_drew w1).trans hB1
  refine ⟨⟨hs, heap_alloc_new _ _, ?_, ok, few, by omega⟩, B1.alloc hs _⟩
  exact (Kept.of [] ((Below.refl _ _).alloc (Nat.le_refl _) _)).row (show w'.ownsRow w1.heap.size _ _ _ _ _ from ho) (by simp)
set_option maxRecDepth 100000 in
set_option maxHeartbeats 8000000 in
theorem each_any {B Bs b bs c : Nat} {X Z : List Nat} {L : List It} (w : World) (h : HsM B w b X c L) (hS : SeenB Bs w bs Z []) (hd : ∀ k ∈ Z, k ∉ X) (hB : Bs ≤ w.heap.size) (hL : L.length ≤ 10000) :
    Calls Try.prog 16 #[.pointer (some ⟨b, 0, none⟩), .func (.func 17) #[.pointer (some ⟨bs, 0, none⟩)] #[]] w (SeeP Bs bs Z L w) := by
  obtain ⟨⟨v, l, h1, rfl, h2⟩, h3⟩ := h
  have hlen := h2.length
  have CL := Lib.hid (fun W (hW : Below w.heap.size w W) => clone_any W (h1.later hW).row (by rw [hlen]; omega))
  have A1 : Below w.heap.size w (w.alloc (.cells #[.func (.func 17) #[.pointer (some ⟨bs, 0, none⟩)] #[]] 32)) := (Below.refl _ _).alloc (Nat.le_refl _) _
  have hbl := h1.lt
  have c0 := (h1.later A1).c0
  have c1 := (h1.later A1).c1
  have HA := Lib.hid A1
  clear A1
  refine (callsIn_wide (n := 9)).1 ?_
  refine callsIn_of_wp_marks Try.func16 rfl trivial ?_ rfl
  simp only [Try.ntmps16, List.size_toArray, List.length_cons, List.length_nil, Nat.reduceAdd, Nat.reduceSub, Array.replicate_succ, Array.replicate_zero, List.push_toArray, List.append_toArray, List.nil_append, List.cons_append]
  refine wpIn_wide.2 ?_
  go_upto_region 2 with (fail)
  generalize hw1 : w.alloc (.cells #[.func (.func 17) #[.pointer (some ⟨bs, 0, none⟩)] #[]] 32) = w1 at *
  have hbl1 : b < w1.heap.size := Nat.lt_of_lt_of_le hbl HA.out.size
  have hok := Lib.hid h1.ok
  have hfew := Lib.hid h1.few
  go_cut [4] from 8 to 17 (fun s4 wc => ∃ bb v', s4 = .pointer (some ⟨bb, 0, none⟩) ∧ HBM w1.heap.size wc bb v' 0 l ∧ Below w1.heap.size w1 wc)
  case first =>
   refine wp_region_noPanic ?_
   have BA : Below w1.heap.size w1 (w1.alloc (.cells #[.nilFunc, .slice none 0 0, .int .i64 0] 70)) := (Below.refl _ _).alloc (Nat.le_refl _) _
   have BA2 : Below w.heap.size w (w1.alloc (.cells #[.nilFunc, .slice none 0 0, .int .i64 0] 70)).drew := ⟨(HA.out.trans (BA.mono HA.out.size)).os, (HA.out.trans (BA.mono HA.out.size)).tape, (HA.out.trans (BA.mono HA.out.size)).output, (HA.out.trans (BA.mono HA.out.size)).size, (HA.out.trans (BA.mono HA.out.size)).block⟩
   have BB2 : Below w.heap.size w w1.drew := ⟨HA.out.os, HA.out.tape, HA.out.output, HA.out.size, HA.out.block⟩
   have CLA := Lib.hid (CL.out _ BA2)
   have CLB := Lib.hid (CL.out _ BB2)
   have C0 := Lib.hid c0
   have C1 := Lib.hid c1
   have hs1 := HA.out.size
   clear CL BA
   go_region_with (first
     | (go_at_call 35; (with_reducible refine CLA.out.mono ?_); go_loud (rintro e w' ⟨v', rfl, ho, hB1⟩; obtain ⟨A', cap', rfl, -, -⟩ := own_len ho; obtain ⟨zb, z0, z1, z2, zf0, zf1, zf2, d0⟩ := echA hbl1 C0.out hB1; have hEnd := Lib.hid (And.intro ho (And.intro hB1 zb)); clear ho hB1 zb))
     | (go_at_call 35; (with_reducible refine CLB.out.mono ?_); go_loud (rintro e w' ⟨v', rfl, ho, hB1⟩; obtain ⟨A', cap', rfl, -, -⟩ := own_len ho; have d0 := (hB1.cell (p := ⟨b, 0, none⟩) hbl1).trans C0.out; have hEnd := Lib.hid (And.intro ho hB1); have hbl2 : b < w'.heap.size := Nat.lt_of_lt_of_le hbl1 hB1.size; clear ho hB1)))
   all_goals
     refine NoPanic.normal ?_
     go_wp2_with fail
     go_meet
     case rel =>
       first
         | exact ⟨_, _, rfl, echA2 hok.out hfew.out (by simpa only [hlen] using hEnd.out.1) hEnd.out.2.1 hEnd.out.2.2⟩
         | exact ⟨_, _, rfl, echB2 hok.out hfew.out (by simpa only [hlen] using hEnd.out.1) hEnd.out.2⟩
  case rest =>
    obtain ⟨bb, v', rfl, hH, hB2⟩ := hcut
    have hbb := hH.hB
    have hOwn : HoM w1.heap.size wc bb (blk bb v') 0 c L := ⟨⟨v', l, hH, rfl, h2⟩, by omega⟩
    have hs1 := HA.out.size
    have hBw : Below w.heap.size w wc := HA.out.trans (hB2.mono hs1)
    have hlt1 : w.heap.size < w1.heap.size := by rw [← hw1]; simp
    have hdo : Boxed wc w.heap.size 32 (.func (.func 17) #[.pointer (some ⟨bs, 0, none⟩)] #[]) := (hB2.block _ hlt1).trans (by rw [← hw1]; exact Boxed.new _ _ _)
    have hSc := hS.later hBw
    have hge := hOwn.ge
    clear hH
    have hZl := fun k hk => (hS.bound k hk).2
    have hsc := hBw.size
    have hwc := hB2.size
    have hXl : ∀ k ∈ blk bb v', w.heap.size < k ∧ k < wc.heap.size := fun k hk => by have := hge k hk; omega
    have hdB : Hid (wc.heap.size ∉ blk bb v') := Lib.hid (fun hm => by have := hXl _ hm; omega)
    apply_assumption
    refine (wpIn_wide (n := 9)).1 ?_
    gi_wp2_with (refine ⟨trivial, ?_⟩; gi_at_call 34; refine (callsIn_wide.2 (drain_anyM _ _)).mono ?_; rintro e w4 ⟨rfl, hw4⟩)
    have b4 : Below wc.heap.size wc w4 := by rw [hw4]; exact (Below.refl _ _).alloc (Nat.le_refl _) _
    have s4 : w4.heap.size = wc.heap.size + 1 := by rw [hw4]; simp
    have H4 : DHo w1.heap.size bb 0 c wc.heap.size (blk bb v') L w4 := ⟨hOwn.later b4, by rw [hw4]; exact Boxed.new _ _ _⟩
    have I4 : EchI w Bs bs w4.heap.size Z (.func (.func 17) #[.pointer (some ⟨bs, 0, none⟩)] #[]) [] w4 :=
      ⟨⟨Z, hSc.later b4, fun k hk => .inl hk⟩, Kept.of Z (hBw.trans (b4.mono hsc)), (b4.block _ hdo.lt).trans hdo, Nat.le_refl _⟩
    rw [← hw4]
    clear hw4 hw1
    refine rangeD valM (gf := 44) (lb := #[.pointer (some ⟨wc.heap.size, 0, none⟩)]) rfl (enters_of Try.func44 (by kernel_rfl) rfl)
      (drain_seqO L (9 - 1) (by omega) hdB.out) rfl H4 (fun r W W' h hs => h.same hs)
      (fun k hk => by rcases List.mem_cons.1 hk with rfl | hk; omega; have := hXl k hk; omega)
      (EchI w Bs bs w4.heap.size Z (.func (.func 17) #[.pointer (some ⟨bs, 0, none⟩)] #[])) (fun _ _ _ => False)
      ?own (fun _ _ _ _ _ h _ _ => h) ?IY (fun _ _ _ _ h _ => h) I4
      (fun x a' V => ∃ bi, a' = { tmps := #[.pointer (some ⟨b, 0, none⟩), .func (.func 17) #[.pointer (some ⟨bs, 0, none⟩)] #[], undef, .pointer (some ⟨w.heap.size, 0, none⟩), .pointer (some ⟨bb, 0, none⟩), .pointer (some ⟨bi, 0, none⟩), .pointer (some ⟨b, 0, none⟩), .bool false, u8, u9, u10, u11, u12, u13, u14, u15, u16, u17, .func (.func 44) #[] #[.pointer (some ⟨wc.heap.size, 0, none⟩)], .agg #[.int .i64 x.k, .int .i64 x.w], undef, undef, undef], defers := [] } ∧ V.heap[bi]? = some (.cells #[.int .i64 x.k, .int .i64 x.w] 31 (0, 0)))
      ?Ax ?assign ?body ?done ?stop
    case own => exact EchI.own (by omega)
    case IY =>
      rintro pre W1 W2 h hk
      refine h.keptY hk (fun k hk => ?_) hZl
      rcases List.mem_cons.1 hk with rfl | hk
      · omega
      · have := hXl k hk; omega
    case Ax =>
      rintro x a' _ X Y row ⟨bi, h, hb⟩ hg hr
      exact ⟨bi, h, (grownBy_keeps_cells hg (fun r e => (hr r e).2) hb rfl).trans hb⟩
    case assign =>
      intro l2 pre x V K hI hK
      simp only [valM]
      gi_wp2
      have bV : Below V.heap.size V (V.alloc (.cells #[.int .i64 x.k, .int .i64 x.w] 31)) := (Below.refl _ _).alloc (Nat.le_refl _) _
      refine hK _ _ ⟨by simp, fun k o hB hk ho => (bV.block k (Array.getElem?_eq_some_iff.1 hk).1).trans hk⟩ (fun k hk => bV.block k ?_) ((EchI.own (by omega)).alloc _ hI) ⟨_, rfl, heap_alloc_new _ _⟩
      have hle := hI.le
      rcases List.mem_cons.1 hk with rfl | hk
      · omega
      · have := hXl k hk; omega
    case body =>
      rintro l2 pre x r a' V hI ⟨bi, rfl, hb⟩ hL
      have c9 := hI.box.cell
      have i0 := cell_of_row V bi 0 _ _ _ hb
      have i1 := cell_of_row V bi 1 _ _ _ hb
      simp at i0 i1
      obtain ⟨Z', hs1', hz⟩ := hI.ex
      have hpl : pre.length ≤ 100000 := by have := congrArg List.length hL; simp at this; omega
      have hsV := hI.kept.size
      have SE := Lib.hid (see_any x V hs1' hpl (by omega))
      have HI := Lib.hid hI
      have hle := Lib.hid hI.le
      have HZ := Lib.hid hz
      have HS := Lib.hid hs1'
      have hn : 1 ≤ 9 - 1 - 1 := by omega
      clear hI hz hs1' hL H4 I4
      gi_wp2_with (refine ⟨trivial, ?_⟩; gi_at_call 17; refine (CallsIn.inRound l2 (callsIn_wide.2 SE.out)).mono ?_; rintro e w5 ⟨rfl, Z2, hs2, hk2, hz2⟩)
      have hk5 := HI.out.kept
      have hle2 := hle.out
      refine ⟨(HS.out.others hk2).from _, fun k hk => hk2.block k ?_ ?_, ⟨Z2, hs2, fun k hk => ?_⟩, ⟨hk2.os.trans hk5.os, hk2.tape.trans hk5.tape, hk2.output.trans hk5.output, Nat.le_trans hsV hk2.size, fun k hl hm => ?_⟩, ?_, Nat.le_trans hle2 hk2.size⟩
      · rcases List.mem_cons.1 hk with rfl | hk
        · omega
        · have := hXl k hk; omega
      · intro hm
        rcases List.mem_cons.1 hk with rfl | hk
        · rcases HZ.out _ hm with h | h
          · have := hZl _ h; omega
          · omega
        · have := hXl k hk
          rcases HZ.out _ hm with h | h
          · have := hZl _ h; omega
          · omega
      · rcases hz2 k hk with h | h
        · exact HZ.out k h
        · exact .inr (by omega)
      · refine (hk2.block k (by omega) (fun hm2 => ?_)).trans (hk5.block k hl hm)
        rcases HZ.out k hm2 with h | h
        · exact hm h
        · omega
      · refine (hk2.block _ HI.out.box.lt (fun hm2 => ?_)).trans HI.out.box
        rcases HZ.out _ hm2 with h | h
        · have := hZl _ h; omega
        · omega
    case done =>
      rintro D V hD hI hH0 hK
      obtain ⟨Z', hs1', hz⟩ := hI.ex
      have hle := hI.le
      have hkZ : Kept Z w (V.putObj D (.deferred none)) := ⟨hI.kept.os, hI.kept.tape, hI.kept.output, by simpa using hI.kept.size, fun k hl hm => (World.putObj_heap_other (by omega)).trans (hI.kept.block k hl hm)⟩
      have hsF : SeenB Bs (V.putObj D (.deferred none)) bs Z' L := hs1'.own (grownBy_putObj' V D _) (fun r e => by cases e; exact ⟨_, hK, rfl⟩)
      refine ⟨by simp, .inl ⟨_, _, rfl, run_takeDeferred hK, ?_⟩⟩
      refine ⟨.tuple #[], by simp [results, Try.f16, go_sem], rfl, Z', hsF, hkZ, fun k hk => ?_⟩
      rcases hz k hk with h | h
      · exact .inl h
      · exact .inr (by omega)
    case stop =>
      rintro D c pre x r V hD hL h _ hK
      exact h.elim
end Go.Proofs.Ytebbpgokhelmdaa
