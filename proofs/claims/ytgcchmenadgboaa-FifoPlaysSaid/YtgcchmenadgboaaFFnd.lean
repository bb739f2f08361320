/- The first even number. -/
import Derived.Test.YtgcchmenadgboaaFM
namespace Go.Proofs.Ytgcchmenadgboaa
open Go.RowKit Go.Shelf
set_option linter.unusedVariables false
set_option linter.unusedSimpArgs false
attribute [local go_sem] Oper.semAt_some
def ev (x : Int) : Bool := x.tmod 2 == 0
section
attribute [local go_sem ↓] Go.wp_at_zero Go.wp_at_succ
set_option maxHeartbeats 1000000 in
theorem even_any (x : Int) (w : World) : Calls Try.prog 28 #[.int .i64 x] w fun e w' => e = .returned (.bool (ev x)) ∧ w = w' := by
  unfold ev
  go_enter Try.func28, Try.ntmps28
  go_wp2
  go_ret
  exact ⟨rfl, rfl⟩
end
def fv (L : List Int) : Int := (L.find? ev).getD 0
def fb (L : List Int) : Bool := (L.find? ev).isSome
theorem find_split {L : List Int} {pre r : List (Int × Nat)} {x : Int × Nat} (h : prs L = pre ++ x :: r) (hp : ∀ p ∈ pre, ev p.1 = false) (hx : ev x.1 = true) : L.find? ev = some x.1 := by
  have e : L = pre.map Prod.fst ++ x.1 :: r.map Prod.fst := by
    have := congrArg (List.map Prod.fst) h
    rw [prs, List.map_append, List.map_cons] at this
    rwa [show L.zipIdx.map Prod.fst = L by simp] at this
  rw [e, List.find?_append]
  have : (pre.map Prod.fst).find? ev = none := by
    rw [List.find?_eq_none]
    intro y hy
    obtain ⟨p, hp1, rfl⟩ := List.mem_map.1 hy
    simp [hp p hp1]
  rw [this]
  simp [hx]
theorem find_none {L : List Int} (hp : ∀ p ∈ prs L, ev p.1 = false) : L.find? ev = none := by
  rw [List.find?_eq_none]
  intro y hy
  obtain ⟨i, hi⟩ := List.getElem?_of_mem hy
  have : (y, i) ∈ prs L := by
    rw [prs_get hi]; simp
  simpa using hp _ this
theorem boxed_other' {W : World} {b c : Nat} {t : TypeId} {v u : Value} (h : Boxed W b t v) (hne : b ≠ c) : Boxed (W.setCell ⟨c, 0, none⟩ u) b t v := (Below.heap_setCell W ⟨c, 0, none⟩ u b hne).trans h
def FindP (L : List Int) (w : World) (e : Ending) (w' : World) : Prop := e = .returned (.tuple #[.int .i64 (fv L), .bool (fb L)]) ∧ Below w.heap.size w w'
set_option maxRecDepth 100000 in
set_option maxHeartbeats 4000000 in
theorem find_even {b : Nat} {L : List Int} (w : World) (hl : L.length ≤ 1000000) (TH : ∀ W, Below w.heap.size w W → Calls Try.prog 25 #[.pointer (some ⟨b, 0, none⟩)] W (RowPI W W.heap.size L.length L)) :
    Calls Try.prog 27 #[.pointer (some ⟨b, 0, none⟩), .func (.func 28) #[] #[]] w (FindP L w) := by
  have HT := Lib.hid TH
  have EV := Lib.hid even_any
  clear TH
  refine (callsIn_wide (n := 9)).1 ?_
  refine callsIn_of_wp_marks Try.func27 rfl trivial ?_ rfl
  simp only [Try.ntmps27, List.size_toArray, List.length_cons, List.length_nil, Nat.reduceAdd, Nat.reduceSub, Array.replicate_succ, Array.replicate_zero, List.push_toArray, List.append_toArray, List.nil_append, List.cons_append]
  gi_wp2_with (refine ⟨trivial, ?_⟩; gi_at_call 22; refine (callsIn_wide.2 (all_any _ _)).mono ?_; rintro e w4 ⟨rfl, rfl⟩)
  obtain ⟨W, hW, X3, X4, X5, X6, BW⟩ : ∃ W, (((w.alloc (.cells #[.func (.func 28) #[] #[]] 52)).alloc (.cells #[.int .i64 0] 3)).alloc (.cells #[.bool false] 4)).alloc (.cells #[.pointer (some ⟨b, 0, none⟩)] 24) = W ∧
      Boxed W w.heap.size 52 (.func (.func 28) #[] #[]) ∧ Boxed W (w.heap.size + 1) 3 (.int .i64 0) ∧ Boxed W (w.heap.size + 1 + 1) 4 (.bool false) ∧ Boxed W (w.heap.size + 1 + 1 + 1) 24 (.pointer (some ⟨b, 0, none⟩)) ∧ Below w.heap.size w W := by
    have n1 := Boxed.new (w.alloc (.cells #[.func (.func 28) #[] #[]] 52)) 3 (.int .i64 0)
    have n2 := Boxed.new ((w.alloc (.cells #[.func (.func 28) #[] #[]] 52)).alloc (.cells #[.int .i64 0] 3)) 4 (.bool false)
    have n3 := Boxed.new (((w.alloc (.cells #[.func (.func 28) #[] #[]] 52)).alloc (.cells #[.int .i64 0] 3)).alloc (.cells #[.bool false] 4)) 24 (.pointer (some ⟨b, 0, none⟩))
    simp only [World.size_alloc] at n1 n2 n3
    exact ⟨_, rfl, Boxed.alloc (Boxed.alloc (Boxed.alloc (Boxed.new _ _ _) _) _) _, Boxed.alloc (Boxed.alloc n1 _) _, Boxed.alloc n2 _, n3, ((((Below.refl _ w).alloc (Nat.le_refl _) _).alloc (by simp) _).alloc (by simp; omega) _).alloc (by simp; omega) _⟩
  simp only [hW]
  have hs := X6.lt
  have hw := BW.size
  clear hW
  refine wpIn_named fun fr hfr => ?_
  refine rangeA (vals := fun x : Int × Nat => #[.int .i64 (x.2 : Int), .int .i64 x.1]) (gf := 33) (lb := #[.pointer (some ⟨w.heap.size + 1 + 1 + 1, 0, none⟩)]) (by rw [hfr]; rfl) (enters_of Try.func33 (by kernel_rfl) rfl)
    (all_seq (9 - 1) (by omega) _ _ [] L W hl X6 (fun V hV => HT.out V (BW.trans (hV.mono hw))) (by simp)) (Below.refl _ _) (fun x => rfl)
    (fun pre V => (Boxed V w.heap.size 52 (.func (.func 28) #[] #[]) ∧ Boxed V (w.heap.size + 1) 3 (.int .i64 0) ∧ Boxed V (w.heap.size + 1 + 1) 4 (.bool false)) ∧ Below w.heap.size w V ∧ ∀ p ∈ pre, ev p.1 = false)
    (fun c pre V => ∃ x, (Boxed V (w.heap.size + 1) 3 (.int .i64 x) ∧ Boxed V (w.heap.size + 1 + 1) 4 (.bool true)) ∧ Below w.heap.size w V ∧ c = .ret ∧ L.find? ev = some x)
    (fun pre X Y row h hg hr => ⟨⟨boxed_kept h.1.1 hg (fun r e => (hr r e).2), boxed_kept h.1.2.1 hg (fun r e => (hr r e).2), boxed_kept h.1.2.2 hg (fun r e => (hr r e).2)⟩, h.2.1.grown hg h.2.1.size (fun k e => by have := (hr k e).1; omega), h.2.2⟩)
    (fun c pre X Y row h hg hr => by
      obtain ⟨x, h1, h2, h3⟩ := h
      exact ⟨x, ⟨boxed_kept h1.1 hg (fun r e => (hr r e).2), boxed_kept h1.2 hg (fun r e => (hr r e).2)⟩, h2.grown hg h2.size (fun k e => by have := (hr k e).1; omega), h3⟩)
    ⟨⟨X3, X4, X5⟩, BW, by simp⟩
    (fun x => { tmps := ((fr.tmps.setIfInBounds 11 (.int .i64 (x.2 : Int))).setIfInBounds 12 (.int .i64 x.1)).setIfInBounds 7 (.int .i64 x.1), defers := [] })
    ?assign ?body ?done ?stop
  case assign =>
    intro l2 x V K hK
    subst hfr
    gi_wp2
    exact hK
  case body =>
    rintro l2 pre ⟨x, i⟩ r V ⟨⟨x3, x4, x5⟩, hB, hp⟩ hL
    subst hfr
    have c3 := x3.cell
    have c4 := x4.cell
    have f4 := x4.frozen
    have c5 := x5.cell
    have f5 := x5.frozen
    simp only [List.setIfInBounds_toArray, List.set_cons_succ, List.set_cons_zero]
    have EV2 := Lib.hid (fun W => EV.out x W)
    have HX4 := Lib.hid x4
    have HX5 := Lib.hid x5
    have HX3 := Lib.hid x3
    have HB := Lib.hid hB
    have HF := Lib.hid (fun hx : ev x = true => find_split hL hp hx)
    have HP := Lib.hid hp
    have hn : 1 ≤ 9 - 1 - 1 := by omega
    clear x3 x4 x5 hB hL hp
    cases he : ev x with
    | true =>
      rw [he] at EV2
      gi_wp2_with (refine ⟨trivial, ?_⟩; gi_at_call 28; refine (CallsIn.inRound l2 (callsIn_wide.2 (EV2.out _))).mono ?_; rintro e w' ⟨rfl, rfl⟩)
      refine ⟨((KeepsOthers.setCell _ _ _).trans (KeepsOthers.setCell _ _ _)).from _, x, ⟨?_, ?_⟩, ?_, rfl, HF.out he⟩
      · exact boxed_other' (Boxed.set _ HX4.out) (by omega)
      · exact Boxed.set _ (boxed_other' HX5.out (by omega))
      · exact (HB.out.setCell (p := ⟨w.heap.size + 1, 0, none⟩) (by simp) _).setCell (p := ⟨w.heap.size + 1 + 1, 0, none⟩) (by simp; omega) _
    | false =>
      rw [he] at EV2
      gi_wp2_with (refine ⟨trivial, ?_⟩; gi_at_call 28; refine (CallsIn.inRound l2 (callsIn_wide.2 (EV2.out _))).mono ?_; rintro e w' ⟨rfl, rfl⟩)
      refine ⟨KeepsFrom.refl _ _, KeepC.refl _ _, ⟨HX3.out, HX4.out, HX5.out⟩, HB.out, ?_⟩
      intro p hm
      rcases List.mem_append.1 hm with hm | hm
      · exact HP.out p hm
      · simp at hm; subst hm; exact he
  case done =>
    rintro D V hD ⟨⟨x3, x4, x5⟩, hB, hp⟩ hK
    subst hfr
    have c4 := x4.cell
    have f4 := x4.frozen
    have c5 := x5.cell
    have f5 := x5.frozen
    have hfn := find_none hp
    gi_wp2
    have hb4 := boxed_other' (Boxed.set (.int .i64 0) x4) (show w.heap.size + 1 ≠ w.heap.size + 1 + 1 by omega) (u := .bool false)
    have hb5 := Boxed.set (.bool false) (boxed_other' x5 (show w.heap.size + 1 + 1 ≠ w.heap.size + 1 by omega) (u := .int .i64 0))
    have hB9 := (hB.setCell (p := ⟨w.heap.size + 1, 0, none⟩) (by simp) (.int .i64 0)).setCell (p := ⟨w.heap.size + 1 + 1, 0, none⟩) (by simp; omega) (.bool false)
    have hK9 : ((V.setCell ⟨w.heap.size + 1, 0, none⟩ (.int .i64 0)).setCell ⟨w.heap.size + 1 + 1, 0, none⟩ (.bool false)).heap[D]? = some (.deferred (some [])) := by
      rw [Below.heap_setCell _ _ _ _ (by simp; omega), Below.heap_setCell _ _ _ _ (by simp; omega)]
      exact hK
    generalize (V.setCell ⟨w.heap.size + 1, 0, none⟩ (.int .i64 0)).setCell ⟨w.heap.size + 1 + 1, 0, none⟩ (.bool false) = V9 at *
    refine ⟨by simp, .inl ⟨_, _, rfl, run_takeDeferred hK9, ?_⟩⟩
    have hc4 : (V9.putObj D (.deferred none)).cell? ⟨w.heap.size + 1, 0, none⟩ = some (.int .i64 0) := by
      rw [← hb4.cell]; simp [World.cell?, World.putObj_heap_other (show w.heap.size + 1 ≠ D by omega)]
    have hc5 : (V9.putObj D (.deferred none)).cell? ⟨w.heap.size + 1 + 1, 0, none⟩ = some (.bool false) := by
      rw [← hb5.cell]; simp [World.cell?, World.putObj_heap_other (show w.heap.size + 1 + 1 ≠ D by omega)]
    refine ⟨.tuple #[.int .i64 0, .bool false], by simp [results, Try.f27, go_sem, hc4, hc5], ?_, hB9.trans (belowK_b (w := w) (Nat.le_refl _) V9 D _ _ (by omega) hK9 rfl rfl)⟩
    simp [fv, fb, hfn]
  case stop =>
    rintro D c pre x r V hD hL ⟨y, ⟨x4, x5⟩, hB, rfl, hfn⟩ hK
    subst hfr
    gi_wp2
    refine ⟨by simp, .inl ⟨_, _, rfl, run_takeDeferred hK, ?_⟩⟩
    have hc4 : (V.putObj D (.deferred none)).cell? ⟨w.heap.size + 1, 0, none⟩ = some (.int .i64 y) := by
      rw [← x4.cell]; simp [World.cell?, World.putObj_heap_other (show w.heap.size + 1 ≠ D by omega)]
    have hc5 : (V.putObj D (.deferred none)).cell? ⟨w.heap.size + 1 + 1, 0, none⟩ = some (.bool true) := by
      rw [← x5.cell]; simp [World.cell?, World.putObj_heap_other (show w.heap.size + 1 + 1 ≠ D by omega)]
    refine ⟨.tuple #[.int .i64 y, .bool true], by simp [results, Try.f27, go_sem, hc4, hc5], ?_, hB.trans (belowK_b (w := w) (Nat.le_refl _) V D _ _ (by omega) hK rfl rfl)⟩
    simp [fv, fb, hfn]
end Go.Proofs.Ytgcchmenadgboaa
