/- A set looks as the document's own one does. -/
import Derived.Test.YthmngibmpkgjkaaDoorAsked
import Derived.Test.YthmngibmpkgjkaaDoorEq
namespace Go.Proofs.YthmngibmpkgjkaaDoor
open Go.RowKit Go.Shelf
set_option linter.unusedVariables false
set_option linter.unusedSimpArgs false
attribute [local go_sem] Oper.semAt_some

/-- A slice that reads as the numbers l. -/
structure Reads (A : Option Addr) (cap : Nat) (l : List Nat) (W : World) : Prop where
  le : l.length ≤ cap
  mx : cap ≤ maxLen
  at' : ∀ i, i < l.length → ∃ x, A = some x ∧ W.cell? (x.add i) = some (.int .i64 ((l.getD i 0 : Nat) : Int))
theorem reads_of {W : World} {v : Value} {l : List Nat} (h : Nums W v (iList l)) : ∃ A cap, v = .slice A l.length cap ∧ Reads A cap l W := by
  rcases h with ⟨rfl, hl⟩ | ⟨x, cap, rfl, hle, hmax, hc⟩
  · have hl0 : l = [] := by simpa [iList] using hl
    subst hl0
    exact ⟨none, 0, rfl, Nat.le_refl _, by unfold maxLen; omega, fun i hi => absurd hi (by simp)⟩
  · rw [iList_length] at hle hc ⊢
    refine ⟨some x, cap, rfl, hle, hmax, fun i hi => ⟨x, rfl, ?_⟩⟩
    rw [hc i hi]
    simp [iList, List.getD_eq_getElem?_getD, hi]
theorem Reads.later {A : Option Addr} {cap : Nat} {l : List Nat} {W W' : World} (h : Reads A cap l W) (hb : Below W.heap.size W W') : Reads A cap l W' :=
  ⟨h.le, h.mx, fun i hi => by
    obtain ⟨x, e, hc⟩ := h.at' i hi
    exact ⟨x, e, by rw [hb.cell (World.block_lt_of_cell? W _ hc)]; exact hc⟩⟩
theorem Reads.kept {A : Option Addr} {cap : Nat} {l : List Nat} {W W' : World} {row : Option Nat} (h : Reads A cap l W) (hg : W.grownBy W' row) (hr : ∀ r, row = some r → ∃ o : Obj, W.heap[r]? = some o ∧ o.isCells = false) : Reads A cap l W' :=
  ⟨h.le, h.mx, fun i hi => by
    obtain ⟨x, e, hc⟩ := h.at' i hi
    exact ⟨x, e, cell_kept hc hg hr⟩⟩
theorem Reads.ahead {A : Option Addr} {cap : Nat} {l : List Nat} {W : World} (h : Reads A cap l W) (h0 : 0 < l.length) : ∀ x, A = some x → x.block < W.heap.size := fun x e => by
  obtain ⟨y, e2, hc⟩ := h.at' 0 h0
  rw [e] at e2
  cases e2
  exact World.block_lt_of_cell? W _ hc
theorem Reads.set {A : Option Addr} {cap : Nat} {l : List Nat} {W : World} (h : Reads A cap l W) (b : Nat) (v : Value) (hb : 0 < l.length → ∀ x, A = some x → x.block < b) : Reads A cap l (W.setCell ⟨b, 0, none⟩ v) :=
  ⟨h.le, h.mx, fun i hi => by
    obtain ⟨x, e, hc⟩ := h.at' i hi
    refine ⟨x, e, ?_⟩
    rw [World.cell?_setCell_other _ _ _ _ (by
      intro e2
      have e3 := congrArg Addr.block e2
      have := hb (by omega) x e
      have e4 : (x.add i).block = x.block := by unfold Addr.add; split <;> rfl
      rw [e4] at e3
      have e5 : b = x.block := e3
      omega)]
    exact hc⟩

/-- What the worlds of the first test hold. -/
def LC (w : World) (b2 b4 b5 r : Nat) (A : Option Addr) (cap : Nat) (l : List Nat) (f : Nat → Bool) (W : World) : Prop :=
  W.rangeAt b2 0 (cellsL f) ∧ RBox W r f ∧ Boxed W b5 22 (.slice A l.length cap) ∧ Boxed W b4 4 (.bool false) ∧ Reads A cap l W ∧ KeptT w W
theorem lc_step {w : World} {b2 b4 b5 r : Nat} {A : Option Addr} {cap : Nat} {l : List Nat} {f : Nat → Bool} (W W' : World) (h : LC w b2 b4 b5 r A cap l f W) (hb : Below W.heap.size W W') : LC w b2 b4 b5 r A cap l f W' :=
  ⟨range_step h.1 hb, h.2.1.later hb, boxed_later h.2.2.1 hb, boxed_later h.2.2.2.1 hb, h.2.2.2.2.1.later hb, h.2.2.2.2.2.step hb⟩

/-- What stands between two rounds. -/
structure LI (l : List Nat) (A : Option Addr) (cap b4 b5 b7 : Nat) (pre : List Nat) (W : World) : Prop where
  pf : pre <+: l
  x4 : Boxed W b4 4 (.bool false)
  x5 : Boxed W b5 22 (.slice A l.length cap)
  rd : Reads A cap l W
  x7 : Boxed W b7 3 (.int .i64 (pre.length : Int))
theorem LI.own (l : List Nat) (A : Option Addr) (cap b4 b5 b7 : Nat) : Own (LI l A cap b4 b5 b7) := fun s X Y row hs hg hr =>
  ⟨hs.pf, boxed_kept hs.x4 hg hr, boxed_kept hs.x5 hg hr, hs.rd.kept hg hr, boxed_kept hs.x7 hg hr⟩
theorem ret_own (l : List Nat) (c : Code) : Own (fun (pre : List Nat) (_ : World) => c = .ret ∧ ¬ pre <+: l) := fun s X Y row hs hg hr => hs

set_option maxRecDepth 100000 in
set_option maxHeartbeats 4000000 in
theorem looks_any (f : Nat → Bool) (r : Nat) (w : World) (hT : Tab w) (hr : RBox w r f) :
    Calls Tryd.prog 13 #[setV f, .pointer (some ⟨r, 0, none⟩)] w fun e w' => e = .returned (.bool true) ∧ Below w.heap.size w w' := by
  have hpos := hT.pos
  have A0 := Lib.hid (fun w => all_any f w)
  have R0 := Lib.hid (fun w hr => rRow_any r f w hr)
  have W0 := Lib.hid (fun w hr => rWords_any r f w hr)
  have L0 := Lib.hid (fun w => len_any f w)
  rw [cnt_all f] at L0
  obtain ⟨Wa, hWa, B2, X4, Ka, Ra⟩ : ∃ Wa, (w.alloc (.cells (cellsL f).toArray 26)).alloc (.cells #[.bool false] 4) = Wa ∧ Box Wa w.heap.size f ∧ Boxed Wa (w.heap.size + 1) 4 (.bool false) ∧ KeptT w Wa ∧ RBox Wa r f :=
    ⟨_, rfl, (Box.new w f).alloc _, (by have := Boxed.new (w.alloc (.cells (cellsL f).toArray 26)) 4 (.bool false); rwa [World.size_alloc] at this), (KeptT.refl hT).step (((Below.refl _ _).alloc (Nat.le_refl _) _).alloc (by simp) _), (hr.alloc _).alloc _⟩
  clear hr
  refine (callsIn_wide (n := 3)).1 ?_
  refine callsIn_of_wp_marks Tryd.func13 rfl trivial ?_ rfl
  simp only [Tryd.ntmps13, List.size_toArray, List.length_cons, List.length_nil, Nat.reduceAdd, Nat.reduceSub, Array.replicate_succ, Array.replicate_zero, List.push_toArray, List.append_toArray, List.nil_append, List.cons_append]
  refine wpIn_wide.2 ?_
  go_upto_region 1 with fail
  clear hWa
  generalize hb2 : w.heap.size = b2 at B2 X4 ⊢
  go_upto_region 2 with (go_at_call 26; refine (R0.out _ Ra).mono ?_; rintro e w1 ⟨v5, rfl, hn, g1⟩; obtain ⟨A, cap, rfl, hrd⟩ := reads_of hn)
  generalize hl : nums f = l at *
  clear hn
  have B2a := B2.later g1
  have X4a := boxed_later X4 g1
  have K1 := Ka.step g1
  have R1 := Ra.later g1
  clear B2 X4 Ka Ra g1 R0
  obtain ⟨W1, hW1, C2, C4, C5, Cr, K2, R2⟩ : ∃ W1, w1.alloc (.cells #[.slice A l.length cap] 22) = W1 ∧ Box W1 b2 f ∧ Boxed W1 (b2 + 1) 4 (.bool false) ∧ Boxed W1 w1.heap.size 22 (.slice A l.length cap) ∧ Reads A cap l W1 ∧ KeptT w W1 ∧ RBox W1 r f :=
    ⟨_, rfl, B2a.alloc _, Boxed.alloc X4a _, Boxed.new _ _ _, hrd.later ((Below.refl _ _).alloc (Nat.le_refl _) _), K1.step ((Below.refl _ _).alloc (Nat.le_refl _) _), R1.alloc _⟩
  go_upto_region 2 with fail
  try rw [hW1]
  clear hW1 B2a X4a hrd K1 R1
  generalize w1.heap.size = b5 at *
  go_upto_region 3 with (first
    | ((with_reducible show wpList _ _ _ (⟨some 11, _, _, _, _, _⟩ :: _) _ _); refine wpList_load_mid rfl 26 _ rfl _ _ rfl _ _ C2.range Tryd.underlying26 rfl (info26 _) ?_)
    | (go_at_call 23; refine (A0.out _).mono ?_; rintro e w' ⟨rfl, rfl⟩))
  obtain ⟨W2, hW2, D2, D4, D5, Dr, K3, R3, Dn⟩ : ∃ W2, W1.alloc (.cells (cellsL f).toArray 26) = W2 ∧ Box W2 b2 f ∧ Boxed W2 (b2 + 1) 4 (.bool false) ∧ Boxed W2 b5 22 (.slice A l.length cap) ∧ Reads A cap l W2 ∧ KeptT w W2 ∧ RBox W2 r f ∧ Box W2 W1.heap.size f :=
    ⟨_, rfl, C2.alloc _, Boxed.alloc C4 _, Boxed.alloc C5 _, Cr.later ((Below.refl _ _).alloc (Nat.le_refl _) _), K2.step ((Below.refl _ _).alloc (Nat.le_refl _) _), R2.alloc _, Box.new _ _⟩
  rw [hW2]
  have hn5 : b5 < W1.heap.size := Boxed.lt C5
  have hn2 : b2 + 1 < W1.heap.size := Boxed.lt C4
  have hw1 : w.heap.size ≤ W1.heap.size := K2.1.size
  clear hW2 C2 C4 C5 Cr K2 R2 A0
  generalize W1.heap.size = bn at *
  have hfn := run_eql_func_nil
  have hC0 : LC w b2 (b2 + 1) b5 r A cap l f W2 := ⟨D2.range, R3, D5, D4, Dr, K3⟩
  have hnb : W2.drew.heap[bn]? = some (.cells (cellsL f).toArray 26 (0, 0)) := Dn.is
  refine wp_region_quiet (C := fun W => LC w b2 (b2 + 1) b5 r A cap l f W ∧ Box W bn f) (by kernel_rfl) (by kernel_rfl) ⟨lc_step _ _ hC0 (below_drew _), Dn.later (below_drew _)⟩ ?_
  repeat (first
    | ((with_reducible show wpQuiet _ _ _ _ (⟨some 16, _, _, _, _, _⟩ :: _) _); refine wq_load _ b2 f (fun w h => h.1.1) (by rfl) rfl rfl ?_; (try simp only [Act.put, List.setIfInBounds_toArray, List.set_cons_zero, List.set_cons_succ]))
    | ((with_reducible show wpQuiet _ _ _ _ (⟨some 22, _, _, _, _, _⟩ :: _) _); refine wq_load _ b2 f (fun w h => h.1.1) (by rfl) rfl rfl ?_; (try simp only [Act.put, List.setIfInBounds_toArray, List.set_cons_zero, List.set_cons_succ]))
    | ((with_reducible show wpQuiet _ _ _ _ (⟨some 18, _, _, _, _, _⟩ :: _) _); refine wq_call (fun w h => W0.out w h.1.2.1) (fun w w' h hb => ⟨lc_step w w' h.1 hb, h.2.later hb⟩) (by rfl) (by intro w _; go_simp) ?_; (try simp only [Act.put, List.setIfInBounds_toArray, List.set_cons_zero, List.set_cons_succ]))
    | ((with_reducible show wpQuiet _ _ _ _ (⟨some 23, _, _, _, _, _⟩ :: _) _); refine wq_call (fun w _ => L0.out w) (fun w w' h hb => ⟨lc_step w w' h.1 hb, h.2.later hb⟩) (by rfl) (by intro w _; go_simp) ?_; (try simp only [Act.put, List.setIfInBounds_toArray, List.set_cons_zero, List.set_cons_succ]))
    | ((with_reducible show wpQuiet _ _ _ _ (⟨some 19, _, _, _, _, _⟩ :: _) _); refine wq_neq _ _ f (by rfl) rfl rfl rfl ?_; (try simp only [Act.put, List.setIfInBounds_toArray, List.set_cons_zero, List.set_cons_succ]))
    | (refine wq_val _ (by rfl) (by intro w hC; have q := Boxed.cell hC.1.2.2.1; go_simp; (try rfl)) ?_; (try simp only [Act.put, List.setIfInBounds_toArray, List.set_cons_zero, List.set_cons_succ])))
  refine wpQuiet_nil ?_
  intro W3 hW3
  obtain ⟨⟨-, -, E5, E4, Er, K4⟩, En⟩ := hW3
  clear hnb hC0 D2 D4 D5 Dr K3 R3 Dn W0 L0 hfn
  go_upto_block 0 with fail
  go_wp2
  have lw : w.heap.size ≤ W3.heap.size := K4.1.size
  have l4 : b2 + 1 < W3.heap.size := Boxed.lt E4
  have l5 : b5 < W3.heap.size := Boxed.lt E5
  have ln : bn < W3.heap.size := En.lt
  have hah := fun h0 => Er.ahead h0
  have h9 := (Below.refl W3.heap.size W3).alloc (Nat.le_refl _) (.cells #[.int .i64 0] 3)
  have z7 := Boxed.new W3 3 (.int .i64 0)
  generalize W3.alloc (.cells #[.int .i64 0] 3) = W4 at *
  have F5 := boxed_later E5 h9
  have F4 := boxed_later E4 h9
  have Fr := Er.later h9
  have Fn' := En.later h9
  have K5 := K4.step h9
  have s4 := h9.size
  clear E5 E4 Er En K4 h9
  generalize W3.heap.size = b7 at *
  generalize hb4 : b2 + 1 = b4 at *
  have hb4' : w.heap.size ≤ b4 := by omega
  have hS0 : LI l A cap b4 b5 b7 [] W4 := ⟨⟨l, rfl⟩, F4, F5, Fr, z7⟩
  clear F5 F4 Fr z7
  have hT4 := K5.2
  refine (wpIn_wide (n := 3)).1 ?_
  refine wpIn_rangeFunc_ownF rfl (by omega) (gf := 34) (lb := #[.pointer (some ⟨bn, 0, none⟩)]) rfl trivial (enters_of Tryd.func34 (by kernel_rfl) rfl)
    (all_stops 2 (by omega) f bn w.heap.size W4 Fn' hT4 hpos) Kp.t (Kp.b K5.1.size Fn'.lt) (Below.refl _ _) (fun _ => rfl)
    (fun pre W => LI l A cap b4 b5 b7 pre W ∧ Below w.heap.size w W)
    (fun c pre W => (c = .ret ∧ ¬ pre <+: l) ∧ Below w.heap.size w W)
    (OwnFrom.and (Own.from (LI.own l A cap b4 b5 b7) _) (ownFrom_below (Nat.le_refl _) K5.1.size))
    (fun c => OwnFrom.and (Own.from (ret_own l c) _) (ownFrom_below (Nat.le_refl _) K5.1.size))
    ⟨hS0, K5.1⟩
    (fun x => { tmps := #[setV f, .pointer (some ⟨r, 0, none⟩), .pointer (some ⟨b2, 0, none⟩), undef, .pointer (some ⟨b4, 0, none⟩), .pointer (some ⟨b5, 0, none⟩), .func (.func 34) #[] #[.pointer (some ⟨bn, 0, none⟩)], .pointer (some ⟨b7, 0, none⟩), .int .i64 (x : Int), .pointer (some ⟨r, 0, none⟩), .slice A l.length cap, setV f, .func (.func 34) #[] #[.pointer (some ⟨bn, 0, none⟩)], .func (.func 34) #[] #[.pointer (some ⟨bn, 0, none⟩)], .bool false, .bool false, setV f, .pointer (some ⟨r, 0, none⟩), setV f, .bool false, .bool false, .bool false, setV f, .int .i64 (l.length : Int), .slice A l.length cap, .int .i64 (l.length : Int), .bool false, .bool false, .func (.func 34) #[] #[.pointer (some ⟨bn, 0, none⟩)], .int .i64 (x : Int), undef, undef, undef, undef, undef, undef, undef, undef, undef, undef, undef, undef, undef, undef, undef, undef, undef, undef], defers := [] }) ?assign ?body ?done ?stop
  case assign =>
    intro l x W K hK
    gi_wp2
    exact hK
  case body =>
    rintro l0 pre x W ⟨hs, hB⟩ hlen
    have c7 := Boxed.cell hs.x7
    have f7 := Boxed.frozen hs.x7
    have c5 := Boxed.cell hs.x5
    have c4 := Boxed.cell hs.x4
    have f4 := Boxed.frozen hs.x4
    by_cases hlt : pre.length < l.length
    · obtain ⟨x0, hA, hc⟩ := hs.rd.at' pre.length hlt
      have hle := hs.rd.le
      have hmx := hs.rd.mx
      unfold maxLen at hmx
      have hge : decide ((pre.length : Int) ≥ (l.length : Int)) = false := by simp; omega
      have hi0 : (0 : Int) ≤ (pre.length : Int) := by omega
      have hi1 : (pre.length : Int) < (l.length : Int) := by omega
      have hp : ∃ t, l = pre ++ l.getD pre.length 0 :: t := by
        obtain ⟨t, rfl⟩ := hs.pf
        cases t with
        | nil => simp at hlt
        | cons a t => exact ⟨t, by simp [List.getD_eq_getElem?_getD]⟩
      obtain ⟨t, hp⟩ := hp
      have hno : x ≠ l.getD pre.length 0 → ¬ (pre ++ [x]) <+: l := by
        rintro hne ⟨t', e⟩
        rw [hp, List.append_assoc] at e
        have e2 := List.append_cancel_left e
        simp only [List.cons_append, List.nil_append, List.cons.injEq] at e2
        exact hne e2.1
      generalize l.getD pre.length 0 = z at *
      by_cases hxz : x = z
      · subst hxz
        have e1 : IntKind.i64.wrap ((pre.length : Int) + 1) = (pre.length : Int) + 1 := IntWalk.i64_in _ (by omega)
        have e2 : wrap64 ((pre.length : Int) + 1) = (pre.length : Int) + 1 := IntWalk.wrap64_in _ (by omega)
        have hN : LI l A cap b4 b5 b7 (pre ++ [x]) (W.setCell ⟨b7, 0, none⟩ (.int .i64 ((pre.length : Int) + 1))) :=
          ⟨⟨t, by rw [hp]; simp⟩, boxed_other hs.x4 (by omega), boxed_other hs.x5 (by omega), hs.rd.set b7 _ hah, by
            have e : (((pre ++ [x]).length : Nat) : Int) = (pre.length : Int) + 1 := by simp
            rw [e]; exact Boxed.set _ hs.x7⟩
        clear hs hno
        cases hA
        gi_wp2
        exact ⟨KeepsOthers.setCell _ _ _, ⟨(Below.refl _ _).setCell (p := ⟨b7, 0, none⟩) lw _, Below.heap_setCell _ _ _ bn (by simp; omega)⟩, hN, hB.setCell (p := ⟨b7, 0, none⟩) lw _⟩
      · have hx : ((x : Int) != (z : Int)) = true := by simp; omega
        have hno' := hno hxz
        clear hs hno hp
        cases hA
        gi_wp2
        exact ⟨KeepsOthers.setCell _ _ _, ⟨rfl, hno'⟩, hB.setCell (p := ⟨b4, 0, none⟩) hb4' _⟩
    · have hge : decide ((pre.length : Int) ≥ (l.length : Int)) = true := by simp; omega
      have hno : ¬ (pre ++ [x]) <+: l := by
        intro h
        have := h.length_le
        simp at this
        omega
      clear hs
      gi_wp2
      exact ⟨KeepsOthers.setCell _ _ _, ⟨rfl, hno⟩, hB.setCell (p := ⟨b4, 0, none⟩) hb4' _⟩
  case done =>
    rintro D ys W hD rfl ⟨hs, hB⟩ hK
    rw [hl] at hs
    have c7 := Boxed.cell hs.x7
    have c5 := Boxed.cell hs.x5
    have c4 := Boxed.cell hs.x4
    have f4 := Boxed.frozen hs.x4
    have x4 := Boxed.set (.bool true) hs.x4
    have xB := hB.setCell (p := ⟨b4, 0, none⟩) hb4' (.bool true)
    have xK := (KeepsOthers.setCell W ⟨b4, 0, none⟩ (.bool true)).same D _ hK rfl
    have hw0 := K5.1.size
    go_wp2
    generalize W.setCell ⟨b4, 0, none⟩ (.bool true) = W9 at *
    refine ⟨by simp, .inl ⟨_, _, rfl, run_takeDeferred xK, ?_⟩⟩
    have hc5 := Boxed.cell (boxed_kept x4 (grownBy_putObj' _ D (.deferred none)) (fun r e => by cases e; exact ⟨_, xK, rfl⟩))
    refine ⟨.bool true, ?_, rfl, xB.trans (belowK_b (w := w) (Nat.le_refl _) W9 D _ _ (by omega) xK rfl rfl)⟩
    simp [results, Tryd.f13, go_sem, hc5]
  case stop =>
    rintro D c pre W hD hpre ⟨⟨rfl, hno⟩, hB⟩ hK
    rw [hl] at hpre
    exact absurd hpre hno
end Go.Proofs.YthmngibmpkgjkaaDoor
