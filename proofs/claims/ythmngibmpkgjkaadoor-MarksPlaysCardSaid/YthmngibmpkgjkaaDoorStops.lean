/- MarksStops: plain facts, and the walk. -/
import Derived.Test.YthmngibmpkgjkaaDoorSome
import Derived.Test.YthmngibmpkgjkaaDoorLawBelow
import Derived.RangeFuncBox
import Derived.Deep.CutBlock
namespace Go.Proofs.YthmngibmpkgjkaaDoor
open Go.RowKit Go.Shelf
set_option linter.unusedVariables false
set_option linter.unusedSimpArgs false
attribute [local go_sem] Oper.semAt_some

/-! ### Rising numbers, one by one -/
theorem nums_rising (f : Nat → Bool) : (nums f).Pairwise (· < ·) := (List.pairwise_lt_range' ..).filter _
theorem nums_aboveF (f : Nat → Bool) (x : Int) : nums (aboveF f x) = (nums f).filter (fun k : Nat => decide (x < (k : Int))) := by
  simp only [nums, numsIn, List.filter_filter]
  exact List.filter_congr fun k _ => by simp [aboveF, Bool.and_comm]
theorem nums_next (f : Nat → Bool) (pre rest : List Nat) (x : Nat) (h : nums f = pre ++ x :: rest) : nums (aboveF f (x : Int)) = rest := by
  have hr := nums_rising f
  rw [h, List.pairwise_append] at hr
  rw [nums_aboveF, h, List.filter_append, List.filter_cons]
  have e1 : pre.filter (fun k : Nat => decide ((x : Int) < (k : Int))) = [] := by
    rw [List.filter_eq_nil_iff]
    intro k hk
    have := hr.2.2 k hk x (by simp)
    simp; omega
  have e2 : rest.filter (fun k : Nat => decide ((x : Int) < (k : Int))) = rest := by
    rw [List.filter_eq_self]
    intro k hk
    have := (List.pairwise_cons.1 hr.2.1).1 k hk
    simp; omega
  rw [e1, e2]
  simp
theorem mem_lt (f : Nat → Bool) (pre rest : List Nat) (x : Nat) (h : nums f = pre ++ x :: rest) : x < 1024 := by
  have : x ∈ nums f := by rw [h]; simp
  exact ((mem_nums f x).1 this).1
theorem k50_bd (o : Int) : 0 ≤ (wrap64 (o.tmod 50 + 50)).tmod 50 ∧ (wrap64 (o.tmod 50 + 50)).tmod 50 < 50 := by
  have ha : -50 < o.tmod 50 ∧ o.tmod 50 < 50 := by
    rcases Int.le_total 0 o with h | h
    · rw [Int.tmod_eq_emod_of_nonneg h]; omega
    · obtain ⟨m, rfl⟩ : ∃ m, o = -m := ⟨-o, by omega⟩
      rw [Int.neg_tmod, Int.tmod_eq_emod_of_nonneg (by omega)]; omega
  generalize o.tmod 50 = a at *
  rw [IntWalk.wrap64_in _ (by omega), Int.tmod_eq_emod_of_nonneg (by omega)]
  omega

/-! ### Blocks of one cell -/
theorem boxed_below {W W' : World} {b B : Nat} {t : TypeId} {v : Value} (h : Boxed W b t v) (hb : Below B W W') (hB : b < B) : Boxed W' b t v := (hb.block b hB).trans h
theorem boxed_later {W W' : World} {b : Nat} {t : TypeId} {v : Value} (h : Boxed W b t v) (hb : Below W.heap.size W W') : Boxed W' b t v := boxed_below h hb (Boxed.lt h)
theorem boxed_other {W : World} {b c : Nat} {t : TypeId} {v u : Value} (h : Boxed W b t v) (hne : b ≠ c) : Boxed (W.setCell ⟨c, 0, none⟩ u) b t v := (Below.heap_setCell W ⟨c, 0, none⟩ u b hne).trans h
theorem boxed_kept {W W' : World} {row : Option Nat} {b : Nat} {t : TypeId} {v : Value} (h : Boxed W b t v) (hg : W.grownBy W' row) (hr : ∀ r, row = some r → ∃ o : Obj, W.heap[r]? = some o ∧ o.isCells = false) : Boxed W' b t v := (grownBy_keeps_cells hg hr h rfl).trans h
theorem box_kept {W W' : World} {row : Option Nat} {b : Nat} {f : Nat → Bool} (h : Box W b f) (hg : W.grownBy W' row) (hr : ∀ r, row = some r → ∃ o : Obj, W.heap[r]? = some o ∧ o.isCells = false) : Box W' b f := ⟨(grownBy_keeps_cells hg hr h.is rfl).trans h.is⟩
theorem run_equalIn_func_nil (d : Nat) (fn : Fn) (a b : Array Value) (w : World) : (Op.equalIn (d + 1) 50 (.func fn a b) .nilFunc).run Tryd.prog w = .ok false w := by
  simp [Op.equalIn, run_underlying Tryd.underlying50]
theorem run_eql_func_nil (fn : Fn) (a b : Array Value) (w : World) : (binOp .eql 50 (.func fn a b) .nilFunc).run Tryd.prog w = .ok (.bool false) w := by
  simp only [binOp]
  simp [Op.equal, Op.maxDepth, run_equalIn_func_nil 9999 fn a b w]
theorem keepsOthers_below {W W' : World} (h : Below W.heap.size W W') : KeepsOthers W W' := ⟨h.size, fun k o hk _ => (h.block k (Array.getElem?_eq_some_iff.1 hk).1).trans hk⟩

/-- What stands between two rounds. -/
structure SI (l : List Nat) (k b4 b6 b7 b9 : Nat) (f : Nat → Bool) (pre : List Nat) (W : World) : Prop where
  pf : pre <+: l
  le : pre.length ≤ k
  x4 : Boxed W b4 4 (.bool false)
  x6 : Box W b6 f
  x7 : Boxed W b7 3 (.int .i64 (k : Int))
  x9 : Boxed W b9 3 (.int .i64 (hdN (l.drop pre.length)))
  x10 : Boxed W (b9 + 1) 4 (.bool (hdB (l.drop pre.length)))
  x11 : Boxed W (b9 + 1 + 1) 3 (.int .i64 (pre.length : Int))
/-- What stands where the walk was left off. -/
structure SO (k b4 b6 b7 b9 : Nat) (f : Nat → Bool) (pre : List Nat) (W : World) : Prop where
  le : pre.length = k + 1
  x4 : Boxed W b4 4 (.bool false)
  x6 : Box W b6 f
  x7 : Boxed W b7 3 (.int .i64 (k : Int))
  x11 : Boxed W (b9 + 1 + 1) 3 (.int .i64 (k : Int))
theorem SI.own (l : List Nat) (k b4 b6 b7 b9 : Nat) (f : Nat → Bool) : Own (SI l k b4 b6 b7 b9 f) := fun s A B row hs hg hr =>
  ⟨hs.pf, hs.le, boxed_kept hs.x4 hg hr, box_kept hs.x6 hg hr, boxed_kept hs.x7 hg hr, boxed_kept hs.x9 hg hr, boxed_kept hs.x10 hg hr, boxed_kept hs.x11 hg hr⟩
theorem SO.own (l : List Nat) (c : Code) (k b4 b6 b7 b9 : Nat) (f : Nat → Bool) : Own (fun pre W => (c = .ret ∧ ¬ pre <+: l) ∨ (c = .exit 0 ∧ SO k b4 b6 b7 b9 f pre W)) := fun s A B row hs hg hr =>
  hs.imp id fun h => ⟨h.1, h.2.le, boxed_kept h.2.x4 hg hr, box_kept h.2.x6 hg hr, boxed_kept h.2.x7 hg hr, boxed_kept h.2.x11 hg hr⟩
/-- A round that goes on. -/
theorem SI.round {l : List Nat} {k b4 b6 b7 b9 bn : Nat} {f : Nat → Bool} {pre rest : List Nat} {x : Nat} {w W W' : World} (hs : SI l k b4 b6 b7 b9 f pre W) (hB : Below w.heap.size w W) (h : Below W.heap.size W W')
    (hd : l.drop pre.length = x :: rest) (hk : pre.length ≠ k) (h4 : b4 < b9) (h6 : b6 < b9) (h7 : b7 < b9) (hn : bn < b9) (hw : w.heap.size ≤ b9) :
    ∀ W2, ((W'.setCell ⟨b9, 0, none⟩ (.int .i64 (hdN rest))).setCell ⟨b9 + 1, 0, none⟩ (.bool (hdB rest))).setCell ⟨b9 + 1 + 1, 0, none⟩ (.int .i64 ((pre.length : Int) + 1)) = W2 →
    KeepsOthers W W2 ∧ Kp w.heap.size bn W W2 ∧ SI l k b4 b6 b7 b9 f (pre ++ [x]) W2 ∧ Below w.heap.size w W2 := by
  rintro W2 rfl
  have hsz := hB.size
  have hl9 := Boxed.lt hs.x9
  have hp : l = pre ++ x :: rest := by
    obtain ⟨t, rfl⟩ := hs.pf
    rw [List.drop_left'  rfl] at hd
    rw [hd]
  have hd2 : l.drop (pre ++ [x]).length = rest := by
    rw [hp, List.length_append, ← List.drop_drop, List.drop_left' rfl]; rfl
  have hb2 : Below w.heap.size W (((W'.setCell ⟨b9, 0, none⟩ (.int .i64 (hdN rest))).setCell ⟨b9 + 1, 0, none⟩ (.bool (hdB rest))).setCell ⟨b9 + 1 + 1, 0, none⟩ (.int .i64 ((pre.length : Int) + 1))) :=
    (((h.mono hsz).setCell (p := ⟨b9, 0, none⟩) hw _).setCell (p := ⟨b9 + 1, 0, none⟩) (Nat.le_succ_of_le hw) _).setCell (p := ⟨b9 + 1 + 1, 0, none⟩) (Nat.le_succ_of_le (Nat.le_succ_of_le hw)) _
  refine ⟨((keepsOthers_below h).trans (KeepsOthers.setCell _ _ _)).trans ((KeepsOthers.setCell _ _ _).trans (KeepsOthers.setCell _ _ _)), ⟨hb2, ?_⟩, ?_, hB.trans hb2⟩
  · rw [Below.heap_setCell _ _ _ bn (by simp; omega), Below.heap_setCell _ _ _ bn (by simp; omega), Below.heap_setCell _ _ _ bn (by simp; omega), h.block bn (by omega)]
  · have y9 := boxed_later hs.x9 h
    have y10 := boxed_later hs.x10 h
    have y11 := boxed_later hs.x11 h
    have y4 := boxed_later hs.x4 h
    have y7 := boxed_later hs.x7 h
    have y6 := hs.x6.later h
    refine ⟨⟨rest, by rw [hp]; simp⟩, by have := hs.le; simp; omega, ?_, ?_, ?_, ?_, ?_, ?_⟩
    · exact boxed_other (boxed_other (boxed_other y4 (by omega)) (by omega)) (by omega)
    · exact ((y6.setCell _ _ (by simp; omega)).setCell _ _ (by simp; omega)).setCell _ _ (by simp; omega)
    · exact boxed_other (boxed_other (boxed_other y7 (by omega)) (by omega)) (by omega)
    · rw [hd2]; exact boxed_other (boxed_other (Boxed.set _ y9) (by omega)) (by omega)
    · rw [hd2]; exact boxed_other (Boxed.set _ (boxed_other y10 (by omega))) (by omega)
    · have e : (((pre ++ [x]).length : Nat) : Int) = (pre.length : Int) + 1 := by simp
      rw [e]; exact Boxed.set _ (boxed_other (boxed_other y11 (by omega)) (by omega))

set_option maxRecDepth 100000 in
set_option maxHeartbeats 4000000 in
theorem stops_walk (v : Value) (zs : List Int) (m : Int) (w : World) (hT : Tab w) (n0 : Nums w v zs) (i0 : InI zs) (hm : -9223372036854775808 ≤ m ∧ m ≤ 9223372036854775807) :
    Calls Tryd.prog 8 #[v, .int .i64 m] w fun e w' => e = .returned (.bool true) ∧ Below w.heap.size w w' := by
  have hpos := hT.pos
  obtain ⟨k, hk⟩ : ∃ k : Nat, (wrap64 (m.tmod 50 + 50)).tmod 50 = (k : Int) := ⟨_, (Int.toNat_of_nonneg (k50_bd m).1).symm⟩
  have hk50 : k < 50 := by have := (k50_bd m).2; omega
  have HK := Lib.hid hk
  clear hk
  have O0 := Lib.hid (fun v w hv => of_nums v (someL zs) w hv (someL_in zs i0))
  generalize insL noneF (someL zs) = f at *
  have A0 := Lib.hid (fun w => all_any f w)
  have F0 := Lib.hid (fun w hT => first_any f w hT)
  have K0 : KeptT w (w.alloc (.cells #[.bool false] 4)) := (KeptT.refl hT).step ((Below.refl _ _).alloc (Nat.le_refl _) _)
  have X4 := Boxed.new w 4 (.bool false)
  have N0 := Lib.hid (n0.later ((Below.refl _ _).alloc (Nat.le_refl _) (.cells #[.bool false] 4)))
  generalize hW0 : w.alloc (.cells #[.bool false] 4) = W0 at *
  clear n0 i0
  refine (callsIn_wide (n := 3)).1 ?_
  refine callsIn_of_wp_marks Tryd.func8 rfl trivial ?_ rfl
  simp only [Tryd.ntmps8, List.size_toArray, List.length_cons, List.length_nil, Nat.reduceAdd, Nat.reduceSub, Array.replicate_succ, Array.replicate_zero, List.push_toArray, List.append_toArray, List.nil_append, List.cons_append]
  refine wpIn_wide.2 ?_
  go_upto_region 1 with fail
  clear hW0
  generalize hb4 : w.heap.size = b4 at X4 ⊢
  go_upto_region 3 with (first
    | (go_at_call 9; refine (awake_any _ K0.2).mono ?_; rintro e w1 ⟨rfl, h1⟩; have K1 := K0.step h1; have N1 := Lib.hid (N0.out.later h1); have X4a := boxed_later X4 h1; clear h1)
    | (go_at_call 11; (with_reducible refine (some_nums v _ _ N1.out).mono ?_); rintro e w2 ⟨x2, rfl, m2, h2⟩; have M2 := Lib.hid m2; have K2 := K1.step h2; have X4b := boxed_later X4a h2; clear h2 m2)
    | (go_at_call 10; (with_reducible refine (O0.out _ _ M2.out).mono ?_); rintro e w3 ⟨rfl, h3⟩; have K3 := K2.step h3; have X4c := boxed_later X4b h3; clear h3)
    | ((with_reducible show wpList _ _ _ (⟨none, Op.store 26 (.tmp 6) _, _, _, _, _⟩ :: _) _ _); refine wpList_store_mid rfl 26 _ _ rfl _ _ (cellsL f).toArray rfl rfl ((zero_box _).there _) (info26' _) (cellsL_all _) ?_; rw [alloc_stored]; have X4d := Boxed.alloc X4c (.cells (cellsL f).toArray 26); obtain ⟨W4, hW4, B6, K4⟩ := held_new K3 f; rw [hW4] at X4d ⊢; clear hW4))
  (try simp only [Act.put, List.setIfInBounds_toArray, List.set_cons_zero, List.set_cons_succ])
  have l4 : b4 < W4.heap.size := Boxed.lt X4d
  have l6 : w3.heap.size < W4.heap.size := B6.lt
  clear X4 X4a X4b X4c N0 N1 M2 K0 K1 K2 K3 O0
  generalize w3.heap.size = b6 at *
  go_upto_region 4 with fail
  rw [HK.out]
  obtain ⟨W5, hW5, B6', X4', X7, K5⟩ : ∃ W5, W4.alloc (.cells #[.int .i64 (k : Int)] 3) = W5 ∧ Box W5 b6 f ∧ Boxed W5 b4 4 (.bool false) ∧ Boxed W5 W4.heap.size 3 (.int .i64 (k : Int)) ∧ KeptT w W5 := ⟨_, rfl, B6.alloc _, Boxed.alloc X4d _, Boxed.new _ _ _, K4.step ((Below.refl _ _).alloc (Nat.le_refl _) _)⟩
  rw [hW5]
  have l7 : W4.heap.size < W5.heap.size := Boxed.lt X7
  clear hW5 HK X4d B6 K4
  generalize W4.heap.size = b7 at *
  go_upto_region 5 with (first
    | ((with_reducible show wpList _ _ _ (⟨some 21, _, _, _, _, _⟩ :: _) _ _); refine wpList_load_mid rfl 26 _ rfl _ _ rfl _ _ B6'.range Tryd.underlying26 rfl (info26 _) ?_)
    | (go_at_call 23; refine (A0.out _).mono ?_; rintro e w' ⟨rfl, rfl⟩))
  obtain ⟨W6, hW6, C6, C4, C7, Cn, K6⟩ : ∃ W6, W5.alloc (.cells (cellsL f).toArray 26) = W6 ∧ Box W6 b6 f ∧ Boxed W6 b4 4 (.bool false) ∧ Boxed W6 b7 3 (.int .i64 (k : Int)) ∧ Box W6 W5.heap.size f ∧ KeptT w W6 := ⟨_, rfl, B6'.alloc _, Boxed.alloc X4' _, Boxed.alloc X7 _, Box.new _ _, K5.step ((Below.refl _ _).alloc (Nat.le_refl _) _)⟩
  rw [hW6]
  have ln : W5.heap.size < W6.heap.size := Cn.lt
  clear hW6 B6' X4' X7 K5 A0
  generalize W5.heap.size = bn at *
  generalize hl : nums f = l at *
  have hfn := run_eql_func_nil
  go_upto_region 8 with (first
    | ((with_reducible show wpList _ _ _ (⟨some 26, _, _, _, _, _⟩ :: _) _ _); refine wpList_load_mid rfl 26 _ rfl _ _ rfl _ _ C6.range Tryd.underlying26 rfl (info26 _) ?_)
    | (go_at_call 24; refine (F0.out _ K6.2).mono ?_; rintro e w7 ⟨rfl, h7⟩; have K7 := K6.step h7; have D6 := C6.later h7; have D4 := boxed_later C4 h7; have D7 := boxed_later C7 h7; have Dn := Cn.later h7; have s7 := h7.size; clear h7))
  go_upto_block 0 with fail
  go_wp2
  have hl9 : W6.heap.size ≤ w7.heap.size := s7
  have lw : w.heap.size ≤ w7.heap.size := K7.1.size
  have h9 : Below w7.heap.size w7 (((w7.alloc (.cells #[.int .i64 (hdN l)] 3)).alloc (.cells #[.bool (hdB l)] 4)).alloc (.cells #[.int .i64 0] 3)) :=
    (((Below.refl _ _).alloc (Nat.le_refl _) _).alloc (by simp) _).alloc (by simp; omega) _
  have z9 := Boxed.alloc (Boxed.alloc (Boxed.new w7 3 (.int .i64 (hdN l))) (.cells #[.bool (hdB l)] 4)) (.cells #[.int .i64 0] 3)
  have z10 := Boxed.alloc (Boxed.new (w7.alloc (.cells #[.int .i64 (hdN l)] 3)) 4 (.bool (hdB l))) (.cells #[.int .i64 0] 3)
  have z11 := Boxed.new ((w7.alloc (.cells #[.int .i64 (hdN l)] 3)).alloc (.cells #[.bool (hdB l)] 4)) 3 (.int .i64 0)
  simp only [World.size_alloc] at z10 z11
  generalize hW8 : ((w7.alloc (.cells #[.int .i64 (hdN l)] 3)).alloc (.cells #[.bool (hdB l)] 4)).alloc (.cells #[.int .i64 0] 3) = W8 at *
  have y6 := D6.later h9
  have y4 := boxed_later D4 h9
  have y7 := boxed_later D7 h9
  have yn := Dn.later h9
  have K8 := K7.step h9
  have hn9 : bn < w7.heap.size := Dn.lt
  have hs8 := h9.size
  clear hW8 h9 D6 D4 D7 Dn K7 C6 C4 C7 K6 Cn F0 hfn
  generalize w7.heap.size = b9 at *
  have h49 : b4 < b9 := by omega
  have h69 : b6 < b9 := by omega
  have h79 : b7 < b9 := by omega
  have hS0 : SI l k b4 b6 b7 b9 f [] W8 := ⟨⟨l, rfl⟩, Nat.zero_le _, y4, y6, y7, z9, z10, z11⟩
  clear y4 y6 y7 z9 z10 z11
  have hT8 := K8.2
  refine (wpIn_wide (n := 3)).1 ?_
  refine wpIn_rangeFunc_ownF rfl (by omega) (gf := 34) (lb := #[.pointer (some ⟨bn, 0, none⟩)]) rfl trivial (enters_of Tryd.func34 (by kernel_rfl) rfl)
    (all_stops 2 (by omega) f bn w.heap.size W8 yn hT8 hpos) Kp.t (Kp.b K8.1.size yn.lt) (Below.refl _ _) (fun _ => rfl)
    (fun pre W => SI l k b4 b6 b7 b9 f pre W ∧ Below w.heap.size w W)
    (fun c pre W => ((c = .ret ∧ ¬ pre <+: l) ∨ (c = .exit 0 ∧ SO k b4 b6 b7 b9 f pre W)) ∧ Below w.heap.size w W)
    (OwnFrom.and (Own.from (SI.own l k b4 b6 b7 b9 f) _) (ownFrom_below (Nat.le_refl _) K8.1.size))
    (fun c => OwnFrom.and (Own.from (SO.own l c k b4 b6 b7 b9 f) _) (ownFrom_below (Nat.le_refl _) K8.1.size))
    ⟨hS0, K8.1⟩
    (fun x => { tmps := #[v, .int .i64 m, undef, undef, .pointer (some ⟨b4, 0, none⟩), .bool true, .pointer (some ⟨b6, 0, none⟩), .pointer (some ⟨b7, 0, none⟩), .func (.func 34) #[] #[.pointer (some ⟨bn, 0, none⟩)], .pointer (some ⟨b9, 0, none⟩), .pointer (some ⟨b9 + 1, 0, none⟩), .pointer (some ⟨b9 + 1 + 1, 0, none⟩), .int .i64 (x : Int), .bool true, v, x2, setV f, .int .i64 m, .int .i64 (m.tmod 50), .int .i64 (wrap64 (m.tmod 50 + 50)), .int .i64 (k : Int), setV f, .func (.func 34) #[] #[.pointer (some ⟨bn, 0, none⟩)], .func (.func 34) #[] #[.pointer (some ⟨bn, 0, none⟩)], .bool false, .tuple #[.int .i64 (hdN l), .bool (hdB l)], setV f, .tuple #[.int .i64 (hdN l), .bool (hdB l)], .int .i64 (hdN l), .bool (hdB l), .func (.func 34) #[] #[.pointer (some ⟨bn, 0, none⟩)], .int .i64 (x : Int), undef, undef, undef, undef, undef, undef, undef, undef, undef, undef, undef, undef, undef, undef, undef, undef, undef, undef, undef, undef, undef, undef, undef, undef, undef, undef, undef], defers := [] }) ?assign ?body ?done ?stop
  case assign =>
    intro l x W K hK
    gi_wp2
    exact hK
  case body =>
    rintro l0 pre x W ⟨hs, hB⟩ hlen
    have c11 := Boxed.cell hs.x11
    have c7 := Boxed.cell hs.x7
    by_cases hk : pre.length = k
    · have hs' : SO k b4 b6 b7 b9 f (pre ++ [x]) W := ⟨by simp [hk], hs.x4, hs.x6, hs.x7, by have := hs.x11; rwa [hk] at this⟩
      rw [hk] at c11
      gi_wp2
      exact ⟨KeepsOthers.refl _, .inr ⟨rfl, hs'⟩, hB⟩
    · have hne : ((pre.length : Int) == (k : Int)) = false := by simp; omega
      have c9 := Boxed.cell hs.x9
      have c10 := Boxed.cell hs.x10
      cases hd : l.drop pre.length with
      | nil =>
        rw [hd] at c9 c10
        have hno : ¬ (pre ++ [x]) <+: l := by
          rintro ⟨t, rfl⟩
          simp at hd
        have c10' : W.cell? ⟨b9 + 1, 0, none⟩ = some (.bool false) := c10
        have c4 := Boxed.cell hs.x4
        have f4 := Boxed.frozen hs.x4
        clear c10 hs
        gi_wp2
        exact ⟨KeepsOthers.setCell _ _ _, .inl ⟨rfl, hno⟩, hB.setCell (p := ⟨b4, 0, none⟩) (Nat.le_of_eq hb4) _⟩
      | cons a rest =>
        rw [hd] at c9 c10
        have c9' : W.cell? ⟨b9, 0, none⟩ = some (.int .i64 (a : Int)) := c9
        have c10' : W.cell? ⟨b9 + 1, 0, none⟩ = some (.bool true) := c10
        clear c9 c10
        by_cases hxa : x = a
        · subst hxa
          have hp : l = pre ++ x :: rest := by
            obtain ⟨t, rfl⟩ := hs.pf
            rw [List.drop_left' rfl] at hd
            rw [hd]
          have hx1 := mem_lt f pre rest x (hl.trans hp)
          have hnx := nums_next f pre rest x (hl.trans hp)
          have N := Lib.hid (fun w hT => next_any f (x : Int) w hT (by omega) (by omega))
          rw [hnx] at N
          have hTW := hT.below hB
          have e1 : IntKind.i64.wrap ((pre.length : Int) + 1) = (pre.length : Int) + 1 := IntWalk.i64_in _ (by omega)
          have e2 : wrap64 ((pre.length : Int) + 1) = (pre.length : Int) + 1 := IntWalk.wrap64_in _ (by omega)
          have x6 := hs.x6
          clear hnx
          gi_wp2_with (first
            | ((with_reducible show wpListIn _ _ _ _ _ (⟨some 43, _, _, _, _, _⟩ :: _) _ _); refine wpListIn_load_box rfl _ rfl _ _ rfl x6 ?_)
            | (refine ⟨trivial, ?_⟩; gi_at_call 25; refine (CallsIn.inRound l0 (callsIn_wide.2 (N.out _ hTW))).mono ?_; rintro e w' ⟨rfl, h'⟩; have d9 := Boxed.cell (boxed_later hs.x9 h'); have g9 := Boxed.frozen (boxed_later hs.x9 h'); have d10 := Boxed.cell (boxed_later hs.x10 h'); have g10 := Boxed.frozen (boxed_later hs.x10 h'); have d11 := Boxed.cell (boxed_later hs.x11 h'); have g11 := Boxed.frozen (boxed_later hs.x11 h')))
          exact hs.round hB h' hd hk h49 h69 h79 hn9 lw _ rfl
        · have hx : ((x : Int) != (a : Int)) = true := by simp; omega
          have hno : ¬ (pre ++ [x]) <+: l := by
            rintro ⟨t, rfl⟩
            rw [List.append_assoc, List.drop_left' rfl] at hd
            simp at hd
            exact hxa hd.1
          have c4 := Boxed.cell hs.x4
          have f4 := Boxed.frozen hs.x4
          clear hs
          gi_wp2
          exact ⟨KeepsOthers.setCell _ _ _, .inl ⟨rfl, hno⟩, hB.setCell (p := ⟨b4, 0, none⟩) (Nat.le_of_eq hb4) _⟩
  case done =>
    rintro D ys W hD rfl ⟨hs, hB⟩ hK
    have hc : cnt f 16 = l.length := by rw [cnt_all, hl]
    rw [hl] at hs
    have hle := hs.le
    have c11 := Boxed.cell hs.x11
    have c7 := Boxed.cell hs.x7
    have c4 := Boxed.cell hs.x4
    have f4 := Boxed.frozen hs.x4
    go_wp2
    have hw0 := K8.1.size
    have L := Lib.hid (fun w => len_any f w)
    rw [hc] at L
    have u11 := hs.x11
    generalize l.length = c at *
    have S0 : Boxed W.drew (b9 + 1 + 1) 3 (.int .i64 ((c : Nat) : Int)) ∧ Boxed W.drew b7 3 (.int .i64 (k : Int)) := ⟨u11, hs.x7⟩
    have z4 : Boxed W.drew b4 4 (.bool false) := hs.x4
    have z6 := (hs.x6).drew
    have zB := hB.drew
    have zK : W.drew.heap[D]? = some (.deferred (some [])) := hK
    clear u11 hs hB hK c11 c7 c4 f4
    refine wp_region_noPanic ?_
    refine wp_region_held_drew (S := fun W => Boxed W (b9 + 1 + 1) 3 (.int .i64 ((c : Nat) : Int)) ∧ Boxed W b7 3 (.int .i64 (k : Int))) (by kernel_rfl) S0 (fun hHeld => ?_)
    refine wpAnyH_take (i := 0) (oi := ⟨some 50, _, _, _, _, _⟩) (v := .bool true) rfl (by kernel_rfl) (by kernel_rfl) (by kernel_rfl) (fun _ _ _ h => h) (Or.inl ⟨by rfl, ?_⟩) (by assumption) ?_
    · intro w0 hSw
      (try dsimp only at hSw)
      have q1 := Boxed.cell hSw.1
      have q2 := Boxed.cell hSw.2
      go_simp
      (try with_reducible rfl)
    (try simp only [Act.put, List.setIfInBounds_toArray, List.set_cons_zero, List.set_cons_succ])
    refine wpAnyH_take (i := 1) (oi := ⟨some 51, _, _, _, _, _⟩) (v := .bool true) rfl (by kernel_rfl) (by kernel_rfl) (by kernel_rfl) (fun _ _ _ h => h) (Or.inl ⟨by rfl, ?_⟩) (by assumption) ?_
    · intro w0 hSw
      (try dsimp only at hSw)
      have q1 := Boxed.cell hSw.1
      have q2 := Boxed.cell hSw.2
      go_simp
      (try with_reducible rfl)
    (try simp only [Act.put, List.setIfInBounds_toArray, List.set_cons_zero, List.set_cons_succ])
    refine wpAnyH_take (i := 2) (oi := ⟨some 52, _, _, _, _, _⟩) (v := .int .i64 ((c : Nat) : Int)) rfl (by kernel_rfl) (by kernel_rfl) (by kernel_rfl) (fun _ _ _ h => h) (Or.inl ⟨by rfl, ?_⟩) (by assumption) ?_
    · intro w0 hSw
      (try dsimp only at hSw)
      have q1 := Boxed.cell hSw.1
      have q2 := Boxed.cell hSw.2
      go_simp
      (try with_reducible rfl)
    (try simp only [Act.put, List.setIfInBounds_toArray, List.set_cons_zero, List.set_cons_succ])
    refine wpAnyH_take (i := 3) (oi := ⟨some 53, _, _, _, _, _⟩) (v := .int .i64 (k : Int)) rfl (by kernel_rfl) (by kernel_rfl) (by kernel_rfl) (fun _ _ _ h => h) (Or.inl ⟨by rfl, ?_⟩) (by assumption) ?_
    · intro w0 hSw
      (try dsimp only at hSw)
      have q1 := Boxed.cell hSw.1
      have q2 := Boxed.cell hSw.2
      go_simp
      (try with_reducible rfl)
    (try simp only [Act.put, List.setIfInBounds_toArray, List.set_cons_zero, List.set_cons_succ])
    refine wpAnyH_ready (rs := [4]) (by kernel_rfl) (by simp) ?_
    refine AllReadyH.cons (o := ⟨some 54, _, _, _, _, _⟩) rfl (fun K hK => ?_) AllReadyH.nil
    rw [if_pos (by rfl)]
    refine wp_load_mid 26 _ rfl _ 0 rfl (cellsL f) _ z6.range Tryd.underlying26 rfl (info26 _) ?_
    refine hK.out _ _ S0 (fun hHeld => ?_)
    clear hK K
    (try simp only [Act.put, List.setIfInBounds_toArray, List.set_cons_zero, List.set_cons_succ])
    refine wpAnyH_ready (rs := [5]) (by kernel_rfl) (by simp) ?_
    refine AllReadyH.cons (o := ⟨some 55, _, _, _, _, _⟩) rfl (fun K hK => ?_) AllReadyH.nil
    go_simp
    refine (L.out _).mono ?_
    rintro e wm ⟨rfl, hbm⟩
    have S1 : Boxed wm (b9 + 1 + 1) 3 (.int .i64 ((c : Nat) : Int)) ∧ Boxed wm b7 3 (.int .i64 (k : Int)) := ⟨boxed_later S0.1 hbm, boxed_later S0.2 hbm⟩
    have y4 := boxed_later z4 hbm
    have yB := zB.trans (hbm.mono zB.size)
    have yK := (hbm.block D (Array.getElem?_eq_some_iff.1 zK).1).trans zK
    refine hK.out _ _ S1 (fun hHeld => ?_)
    clear hK K hbm z4 z6 zB zK
    (try simp only [Act.put, List.setIfInBounds_toArray, List.set_cons_zero, List.set_cons_succ])
    refine wpAnyH_take (i := 6) (oi := ⟨some 56, _, _, _, _, _⟩) (v := .int .i64 ((c : Nat) : Int)) rfl (by kernel_rfl) (by kernel_rfl) (by kernel_rfl) (fun _ _ _ h => h) (Or.inl ⟨by rfl, ?_⟩) (by assumption) ?_
    · intro w0 hSw
      (try dsimp only at hSw)
      have q1 := Boxed.cell hSw.1
      have q2 := Boxed.cell hSw.2
      go_simp
      (try with_reducible rfl)
      intros
      omega
    (try simp only [Act.put, List.setIfInBounds_toArray, List.set_cons_zero, List.set_cons_succ])
    refine wpAnyH_take (i := 7) (oi := ⟨some 57, _, _, _, _, _⟩) (v := .bool true) rfl (by kernel_rfl) (by kernel_rfl) (by kernel_rfl) (fun _ _ _ h => h) (Or.inl ⟨by rfl, ?_⟩) (by assumption) ?_
    · intro w0 hSw
      (try dsimp only at hSw)
      have q1 := Boxed.cell hSw.1
      have q2 := Boxed.cell hSw.2
      go_simp
      (try with_reducible rfl)
    (try simp only [Act.put, List.setIfInBounds_toArray, List.set_cons_zero, List.set_cons_succ])
    refine wpAnyH_take (i := 8) (oi := ⟨some 58, _, _, _, _, _⟩) (v := .bool true) rfl (by kernel_rfl) (by kernel_rfl) (by kernel_rfl) (fun _ _ _ h => h) (Or.inl ⟨by rfl, ?_⟩) (by assumption) ?_
    · intro w0 hSw
      (try dsimp only at hSw)
      have q1 := Boxed.cell hSw.1
      have q2 := Boxed.cell hSw.2
      go_simp
      (try with_reducible rfl)
    (try simp only [Act.put, List.setIfInBounds_toArray, List.set_cons_zero, List.set_cons_succ])
    refine wpAnyH_ready (rs := [9]) (by kernel_rfl) (by simp) ?_
    refine AllReadyH.cons (o := ⟨none, _, _, _, _, _⟩) rfl (fun K hK => ?_) AllReadyH.nil
    have c4 := Boxed.cell y4
    have f4 := Boxed.frozen y4
    go_simp
    have x4 := Boxed.set (.bool true) y4
    have xB := yB.setCell (p := ⟨b4, 0, none⟩) (Nat.le_of_eq hb4) (.bool true)
    have xK := (KeepsOthers.setCell wm ⟨b4, 0, none⟩ (.bool true)).same D _ yK rfl
    refine hK.out _ _ ⟨boxed_other S1.1 (by omega), boxed_other S1.2 (by omega)⟩ (fun hHeld => ?_)
    clear hK K
    (try simp only [Act.put, List.setIfInBounds_toArray, List.set_cons_zero, List.set_cons_succ])
    refine wpAnyH_done (by kernel_rfl) ?_ _
    refine NoPanic.normal ?_
    generalize wm.setCell ⟨b4, 0, none⟩ (.bool true) = W9 at *
    go_wp2_with fail
    refine ⟨by simp, .inl ⟨_, _, rfl, run_takeDeferred xK, ?_⟩⟩
    have hc5 := Boxed.cell (boxed_kept x4 (grownBy_putObj' _ D (.deferred none)) (fun r e => by cases e; exact ⟨_, xK, rfl⟩))
    refine ⟨.bool true, ?_, rfl, xB.trans (belowK_b (w := w) (Nat.le_refl _) W9 D _ _ (by omega) xK rfl rfl)⟩
    simp [results, Tryd.f8, go_sem, hc5]
  case stop =>
    rintro D c pre W hD hpre ⟨hs, hB⟩ hK
    rw [hl] at hpre
    rcases hs with ⟨rfl, hno⟩ | ⟨rfl, hs⟩
    · exact absurd hpre hno
    · have hc : cnt f 16 = l.length := by rw [cnt_all, hl]
      have hlk := hpre.length_le
      have hle := hs.le
      have c11 := Boxed.cell hs.x11
      have c7 := Boxed.cell hs.x7
      have c4 := Boxed.cell hs.x4
      have f4 := Boxed.frozen hs.x4
      refine wpIn_wide.2 ?_
      go_wp2
      have hw0 := K8.1.size
      have L := Lib.hid (fun w => len_any f w)
      rw [hc] at L
      have u11 := hs.x11
      generalize l.length = c at *
      have S0 : Boxed W.drew (b9 + 1 + 1) 3 (.int .i64 ((k : Nat) : Int)) ∧ Boxed W.drew b7 3 (.int .i64 (k : Int)) := ⟨u11, hs.x7⟩
      have z4 : Boxed W.drew b4 4 (.bool false) := hs.x4
      have z6 := (hs.x6).drew
      have zB := hB.drew
      have zK : W.drew.heap[D]? = some (.deferred (some [])) := hK
      clear u11 hs hB hK c11 c7 c4 f4
      refine wp_region_noPanic ?_
      refine wp_region_held_drew (S := fun W => Boxed W (b9 + 1 + 1) 3 (.int .i64 ((k : Nat) : Int)) ∧ Boxed W b7 3 (.int .i64 (k : Int))) (by kernel_rfl) S0 (fun hHeld => ?_)
      refine wpAnyH_take (i := 0) (oi := ⟨some 50, _, _, _, _, _⟩) (v := .bool true) rfl (by kernel_rfl) (by kernel_rfl) (by kernel_rfl) (fun _ _ _ h => h) (Or.inl ⟨by rfl, ?_⟩) (by assumption) ?_
      · intro w0 hSw
        (try dsimp only at hSw)
        have q1 := Boxed.cell hSw.1
        have q2 := Boxed.cell hSw.2
        go_simp
        (try with_reducible rfl)
      (try simp only [Act.put, List.setIfInBounds_toArray, List.set_cons_zero, List.set_cons_succ])
      refine wpAnyH_take (i := 1) (oi := ⟨some 51, _, _, _, _, _⟩) (v := .bool true) rfl (by kernel_rfl) (by kernel_rfl) (by kernel_rfl) (fun _ _ _ h => h) (Or.inl ⟨by rfl, ?_⟩) (by assumption) ?_
      · intro w0 hSw
        (try dsimp only at hSw)
        have q1 := Boxed.cell hSw.1
        have q2 := Boxed.cell hSw.2
        go_simp
        (try with_reducible rfl)
      (try simp only [Act.put, List.setIfInBounds_toArray, List.set_cons_zero, List.set_cons_succ])
      refine wpAnyH_take (i := 2) (oi := ⟨some 52, _, _, _, _, _⟩) (v := .int .i64 ((k : Nat) : Int)) rfl (by kernel_rfl) (by kernel_rfl) (by kernel_rfl) (fun _ _ _ h => h) (Or.inl ⟨by rfl, ?_⟩) (by assumption) ?_
      · intro w0 hSw
        (try dsimp only at hSw)
        have q1 := Boxed.cell hSw.1
        have q2 := Boxed.cell hSw.2
        go_simp
        (try with_reducible rfl)
      (try simp only [Act.put, List.setIfInBounds_toArray, List.set_cons_zero, List.set_cons_succ])
      refine wpAnyH_take (i := 3) (oi := ⟨some 53, _, _, _, _, _⟩) (v := .int .i64 (k : Int)) rfl (by kernel_rfl) (by kernel_rfl) (by kernel_rfl) (fun _ _ _ h => h) (Or.inl ⟨by rfl, ?_⟩) (by assumption) ?_
      · intro w0 hSw
        (try dsimp only at hSw)
        have q1 := Boxed.cell hSw.1
        have q2 := Boxed.cell hSw.2
        go_simp
        (try with_reducible rfl)
      (try simp only [Act.put, List.setIfInBounds_toArray, List.set_cons_zero, List.set_cons_succ])
      refine wpAnyH_ready (rs := [4]) (by kernel_rfl) (by simp) ?_
      refine AllReadyH.cons (o := ⟨some 54, _, _, _, _, _⟩) rfl (fun K hK => ?_) AllReadyH.nil
      rw [if_pos (by rfl)]
      refine wp_load_mid 26 _ rfl _ 0 rfl (cellsL f) _ z6.range Tryd.underlying26 rfl (info26 _) ?_
      refine hK.out _ _ S0 (fun hHeld => ?_)
      clear hK K
      (try simp only [Act.put, List.setIfInBounds_toArray, List.set_cons_zero, List.set_cons_succ])
      refine wpAnyH_ready (rs := [5]) (by kernel_rfl) (by simp) ?_
      refine AllReadyH.cons (o := ⟨some 55, _, _, _, _, _⟩) rfl (fun K hK => ?_) AllReadyH.nil
      go_simp
      refine (L.out _).mono ?_
      rintro e wm ⟨rfl, hbm⟩
      have S1 : Boxed wm (b9 + 1 + 1) 3 (.int .i64 ((k : Nat) : Int)) ∧ Boxed wm b7 3 (.int .i64 (k : Int)) := ⟨boxed_later S0.1 hbm, boxed_later S0.2 hbm⟩
      have y4 := boxed_later z4 hbm
      have yB := zB.trans (hbm.mono zB.size)
      have yK := (hbm.block D (Array.getElem?_eq_some_iff.1 zK).1).trans zK
      refine hK.out _ _ S1 (fun hHeld => ?_)
      clear hK K hbm z4 z6 zB zK
      (try simp only [Act.put, List.setIfInBounds_toArray, List.set_cons_zero, List.set_cons_succ])
      refine wpAnyH_take (i := 6) (oi := ⟨some 56, _, _, _, _, _⟩) (v := .int .i64 ((k : Nat) : Int)) rfl (by kernel_rfl) (by kernel_rfl) (by kernel_rfl) (fun _ _ _ h => h) (Or.inl ⟨by rfl, ?_⟩) (by assumption) ?_
      · intro w0 hSw
        (try dsimp only at hSw)
        have q1 := Boxed.cell hSw.1
        have q2 := Boxed.cell hSw.2
        go_simp
        (try with_reducible rfl)
        intros
        omega
      (try simp only [Act.put, List.setIfInBounds_toArray, List.set_cons_zero, List.set_cons_succ])
      refine wpAnyH_take (i := 7) (oi := ⟨some 57, _, _, _, _, _⟩) (v := .bool true) rfl (by kernel_rfl) (by kernel_rfl) (by kernel_rfl) (fun _ _ _ h => h) (Or.inl ⟨by rfl, ?_⟩) (by assumption) ?_
      · intro w0 hSw
        (try dsimp only at hSw)
        have q1 := Boxed.cell hSw.1
        have q2 := Boxed.cell hSw.2
        go_simp
        (try with_reducible rfl)
      (try simp only [Act.put, List.setIfInBounds_toArray, List.set_cons_zero, List.set_cons_succ])
      refine wpAnyH_take (i := 8) (oi := ⟨some 58, _, _, _, _, _⟩) (v := .bool true) rfl (by kernel_rfl) (by kernel_rfl) (by kernel_rfl) (fun _ _ _ h => h) (Or.inl ⟨by rfl, ?_⟩) (by assumption) ?_
      · intro w0 hSw
        (try dsimp only at hSw)
        have q1 := Boxed.cell hSw.1
        have q2 := Boxed.cell hSw.2
        go_simp
        (try with_reducible rfl)
      (try simp only [Act.put, List.setIfInBounds_toArray, List.set_cons_zero, List.set_cons_succ])
      refine wpAnyH_ready (rs := [9]) (by kernel_rfl) (by simp) ?_
      refine AllReadyH.cons (o := ⟨none, _, _, _, _, _⟩) rfl (fun K hK => ?_) AllReadyH.nil
      have c4 := Boxed.cell y4
      have f4 := Boxed.frozen y4
      go_simp
      have x4 := Boxed.set (.bool true) y4
      have xB := yB.setCell (p := ⟨b4, 0, none⟩) (Nat.le_of_eq hb4) (.bool true)
      have xK := (KeepsOthers.setCell wm ⟨b4, 0, none⟩ (.bool true)).same D _ yK rfl
      refine hK.out _ _ ⟨boxed_other S1.1 (by omega), boxed_other S1.2 (by omega)⟩ (fun hHeld => ?_)
      clear hK K
      (try simp only [Act.put, List.setIfInBounds_toArray, List.set_cons_zero, List.set_cons_succ])
      refine wpAnyH_done (by kernel_rfl) ?_ _
      refine NoPanic.normal ?_
      generalize wm.setCell ⟨b4, 0, none⟩ (.bool true) = W9 at *
      go_wp2_with fail
      refine ⟨by simp, .inl ⟨_, _, rfl, run_takeDeferred xK, ?_⟩⟩
      have hc5 := Boxed.cell (boxed_kept x4 (grownBy_putObj' _ D (.deferred none)) (fun r e => by cases e; exact ⟨_, xK, rfl⟩))
      refine ⟨.bool true, ?_, rfl, xB.trans (belowK_b (w := w) (Nat.le_refl _) W9 D _ _ (by omega) xK rfl rfl)⟩
      simp [results, Tryd.f8, go_sem, hc5]
end Go.Proofs.YthmngibmpkgjkaaDoor
