/- Texts about the program, one after the other: DBlk, DRnd, DHi, DCon, DSm, DStp. -/
import Derived.Test.YtnhddnldebdmbaaDoorG5
import Derived.Test.YtnhddnldebdmbaaDoorG6
import Derived.OrdersIn
import Derived.Deep.Quiet
import Derived.Deep.RegionHeld
import Derived.Laws.AppendOwn
/- What blocks: the program's own. -/
namespace Go.Proofs.YtnhddnldebdmbaaDoor
open Go.RowKit Go.Shelf
set_option linter.unusedVariables false
set_option linter.unusedSimpArgs false
attribute [local go_sem] Oper.semAt_some
theorem wpIn_named {F : Fence} {n : Nat} {P : Program} {c : Code} {Q : Exit → Act → World → Prop} {a : Act} {w : World} (h : ∀ a', a' = a → Code.wpIn F n P c Q a' w) : Code.wpIn F n P c Q a w := h a rfl
theorem fm_congr {α β : Type} {f g : α → Option β} : ∀ {l : List α}, (∀ x ∈ l, f x = g x) → l.filterMap f = l.filterMap g
  | [], _ => rfl
  | a :: l, h => by
    rw [List.filterMap_cons, List.filterMap_cons, h a (by simp), fm_congr (l := l) (fun x hx => h x (by simp [hx]))]
/-! ### The tasks at places that hang on the tasks alone -/
theorem tks_range (g : Ts → Bool) : ∀ (l : List Ts) (a n : Nat), l.length ≤ n → ((List.range' a n).filter (fun k => (l[k - a]?).elim false g)).filterMap (fun k => l[k - a]?) = l.filter g
  | [], a, n, _ => by
    rw [List.filter_eq_nil_iff.2 (by simp)]
    rfl
  | x :: l, a, 0, h => by simp at h
  | x :: l, a, n + 1, h => by
    have ih := tks_range g l (a + 1) n (by simpa using h)
    have c1 : (List.range' (a + 1) n).filter (fun k => ((x :: l)[k - a]?).elim false g) = (List.range' (a + 1) n).filter (fun k => (l[k - (a + 1)]?).elim false g) := List.filter_congr fun k hk => by
      have := (List.mem_range'_1.1 hk).1
      rw [show k - a = (k - (a + 1)) + 1 by omega, List.getElem?_cons_succ]
    have c2 : ((List.range' (a + 1) n).filter (fun k => (l[k - (a + 1)]?).elim false g)).filterMap (fun k => (x :: l)[k - a]?) = ((List.range' (a + 1) n).filter (fun k => (l[k - (a + 1)]?).elim false g)).filterMap (fun k => l[k - (a + 1)]?) := fm_congr fun k hk => by
      have := (List.mem_range'_1.1 (List.mem_filter.1 hk).1).1
      rw [show k - a = (k - (a + 1)) + 1 by omega, List.getElem?_cons_succ]
    rw [List.range'_succ, List.filter_cons]
    simp only [Nat.sub_self, List.getElem?_cons_zero, Option.elim_some]
    rw [c1, List.filter_cons]
    cases hg : g x
    · simp only [Bool.false_eq_true, if_false]
      rw [c2, ih]
    · simp only [if_true]
      rw [List.filterMap_cons]
      simp only [Nat.sub_self, List.getElem?_cons_zero]
      rw [c2, ih]
theorem tksAt_eq {l : List Ts} {f : Nat → Bool} (g : Ts → Bool) (h : ∀ k, f k = (l[k]?).elim false g) (hl : l.length ≤ 1024) : tksAt l f = l.filter g := by
  have := tks_range g l 0 1024 hl
  simp only [Nat.sub_zero] at this
  rw [← this]
  unfold tksAt nums numsIn
  rw [show f = fun k => (l[k]?).elim false g from funext h]
theorem vs_len {l : List Ts} (h : Vs l) : l.length ≤ 1024 := by have := h.n1; omega
theorem lower_tks {l : List Ts} {k : Nat} {y : Ts} (hv : Vs l) (hy : l[k]? = some y) : tksAt l (lowerF l (k : Int)) = l.filter (fun x => decide (y.p < x.p)) :=
  tksAt_eq _ (fun j => by
    unfold lowerF
    rw [pAt_some hy]
    cases l[j]? <;> rfl) (vs_len hv)
theorem higher_tks {l : List Ts} {k : Nat} {y : Ts} (hv : Vs l) (hy : l[k]? = some y) : tksAt l (higherF l (k : Int)) = l.filter (fun x => decide (x.p < y.p)) :=
  tksAt_eq _ (fun j => by
    unfold higherF
    rw [pAt_some hy]
    cases l[j]? <;> rfl) (vs_len hv)
def bF (b : Int) (x : Ts) : Int := max b (x.q - 1)
theorem lower_fold (p : Int) (l : List Ts) : (l.filter (fun x => decide (p < x.p))).foldl bF 0 = blkU p l := by
  rw [List.foldl_filter]
  unfold blkU
  congr 1
  funext b x
  unfold blkUF bF
  by_cases h : p < x.p
  · rw [if_pos (by simpa using h), if_pos h]
  · rw [if_neg (by simpa using h), if_neg h]
def P1 (B0 : Nat) (T0 : TypeId) (k : Nat) (T : TypeId) : Prop := k ≠ B0 ∨ T ≠ T0
theorem p1_set {B0 : Nat} {T0 : TypeId} {V : World} {v : Value} (h : Boxed V B0 T0 v) (u : Value) : KeepG (P1 B0 T0) V (V.setCell ⟨B0, 0, none⟩ u) :=
  KeepG.setCell u fun cs T fr hc => by
    have : V.heap[B0]? = some (.cells #[v] T0 (0, 0)) := h
    rw [this] at hc
    simp only [Option.some.injEq, Obj.cells.injEq] at hc
    rintro (h | h)
    · exact h rfl
    · exact h hc.2.1.symm
theorem p1_at {B0 bl : Nat} {T0 : TypeId} {A : Option Addr} (h1 : T0 ≠ 75) (h2 : T0 ≠ 91) (hbl : bl ≠ B0) (ht : 0 ≠ B0) (hr : ∀ b o, A = some ⟨b, o, none⟩ → b ≠ B0) : AtP (P1 B0 T0) A bl :=
  ⟨fun _ => .inr (Ne.symm h1), fun _ => .inr (Ne.symm h2), fun _ => .inl hbl, fun _ => .inl ht, fun b o e _ => .inl (hr b o e)⟩
theorem at_made {A : Option Addr} {cap : Nat} {l : List Ts} {f : Nat → Bool} {w : World} (hR : Row w A cap l) (hT : Tab w) (hin : ∀ k, f k = true → k < l.length) :
    ∃ W, (w.alloc (.cells #[.slice A l.length cap] 23)).alloc (.cells (cellsL f).toArray 75) = W ∧ AtS W A cap l f (w.heap.size + 1) w.heap.size ∧ Below w.heap.size w W ∧ W.heap.size = w.heap.size + 2 := by
  have hb : Below w.heap.size w ((w.alloc (.cells #[.slice A l.length cap] 23)).alloc (.cells (cellsL f).toArray 75)) := ((Below.refl _ _).alloc (Nat.le_refl _) _).alloc (by simp) _
  refine ⟨_, rfl, ⟨?_, Boxed.alloc (Boxed.new _ _ _) _, hR.later hb, hT.below hb, hin⟩, hb, by simp⟩
  have := Box.new (w.alloc (.cells #[.slice A l.length cap] 23)) f
  rwa [World.size_alloc] at this
/-- A sum in its box. -/
theorem boxed_later2 {W W' : World} {b : Nat} {t : TypeId} {v : Value} (h : Boxed W b t v) (hb : Below W.heap.size W W') : Boxed W' b t v := (hb.block b h.lt).trans h
theorem TAt.keepG {W W' : World} {b o : Nat} {x : Ts} (h : TAt W b o x) (hk : KeepG (fun _ _ => True) W W') : TAt W' b o x := ⟨fun j v hv => hk.cell (h.r j v hv) (fun _ => trivial)⟩
def FoB (w : World) (B0 : Nat) (T0 : TypeId) (v : Value) (V : World) : Prop := Boxed V B0 T0 v ∧ Below w.heap.size w V
theorem FoB.own {w V V' : World} {B0 : Nat} {T0 : TypeId} {v : Value} {row : Option Nat} {D : Nat} (h : FoB w B0 T0 v V) (hg : V.grownBy V' row) (hr : ∀ r, row = some r → D ≤ r ∧ ∃ o : Obj, V.heap[r]? = some o ∧ o.isCells = false) (hB : w.heap.size ≤ D) : FoB w B0 T0 v V' :=
  ⟨boxed_kept h.1 hg (fun r e => (hr r e).2), h.2.grown hg h.2.size (fun k e => by have := (hr k e).1; omega)⟩
set_option maxRecDepth 100000 in
set_option maxHeartbeats 4000000 in
theorem block_in (b o cap : Nat) (l : List Ts) (k : Nat) (y : Ts) (w : World) (hR : Row w (some ⟨b, o, none⟩) cap l) (hv : Vs l) (hy : l[k]? = some y) (hT : Tab w) :
    Calls Tryd.prog 30 #[.slice (some ⟨b, o, none⟩) l.length cap, .int .i64 (k : Int)] w fun e w' => e = .returned (.int .i64 (blkU y.p l)) ∧ Below w.heap.size w w' := by
  have hk : k < l.length := (List.getElem?_eq_some_iff.1 hy).1
  have hvl := hv.n1
  have hbl : b < w.heap.size := by
    obtain ⟨b', o', x, e, _, _, h, _⟩ := hR.get hk
    cases e; exact h
  have htab := hT.pos
  have hb1 : Below w.heap.size w (w.alloc (.cells #[.int .i64 0] 2)) := (Below.refl _ _).alloc (Nat.le_refl _) _
  obtain ⟨W1, hW1, X1, R1, T1, B1, s1⟩ : ∃ W1, w.alloc (.cells #[.int .i64 0] 2) = W1 ∧ Boxed W1 w.heap.size 2 (.int .i64 0) ∧ Row W1 (some ⟨b, o, none⟩) cap l ∧ Tab W1 ∧ Below w.heap.size w W1 ∧ W1.heap.size = w.heap.size + 1 :=
    ⟨_, rfl, Boxed.new _ _ _, hR.later hb1, hT.below hb1, hb1, by simp⟩
  have KL := Lib.hid (tlower_any (some ⟨b, o, none⟩) cap l (k : Int) W1 R1 ⟨by omega, by omega⟩)
  have KA := Lib.hid (fun W => at_any (some ⟨b, o, none⟩) l.length cap (lowerF l (k : Int)) W)
  have HIN : Hid (∀ j, lowerF l (k : Int) j = true → j < l.length) := Lib.hid (fun j hj => by
    rcases Nat.lt_or_ge j l.length with h | h
    · exact h
    · rw [lowerF_far h] at hj; cases hj)
  have HLT := Lib.hid (lower_tks hv hy)
  have HF := Lib.hid (lower_fold y.p l)
  have HOK : Hid (∀ x ∈ l.filter (fun x => decide (y.p < x.p)), 1 ≤ x.q ∧ x.q ≤ 2147483647) := Lib.hid (fun x hx => ⟨(hv.all x (List.mem_filter.1 hx).1).q0, (hv.all x (List.mem_filter.1 hx).1).q1⟩)
  generalize l.filter (fun x => decide (y.p < x.p)) = L at *
  have HW1 := Lib.hid hW1
  rw [← HF.out]
  clear hR hT hb1 hv hy hvl HF hW1
  generalize lowerF l (k : Int) = f at *
  refine (callsIn_wide (n := 5)).1 ?_
  refine callsIn_of_wp_marks Tryd.func30 rfl trivial ?_ rfl
  simp only [Tryd.ntmps30, List.size_toArray, List.length_cons, List.length_nil, Nat.reduceAdd, Nat.reduceSub, Array.replicate_succ, Array.replicate_zero, List.push_toArray, List.append_toArray, List.nil_append, List.cons_append]
  refine wpIn_wide.2 ?_
  go_upto_region 2 with (fail)
  rw [HW1.out]
  clear HW1
  go_upto_region 3 with (first
    | (go_at_call 42; (with_reducible refine KL.out.mono ?_); rintro e w2 ⟨rfl, h2⟩)
    | (go_at_call 41; (with_reducible refine (KA.out _).mono ?_); rintro e w3 ⟨rfl, rfl⟩)
    | fail)
  have X2 := boxed_later2 X1 h2
  have B2 := B1.trans (h2.mono B1.size)
  have R2 := R1.later h2
  have T2 := T1.below h2
  have s2 := h2.size
  obtain ⟨W3, hW3, S3, B3, s3⟩ := at_made R2 T2 HIN.out
  rw [hW3]
  have X3 := boxed_later2 X2 B3
  have B4 := B2.trans (B3.mono B2.size)
  clear hW3 X1 X2 R1 R2 T1 T2 B1 B2 h2 KL KA HIN
  have hws := B4.size
  have HP : Hid (AtP (P1 w.heap.size 2) (some ⟨b, o, none⟩) w2.heap.size) := Lib.hid (p1_at (by decide) (by decide) (by omega) (by omega) (by rintro b' o' e; cases e; omega))
  have SQ := at1_seq (5 - 1) (by omega) (some ⟨b, o, none⟩) cap l f (w2.heap.size + 1) w2.heap.size (P1 w.heap.size 2) W3 S3 HP.out
  rw [HLT.out] at SQ
  have SQ := Lib.hid SQ
  clear S3 HP HLT
  refine (wpIn_wide (n := 5)).1 ?_
  refine wpIn_named fun fr hfr => ?_
  refine rangeG (vals := tskV) (gf := 59) (lb := #[.pointer (some ⟨w2.heap.size + 1, 0, none⟩), .pointer (some ⟨w2.heap.size, 0, none⟩)]) (by rw [hfr]; rfl) (enters_of Tryd.func59 (by kernel_rfl) rfl)
    SQ.out (Below.refl _ _) (fun x => rfl)
    (fun pre V => FoB w w.heap.size 2 (.int .i64 (pre.foldl bF 0)) V) (fun _ _ _ => False)
    (fun pre X Y row h hg hr => h.own hg hr hws) (fun c s X Y row h _ _ => h) ⟨X3, B4⟩
    (fun x a' V => ∃ Bt, TAt V Bt 0 x ∧ Bt ≠ w.heap.size ∧ a' = { tmps := (fr.tmps.setIfInBounds 12 (tsV x)).setIfInBounds 6 (.pointer (some ⟨Bt, 0, none⟩)), defers := [] })
    (fun x a' _ X Y row hs hg hr => hs.imp fun Bt h => ⟨h.1.keepG (keepG_grown hg (fun r e => (hr r e).2)), h.2⟩)
    ?assign ?body ?done ?stop
  case assign =>
    intro l2 pre x V K hi hK
    have hVs := hi.2.size
    have hlt := hi.1.lt
    have hTn := TAt.new V x
    have hIn : FoB w w.heap.size 2 (.int .i64 (pre.foldl bF 0)) (V.alloc (.cells #[.string x.n, .int .i64 x.c, .int .i64 x.t, .int .i64 x.d, .int .i64 x.j, .int .i64 x.q, .int .i64 x.p] 35)) := ⟨Boxed.alloc hi.1 _, hi.2.alloc hi.2.size _⟩
    subst hfr
    clear SQ
    gi_wp2
    exact hK _ _ ((KeepsOthers.alloc _ _).from _) (KeepG.below ((Below.refl _ _).alloc (Nat.le_refl _) _)) hIn ⟨V.heap.size, hTn, by omega, rfl⟩
  case body =>
    rintro l2 pre x a' V hi ⟨Bt, hT, hne, rfl⟩ ⟨r, hr⟩
    obtain ⟨q0, q1⟩ := HOK.out x (by rw [hr]; simp)
    have e1 : IntKind.i64.wrap (x.q - 1) = x.q - 1 := by rw [IntKind.wrap_i64]; omega
    have e2 : wrap64 (x.q - 1) = x.q - 1 := IntWalk.wrap64_in _ (by omega)
    have cb := hi.1.cell
    have fb := hi.1.frozen
    have c5 := hT.c5
    have HX := Lib.hid (fun u => p1_set hi.1 u)
    have HI := Lib.hid (fun u => (⟨Boxed.set u hi.1, hi.2.setCell (p := ⟨w.heap.size, 0, none⟩) (Nat.le_refl _) u⟩ : FoB w w.heap.size 2 u (V.setCell ⟨w.heap.size, 0, none⟩ u)))
    have HFO : Hid ((pre ++ [x]).foldl bF 0 = max (pre.foldl bF 0) (x.q - 1)) := Lib.hid (by rw [List.foldl_append]; rfl)
    generalize pre.foldl bF 0 = m at *
    subst hfr
    clear SQ HOK hT hi hr
    dsimp only [List.setIfInBounds_toArray, List.set_cons_succ, List.set_cons_zero]
    gi_wp2
    refine ⟨(KeepsOthers.setCell _ _ _).from _, HX.out _, ?_⟩
    show FoB w _ _ (.int .i64 ((pre ++ [x]).foldl bF 0)) _
    rw [HFO.out]
    exact HI.out _
  case done =>
    rintro D V hD hi hK
    have cb := hi.1.cell
    have HB := Lib.hid hi.2
    subst hfr
    clear SQ HOK hi
    go_wp2
    refine ⟨by simp, .inl ⟨_, _, rfl, run_takeDeferred hK, ?_⟩⟩
    exact ⟨.int .i64 (L.foldl bF 0), by simp [results, Tryd.f30, go_sem], rfl, HB.out.trans (belowK_b (w := w) (Nat.le_refl _) V D _ _ (by omega) hK rfl rfl)⟩
  case stop =>
    rintro D c pre x V hD hr h hK
    exact h.elim
end Go.Proofs.YtnhddnldebdmbaaDoor
/- A region that draws its order, in a round: as everywhere. -/
namespace Go.Proofs.YtnhddnldebdmbaaDoor
open Go.RowKit Go.Shelf
set_option linter.unusedVariables false

/-- An operation that is no defer statement goes in a round as everywhere. -/
theorem op_round {P : Program} {o : Oper} {a : Act} {w : World} {K : Act → World → Prop} {Q : Exit → Act → World → Prop} (l n : Nat) (hd : ∀ c, o.op ≠ .defer c) (h : o.wp P a w K Q) : o.wpIn (Fence.wide.inRound l) n P a w K Q := by
  refine ⟨fun _ _ => trivial, ?_⟩
  rw [Oper.semAt_plain _ _ _ hd]
  unfold Oper.wp at h
  generalize (execOp a.eval o).run P w = r at *
  cases r with
  | ok x w' =>
    cases x with
    | value v => exact h
    | skip => exact h
    | defer d => exact h
    | enter f args => exact ⟨fun h => by simp [Fence.inRound, Fence.wide] at h, CallsIn.inRound l ((callsIn_wide.2 h).mono fun e w'' he => by cases e <;> exact he)⟩
    | row row args => exact ⟨fun h => by simp [Fence.inRound, Fence.wide] at h, fun c cs _ => let ⟨v, w', r, s⟩ := h c cs; ⟨v, w', r, stepsIn_wide.2 s⟩⟩
    | _ => exact h.elim
  | halt x w' => cases x <;> exact h
theorem any_round {P : Program} {md : Region.Mode} {ops : Array Oper} {Q : Exit → Act → World → Prop} (l n : Nat) (hlo : ¬ LetsOut Q) (hd : ∀ (i : Nat) (o : Oper), ops[i]? = some o → ∀ c, o.op ≠ .defer c) :
    ∀ (fuel : Nat) (listed : Array Bool) (a : Act) (w : World), wpAny P md ops Q fuel listed a w → wpAnyIn (Fence.wide.inRound l) n P md ops Q fuel listed a w := by
  intro fuel
  induction fuel with
  | zero => intro listed a w h; exact h
  | succ fuel ih =>
    intro listed a w h
    refine ⟨h.1, fun i hi => ?_⟩
    have h2 := h.2 i hi
    unfold wpOp at h2
    unfold wpOpIn
    cases ho : ops[i]? with
    | none => rw [ho] at h2; exact ih _ _ _ h2
    | some o =>
      rw [ho] at h2
      simp only at h2 ⊢
      split
      · rename_i hw
        rw [if_pos hw] at h2
        exact Oper.wpIn_mono (fun a w h => ih _ a w h) (op_round l n (hd i o ho) (h2.resolve_right fun h => hlo h.2))
      · rename_i hw
        rw [if_neg hw] at h2
        exact ⟨fun _ _ => trivial, ih _ _ _ h2⟩
theorem region_round {P : Program} {id : Nat} {Q : Exit → Act → World → Prop} {a : Act} {w : World} {ops : List Oper} {l n : Nat} (hlo : ¬ LetsOut Q) (hd : ops.all (fun o => match o.op with | .defer _ => false | _ => true) = true) (hm : P.follows .mixedOrders = true) (hB : Region.lexB .any ops.toArray = true)
    (h : wpQuiet P ops.toArray (fun w' => ∃ n, w' = w.drewN n) (fun a' => ∀ w', (∃ n, w' = w.drewN n) → Q .normal a' w') ops a) : (Code.region id ops.toArray true).wpIn (Fence.wide.inRound l) n P Q a w := by
  simp only [Region.lexB, Bool.and_eq_true] at hB
  refine wpIn_region_any hm (any_round l n hlo (fun i o ho c e => ?_) _ _ _ _ ?_)
  · have := List.all_eq_true.1 hd o (List.mem_of_getElem? (by simpa using ho))
    rw [e] at this
    cases this
  · refine wpAny_of_quiet (C := fun w' => ∃ n, w' = w.drewN n) (Q := fun a' => ∀ w', (∃ n, w' = w.drewN n) → Q .normal a' w') (fun _ w' hw' h => h w' hw') _ _ _ _ ⟨1, rfl⟩ ?_
    have := wpAnyQ_lex (C := fun w' => ∃ n, w' = w.drewN n) (md := .any) hB.1 ops 0 (Array.replicate ops.toArray.size false) a (by simp) (by simpa using hB.2) h
    simpa using this

theorem region_round_any {P : Program} {id : Nat} {Q : Exit → Act → World → Prop} {a : Act} {w : World} {ops : List Oper} {l n : Nat} (hlo : ¬ LetsOut Q) (hd : ops.all (fun o => match o.op with | .defer _ => false | _ => true) = true) (hm : P.follows .mixedOrders = true)
    (h : wpAny P .any ops.toArray Q ops.toArray.size (Array.replicate ops.toArray.size false) a w.drew) : (Code.region id ops.toArray true).wpIn (Fence.wide.inRound l) n P Q a w := by
  refine wpIn_region_any hm (any_round l n hlo (fun i o ho c e => ?_) _ _ _ _ h)
  have := List.all_eq_true.1 hd o (List.mem_of_getElem? (by simpa using ho))
  rw [e] at this
  cases this
theorem region_round_held {S : World → Prop} {P : Program} {id : Nat} {Q : Exit → Act → World → Prop} {a : Act} {w : World} {ops : List Oper} {l n : Nat} (hlo : ¬ LetsOut Q) (hd : ops.all (fun o => match o.op with | .defer _ => false | _ => true) = true) (hm : P.follows .mixedOrders = true)
    (hS : S w.drew) (h : S w.drew → wpAnyH P .any ops.toArray Q S ops.toArray.size (Array.replicate ops.toArray.size false) a w.drew) : (Code.region id ops.toArray true).wpIn (Fence.wide.inRound l) n P Q a w :=
  region_round_any hlo hd hm (wpAny_of_held _ _ _ _ (h hS))
end Go.Proofs.YtnhddnldebdmbaaDoor
/- What comes ahead: the program's own. -/
namespace Go.Proofs.YtnhddnldebdmbaaDoor
open Go.RowKit Go.Shelf
set_option linter.unusedVariables false
set_option linter.unusedSimpArgs false
attribute [local go_sem] Oper.semAt_some
def hF (v s : Int) (x : Ts) : Int := satAdd s (satMul x.c (relS x v))
theorem satMul_comm (a b : Int) : satMul a b = satMul b a := by unfold satMul mulB mulN; rw [Int.mul_comm]
theorem satMul_zero (a : Int) : satMul a 0 = 0 := by unfold satMul mulB mulN endN; simp
theorem hF_zero : ∀ (l : List Ts), l.foldl (hF 0) 0 = 0
  | [] => rfl
  | x :: l => by
    have e : hF 0 0 x = 0 := by
      unfold hF relS
      rw [if_pos rfl, satMul_zero]
      rfl
    rw [List.foldl_cons, e, hF_zero l]
theorem higher_fold (p v : Int) (l : List Ts) : (l.filter (fun x => decide (x.p < p))).foldl (hF v) 0 = hiU p v l := by
  unfold hiU
  by_cases h0 : v = 0
  · rw [if_pos h0, h0]
    exact hF_zero _
  · rw [if_neg h0, List.foldl_filter]
    congr 1
    funext b x
    unfold hiUF hF relS
    by_cases h : x.p < p
    · rw [if_pos (by simpa using h), if_pos h, if_neg h0, satMul_comm]
    · rw [if_neg (by simpa using h), if_neg h]
theorem hF_u {v s : Int} {x : Ts} (hx : TsOk x) (hv : U v) (hs : U s) : U (hF v s x) := by
  unfold hF
  exact satAdd_u hs.1 (satMul_u (by have := hx.c0; omega) (relS_u hx.rel hv).1).1
theorem hF_fold_u {v : Int} (hv : U v) : ∀ (l : List Ts) (s : Int), (∀ x ∈ l, TsOk x) → U s → U (l.foldl (hF v) s)
  | [], s, _, hs => hs
  | x :: l, s, h, hs => hF_fold_u hv l _ (fun y hy => h y (by simp [hy])) (hF_u (h x (by simp)) hv hs)
/-- What the sum's loop knows. -/
structure HiB (w : World) (m v : Int) (V : World) : Prop where
  s : Boxed V (w.heap.size + 1) 36 (.int .u64 m)
  v : Boxed V w.heap.size 36 (.int .u64 v)
  b : Below w.heap.size w V
theorem HiB.later {w V V' : World} {m v : Int} (h : HiB w m v V) (hb : Below V.heap.size V V') : HiB w m v V' := ⟨boxed_later2 h.s hb, boxed_later2 h.v hb, h.b.trans (hb.mono h.b.size)⟩
theorem HiB.own {w V V' : World} {m v : Int} {row : Option Nat} {D : Nat} (h : HiB w m v V) (hg : V.grownBy V' row) (hr : ∀ r, row = some r → D ≤ r ∧ ∃ o : Obj, V.heap[r]? = some o ∧ o.isCells = false) (hB : w.heap.size ≤ D) : HiB w m v V' :=
  ⟨boxed_kept h.s hg (fun r e => (hr r e).2), boxed_kept h.v hg (fun r e => (hr r e).2), h.b.grown hg h.b.size (fun k e => by have := (hr k e).1; omega)⟩
theorem HiB.set {w V : World} {m v : Int} (h : HiB w m v V) (u : Int) : HiB w u v (V.setCell ⟨w.heap.size + 1, 0, none⟩ (.int .u64 u)) :=
  ⟨Boxed.set _ h.s, Boxed.other h.v (by omega) _, h.b.setCell (p := ⟨w.heap.size + 1, 0, none⟩) (by show w.heap.size ≤ w.heap.size + 1; omega) _⟩
/-- The cells that the region's loads read. -/
def HiC (bw Bt : Nat) (v : Int) (x : Ts) (W : World) : Prop :=
  W.cell? ⟨bw, 0, none⟩ = some (.int .u64 v) ∧ W.cell? ⟨Bt, 0, none⟩ = some (.string x.n) ∧ W.cell? ⟨Bt, 1, none⟩ = some (.int .i64 x.c) ∧ W.cell? ⟨Bt, 2, none⟩ = some (.int .i64 x.t) ∧ W.cell? ⟨Bt, 3, none⟩ = some (.int .i64 x.d) ∧ W.cell? ⟨Bt, 4, none⟩ = some (.int .i64 x.j) ∧ W.cell? ⟨Bt, 5, none⟩ = some (.int .i64 x.q) ∧ W.cell? ⟨Bt, 6, none⟩ = some (.int .i64 x.p)
theorem HiC.of {bw Bt : Nat} {v : Int} {x : Ts} {W : World} (h : Boxed W bw 36 (.int .u64 v)) (t : TAt W Bt 0 x) : HiC bw Bt v x W := by
  have c0 := t.c0; have c1 := t.c1; have c2 := t.c2; have c3 := t.c3; have c4 := t.c4; have c5 := t.c5; have c6 := t.c6
  exact ⟨h.cell, c0, by simpa using c1, by simpa using c2, by simpa using c3, by simpa using c4, by simpa using c5, by simpa using c6⟩
theorem TAt.aside {W : World} {B Bt : Nat} {x : Ts} (t : TAt W Bt 0 x) (u : Value) (h : Bt ≠ B) : TAt (W.setCell ⟨B, 0, none⟩ u) Bt 0 x := t.keep fun i => World.cell?_of_block (heap_setCell_other W ⟨B, 0, none⟩ Bt u h)
theorem keepsFrom_later {B : Nat} {W W' : World} (h : Below W.heap.size W W') : KeepsFrom B W W' := ⟨h.size, fun k o _ ho _ => (h.block k (Array.getElem?_eq_some_iff.1 ho).1).trans ho⟩
set_option maxRecDepth 100000 in
set_option maxHeartbeats 4000000 in
theorem higher_in (b o cap : Nat) (l : List Ts) (k : Nat) (y : Ts) (v : Int) (w : World) (hR : Row w (some ⟨b, o, none⟩) cap l) (hv : Vs l) (hy : l[k]? = some y) (hT : Tab w) (hu : U v) :
    Calls Tryd.prog 31 #[.slice (some ⟨b, o, none⟩) l.length cap, .int .i64 (k : Int), .int .u64 v] w fun e w' => e = .returned (.int .u64 (hiU y.p v l)) ∧ Below w.heap.size w w' := by
  have hk : k < l.length := (List.getElem?_eq_some_iff.1 hy).1
  have hvl := hv.n1
  have hbl : b < w.heap.size := by
    obtain ⟨b', o', x, e, _, _, h, _⟩ := hR.get hk
    cases e; exact h
  have htab := hT.pos
  have hb1 : Below w.heap.size w ((w.alloc (.cells #[.int .u64 v] 36)).alloc (.cells #[.int .u64 0] 36)) := ((Below.refl _ _).alloc (Nat.le_refl _) _).alloc (by simp) _
  obtain ⟨W1, hW1, X1, R1, T1, B1, s1⟩ : ∃ W1, (w.alloc (.cells #[.int .u64 v] 36)).alloc (.cells #[.int .u64 0] 36) = W1 ∧ HiB w 0 v W1 ∧ Row W1 (some ⟨b, o, none⟩) cap l ∧ Tab W1 ∧ Below w.heap.size w W1 ∧ W1.heap.size = w.heap.size + 2 :=
    ⟨_, rfl, ⟨by have := Boxed.new (w.alloc (.cells #[.int .u64 v] 36)) 36 (.int .u64 0); rwa [World.size_alloc] at this, Boxed.alloc (Boxed.new _ _ _) _, hb1⟩, hR.later hb1, hT.below hb1, hb1, by simp⟩
  have KL := Lib.hid (thigher_any (some ⟨b, o, none⟩) cap l (k : Int) W1 R1 ⟨by omega, by omega⟩)
  have KA := Lib.hid (fun W => at_any (some ⟨b, o, none⟩) l.length cap (higherF l (k : Int)) W)
  have HIN : Hid (∀ j, higherF l (k : Int) j = true → j < l.length) := Lib.hid (fun j hj => by
    rcases Nat.lt_or_ge j l.length with h | h
    · exact h
    · rw [higherF_far h] at hj; cases hj)
  have HLT := Lib.hid (higher_tks hv hy)
  have HF := Lib.hid (higher_fold y.p v l)
  have HOK : Hid (∀ x ∈ l.filter (fun x => decide (x.p < y.p)), TsOk x) := Lib.hid (fun x hx => hv.all x (List.mem_filter.1 hx).1)
  generalize l.filter (fun x => decide (x.p < y.p)) = L at *
  have HW1 := Lib.hid hW1
  rw [← HF.out]
  clear hR hT hb1 hv hy hvl HF hW1
  generalize higherF l (k : Int) = f at *
  refine (callsIn_wide (n := 5)).1 ?_
  refine callsIn_of_wp_marks Tryd.func31 rfl trivial ?_ rfl
  simp only [Tryd.ntmps31, List.size_toArray, List.length_cons, List.length_nil, Nat.reduceAdd, Nat.reduceSub, Array.replicate_succ, Array.replicate_zero, List.push_toArray, List.append_toArray, List.nil_append, List.cons_append]
  refine wpIn_wide.2 ?_
  go_upto_region 2 with (fail)
  rw [HW1.out]
  clear HW1
  go_upto_region 3 with (first
    | (go_at_call 43; (with_reducible refine KL.out.mono ?_); rintro e w2 ⟨rfl, h2⟩)
    | (go_at_call 41; (with_reducible refine (KA.out _).mono ?_); rintro e w3 ⟨rfl, rfl⟩)
    | fail)
  have X2 := X1.later h2
  have B2 := B1.trans (h2.mono B1.size)
  have R2 := R1.later h2
  have T2 := T1.below h2
  have s2 := h2.size
  obtain ⟨W3, hW3, S3, B3, s3⟩ := at_made R2 T2 HIN.out
  rw [hW3]
  have X3 := X2.later B3
  have B4 := B2.trans (B3.mono B2.size)
  clear hW3 X1 X2 R1 R2 T1 T2 B1 B2 h2 KL KA HIN
  have hws := B4.size
  have HP : Hid (AtP (P1 (w.heap.size + 1) 36) (some ⟨b, o, none⟩) w2.heap.size) := Lib.hid (p1_at (by decide) (by decide) (by omega) (by omega) (by rintro b' o' e; cases e; omega))
  have SQ := at1_seq (5 - 1) (by omega) (some ⟨b, o, none⟩) cap l f (w2.heap.size + 1) w2.heap.size (P1 (w.heap.size + 1) 36) W3 S3 HP.out
  rw [HLT.out] at SQ
  have SQ := Lib.hid SQ
  clear S3 HP HLT
  refine (wpIn_wide (n := 5)).1 ?_
  refine wpIn_named fun fr hfr => ?_
  refine rangeG (vals := tskV) (gf := 59) (lb := #[.pointer (some ⟨w2.heap.size + 1, 0, none⟩), .pointer (some ⟨w2.heap.size, 0, none⟩)]) (by rw [hfr]; rfl) (enters_of Tryd.func59 (by kernel_rfl) rfl)
    SQ.out (Below.refl _ _) (fun x => rfl)
    (fun pre V => HiB w (pre.foldl (hF v) 0) v V) (fun _ _ _ => False)
    (fun pre X Y row h hg hr => h.own hg hr hws) (fun c s X Y row h _ _ => h) X3
    (fun x a' V => ∃ Bt, TAt V Bt 0 x ∧ Bt ≠ w.heap.size + 1 ∧ a' = { tmps := (fr.tmps.setIfInBounds 14 (tsV x)).setIfInBounds 8 (.pointer (some ⟨Bt, 0, none⟩)), defers := [] })
    (fun x a' _ X Y row hs hg hr => hs.imp fun Bt h => ⟨h.1.keepG (keepG_grown hg (fun r e => (hr r e).2)), h.2⟩)
    ?assign ?body ?done ?stop
  case assign =>
    intro l2 pre x V K hi hK
    have hlt := hi.s.lt
    have hTn := TAt.new V x
    have hIn := hi.later ((Below.refl _ _).alloc (Nat.le_refl _) (.cells #[.string x.n, .int .i64 x.c, .int .i64 x.t, .int .i64 x.d, .int .i64 x.j, .int .i64 x.q, .int .i64 x.p] 35))
    subst hfr
    clear SQ
    gi_wp2
    exact hK _ _ ((KeepsOthers.alloc _ _).from _) (KeepG.below ((Below.refl _ _).alloc (Nat.le_refl _) _)) hIn ⟨V.heap.size, hTn, by omega, rfl⟩
  case body =>
    rintro l2 pre x a' V hi ⟨Bt, hT, hne, rfl⟩ ⟨r, hr⟩
    have hok := HOK.out x (by rw [hr]; simp)
    have hpu : U (pre.foldl (hF v) 0) := hF_fold_u hu pre 0 (fun z hz => HOK.out z (by rw [hr]; simp [hz])) ⟨by decide, by decide⟩
    have HFO : Hid ((pre ++ [x]).foldl (hF v) 0 = satSum (pre.foldl (hF v) 0) [satMul x.c (relS x v)]) := Lib.hid (by rw [List.foldl_append]; rfl)
    generalize pre.foldl (hF v) 0 = m at *
    obtain ⟨c0', c1'⟩ : 1 ≤ x.c ∧ x.c ≤ 2147483647 := ⟨hok.c0, hok.c1⟩
    have e1 : IntKind.u64.wrap x.c = x.c := by rw [IntKind.wrap_u64]; omega
    have hru := relS_u hok.rel hu
    have hmu : U (satMul x.c (relS x v)) := satMul_u (by omega) hru.1
    have KR := Lib.hid (fun W => rel_any x v W hok.rel hu)
    have KT := Lib.hid (fun W => times_any x.c (relS x v) (by omega) (by omega) hru.1 hru.2 W)
    have KS := Lib.hid (fun W vv (hn : Nums W vv [satMul x.c (relS x v)]) => sum_nums m vv [satMul x.c (relS x v)] hpu.1 hpu.2 W hn (by intro n hn; obtain rfl := List.mem_singleton.1 hn; exact hmu))
    have eT : endN (mulB x.c (relS x v)) (mulN x.c (relS x v)) = satMul x.c (relS x v) := rfl
    rw [eT] at KT
    have HN := Lib.hid (fun W => one_new W (satMul x.c (relS x v)))
    have HI0 := Lib.hid (hi.later (below_drew V))
    have HT0 := Lib.hid (hT.later (below_drew V))
    generalize satMul x.c (relS x v) = u at *
    generalize relS x v = rl at *
    generalize satSum m [u] = m' at *
    have FIN : Hid (∀ (W : World), Hid (HiB w m v W) → Hid (Below V.heap.size V W) → KeepsFrom W3.heap.size V (W.setCell ⟨w.heap.size + 1, 0, none⟩ (.int .u64 m')) ∧ KeepG (P1 (w.heap.size + 1) 36) V (W.setCell ⟨w.heap.size + 1, 0, none⟩ (.int .u64 m')) ∧ HiB w ((pre ++ [x]).foldl (hF v) 0) v (W.setCell ⟨w.heap.size + 1, 0, none⟩ (.int .u64 m'))) := Lib.hid (fun W hi hb => by
      refine ⟨(keepsFrom_later hb.out).trans ((KeepsOthers.setCell _ _ _).from _), (KeepG.below hb.out).trans (p1_set hi.out.s _), ?_⟩
      rw [HFO.out]
      exact hi.out.set _)
    subst hfr
    clear SQ HOK hT hi hr hok hru hmu hpu eT hu
    dsimp only [List.setIfInBounds_toArray, List.set_cons_succ, List.set_cons_zero]
    gi_wp2
    have HC0 := HiC.of HI0.out.v HT0.out
    refine region_round_held (S := HiC w.heap.size Bt v x) (by rintro ⟨_, _, h⟩; exact h) (by kernel_rfl) (by kernel_rfl) HC0 (fun hHeld => ?_)
    clear HC0
    refine wpAnyH_take (i := 1) (oi := ⟨some 16, _, _, _, _, _⟩) (v := .pointer (some ⟨Bt, 1, none⟩)) rfl (by kernel_rfl) (by kernel_rfl) (by kernel_rfl) (fun _ _ _ h => h) (Or.inl ⟨by rfl, ?_⟩) (by assumption) ?_
    · intro w0 hSw
      obtain ⟨sv, s0, s1, s2, s3, s4, s5, s6⟩ := hSw
      go_simp
      (try with_reducible rfl)
    (try simp only [Act.put, List.setIfInBounds_toArray, List.set_cons_zero, List.set_cons_succ])
    refine wpAnyH_take (i := 2) (oi := ⟨some 17, _, _, _, _, _⟩) (v := .int .i64 x.c) rfl (by kernel_rfl) (by kernel_rfl) (by kernel_rfl) (fun _ _ _ h => h) (Or.inl ⟨by rfl, ?_⟩) (by assumption) ?_
    · intro w0 hSw
      obtain ⟨sv, s0, s1, s2, s3, s4, s5, s6⟩ := hSw
      go_simp
      (try with_reducible rfl)
    (try simp only [Act.put, List.setIfInBounds_toArray, List.set_cons_zero, List.set_cons_succ])
    refine wpAnyH_take (i := 3) (oi := ⟨some 18, _, _, _, _, _⟩) (v := .int .u64 x.c) rfl (by kernel_rfl) (by kernel_rfl) (by kernel_rfl) (fun _ _ _ h => h) (Or.inl ⟨by rfl, ?_⟩) (by assumption) ?_
    · intro w0 hSw
      obtain ⟨sv, s0, s1, s2, s3, s4, s5, s6⟩ := hSw
      go_simp
      (try with_reducible rfl)
    (try simp only [Act.put, List.setIfInBounds_toArray, List.set_cons_zero, List.set_cons_succ])
    refine wpAnyH_take (i := 4) (oi := ⟨some 19, _, _, _, _, _⟩) (v := tsV x) rfl (by kernel_rfl) (by kernel_rfl) (by kernel_rfl) (fun _ _ _ h => h) (Or.inl ⟨by rfl, ?_⟩) (by assumption) ?_
    · intro w0 hSw
      obtain ⟨sv, s0, s1, s2, s3, s4, s5, s6⟩ := hSw
      go_simp
      (try with_reducible rfl)
    (try simp only [Act.put, List.setIfInBounds_toArray, List.set_cons_zero, List.set_cons_succ])
    refine wpAnyH_take (i := 5) (oi := ⟨some 20, _, _, _, _, _⟩) (v := .int .u64 v) rfl (by kernel_rfl) (by kernel_rfl) (by kernel_rfl) (fun _ _ _ h => h) (Or.inl ⟨by rfl, ?_⟩) (by assumption) ?_
    · intro w0 hSw
      obtain ⟨sv, s0, s1, s2, s3, s4, s5, s6⟩ := hSw
      go_simp
      (try with_reducible rfl)
    (try simp only [Act.put, List.setIfInBounds_toArray, List.set_cons_zero, List.set_cons_succ])
    have HI := HI0
    have HT := HT0
    have HB := Lib.hid (below_drew V)
    refine wpAnyH_ready (rs := [0, 6]) (by kernel_rfl) (by simp) ?_
    refine AllReadyH.cons (o := ⟨some 15, _, _, _, _, _⟩) rfl (fun K hK => ?_) (AllReadyH.cons (o := ⟨some 21, _, _, _, _, _⟩) rfl (fun K hK => ?_) AllReadyH.nil)
    · have HI := HI
      have sc := HI.out.s.cell
      go_simp
      refine hK.out _ _ (by assumption) (fun hHeld => ?_)
      clear hK K
      (try simp only [Act.put, List.setIfInBounds_toArray, List.set_cons_zero, List.set_cons_succ])
      refine wpAnyH_ready (rs := [6]) (by kernel_rfl) (by simp) ?_
      refine AllReadyH.cons (o := ⟨some 21, _, _, _, _, _⟩) rfl (fun K hK => ?_) AllReadyH.nil
      go_simp
      go_at_call 45
      refine (KR.out _).mono ?_
      rintro e w5 ⟨rfl, h5⟩
      have HI := Lib.hid (HI.out.later h5)
      have HT := Lib.hid (HT.out.later h5)
      have HB := Lib.hid (Below.trans (below_drew V) h5)
      clear h5
      refine hK.out _ _ (HiC.of HI.out.v HT.out) (fun hHeld => ?_)
      clear hK K
      (try simp only [Act.put, List.setIfInBounds_toArray, List.set_cons_zero, List.set_cons_succ])
      refine wpAnyH_ready (rs := [7]) (by kernel_rfl) (by simp) ?_
      refine AllReadyH.cons (o := ⟨some 22, _, _, _, _, _⟩) rfl (fun K hK => ?_) AllReadyH.nil
      go_simp
      go_at_call 44
      refine (KT.out _).mono ?_
      rintro e w6 ⟨rfl, rfl⟩
      refine hK.out _ _ (by assumption) (fun hHeld => ?_)
      clear hK K
      (try simp only [Act.put, List.setIfInBounds_toArray, List.set_cons_zero, List.set_cons_succ])
      refine wpAnyH_ready (rs := [8]) (by kernel_rfl) (by simp) ?_
      refine AllReadyH.cons (o := ⟨some 23, _, _, _, _, _⟩) rfl (fun K hK => ?_) AllReadyH.nil
      go_simp
      have HI := Lib.hid (HI.out.later ((Below.refl _ _).alloc (Nat.le_refl _) (.cells #[.int .u64 u] 36)))
      have HT := Lib.hid (HT.out.later ((Below.refl _ _).alloc (Nat.le_refl _) (.cells #[.int .u64 u] 36)))
      have HB := Lib.hid (Below.alloc HB.out (Below.size HB.out) (.cells #[.int .u64 u] 36))
      refine hK.out _ _ (HiC.of HI.out.v HT.out) (fun hHeld => ?_)
      clear hK K
      (try simp only [Act.put, List.setIfInBounds_toArray, List.set_cons_zero, List.set_cons_succ])
      refine wpAnyH_ready (rs := [9]) (by kernel_rfl) (by simp) ?_
      refine AllReadyH.cons (o := ⟨some 24, _, _, _, _, _⟩) rfl (fun K hK => ?_) AllReadyH.nil
      go_simp
      go_at_call 29
      refine (KS.out _ _ (HN.out _)).mono ?_
      rintro e w7 ⟨rfl, rfl⟩
      refine hK.out _ _ (by assumption) (fun hHeld => ?_)
      clear hK K
      (try simp only [Act.put, List.setIfInBounds_toArray, List.set_cons_zero, List.set_cons_succ])
      refine wpAnyH_ready (rs := [10]) (by kernel_rfl) (by simp) ?_
      refine AllReadyH.cons (o := ⟨none, _, _, _, _, _⟩) rfl (fun K hK => ?_) AllReadyH.nil
      have sf := HI.out.s.frozen
      have sc := HI.out.s.cell
      go_simp
      refine hK.out _ _ (HiC.of (HI.out.set m').v (HT.out.aside _ hne)) (fun hHeld => ?_)
      clear hK K
      (try simp only [Act.put, List.setIfInBounds_toArray, List.set_cons_zero, List.set_cons_succ])
      refine wpAnyH_done (by kernel_rfl) ?_ _
      exact FIN.out _ HI HB
    · have HI := HI
      go_simp
      go_at_call 45
      refine (KR.out _).mono ?_
      rintro e w5 ⟨rfl, h5⟩
      have HI := Lib.hid (HI.out.later h5)
      have HT := Lib.hid (HT.out.later h5)
      have HB := Lib.hid (Below.trans (below_drew V) h5)
      clear h5
      refine hK.out _ _ (HiC.of HI.out.v HT.out) (fun hHeld => ?_)
      clear hK K
      (try simp only [Act.put, List.setIfInBounds_toArray, List.set_cons_zero, List.set_cons_succ])
      refine wpAnyH_ready (rs := [0, 7]) (by kernel_rfl) (by simp) ?_
      refine AllReadyH.cons (o := ⟨some 15, _, _, _, _, _⟩) rfl (fun K hK => ?_) (AllReadyH.cons (o := ⟨some 22, _, _, _, _, _⟩) rfl (fun K hK => ?_) AllReadyH.nil)
      · have HI := HI
        have sc := HI.out.s.cell
        go_simp
        refine hK.out _ _ (by assumption) (fun hHeld => ?_)
        clear hK K
        (try simp only [Act.put, List.setIfInBounds_toArray, List.set_cons_zero, List.set_cons_succ])
        refine wpAnyH_ready (rs := [7]) (by kernel_rfl) (by simp) ?_
        refine AllReadyH.cons (o := ⟨some 22, _, _, _, _, _⟩) rfl (fun K hK => ?_) AllReadyH.nil
        go_simp
        go_at_call 44
        refine (KT.out _).mono ?_
        rintro e w6 ⟨rfl, rfl⟩
        refine hK.out _ _ (by assumption) (fun hHeld => ?_)
        clear hK K
        (try simp only [Act.put, List.setIfInBounds_toArray, List.set_cons_zero, List.set_cons_succ])
        refine wpAnyH_ready (rs := [8]) (by kernel_rfl) (by simp) ?_
        refine AllReadyH.cons (o := ⟨some 23, _, _, _, _, _⟩) rfl (fun K hK => ?_) AllReadyH.nil
        go_simp
        have HI := Lib.hid (HI.out.later ((Below.refl _ _).alloc (Nat.le_refl _) (.cells #[.int .u64 u] 36)))
        have HT := Lib.hid (HT.out.later ((Below.refl _ _).alloc (Nat.le_refl _) (.cells #[.int .u64 u] 36)))
        have HB := Lib.hid (Below.alloc HB.out (Below.size HB.out) (.cells #[.int .u64 u] 36))
        refine hK.out _ _ (HiC.of HI.out.v HT.out) (fun hHeld => ?_)
        clear hK K
        (try simp only [Act.put, List.setIfInBounds_toArray, List.set_cons_zero, List.set_cons_succ])
        refine wpAnyH_ready (rs := [9]) (by kernel_rfl) (by simp) ?_
        refine AllReadyH.cons (o := ⟨some 24, _, _, _, _, _⟩) rfl (fun K hK => ?_) AllReadyH.nil
        go_simp
        go_at_call 29
        refine (KS.out _ _ (HN.out _)).mono ?_
        rintro e w7 ⟨rfl, rfl⟩
        refine hK.out _ _ (by assumption) (fun hHeld => ?_)
        clear hK K
        (try simp only [Act.put, List.setIfInBounds_toArray, List.set_cons_zero, List.set_cons_succ])
        refine wpAnyH_ready (rs := [10]) (by kernel_rfl) (by simp) ?_
        refine AllReadyH.cons (o := ⟨none, _, _, _, _, _⟩) rfl (fun K hK => ?_) AllReadyH.nil
        have sf := HI.out.s.frozen
        have sc := HI.out.s.cell
        go_simp
        refine hK.out _ _ (HiC.of (HI.out.set m').v (HT.out.aside _ hne)) (fun hHeld => ?_)
        clear hK K
        (try simp only [Act.put, List.setIfInBounds_toArray, List.set_cons_zero, List.set_cons_succ])
        refine wpAnyH_done (by kernel_rfl) ?_ _
        exact FIN.out _ HI HB
      · have HI := HI
        go_simp
        go_at_call 44
        refine (KT.out _).mono ?_
        rintro e w6 ⟨rfl, rfl⟩
        refine hK.out _ _ (by assumption) (fun hHeld => ?_)
        clear hK K
        (try simp only [Act.put, List.setIfInBounds_toArray, List.set_cons_zero, List.set_cons_succ])
        refine wpAnyH_ready (rs := [0, 8]) (by kernel_rfl) (by simp) ?_
        refine AllReadyH.cons (o := ⟨some 15, _, _, _, _, _⟩) rfl (fun K hK => ?_) (AllReadyH.cons (o := ⟨some 23, _, _, _, _, _⟩) rfl (fun K hK => ?_) AllReadyH.nil)
        · have HI := HI
          have sc := HI.out.s.cell
          go_simp
          refine hK.out _ _ (by assumption) (fun hHeld => ?_)
          clear hK K
          (try simp only [Act.put, List.setIfInBounds_toArray, List.set_cons_zero, List.set_cons_succ])
          refine wpAnyH_ready (rs := [8]) (by kernel_rfl) (by simp) ?_
          refine AllReadyH.cons (o := ⟨some 23, _, _, _, _, _⟩) rfl (fun K hK => ?_) AllReadyH.nil
          go_simp
          have HI := Lib.hid (HI.out.later ((Below.refl _ _).alloc (Nat.le_refl _) (.cells #[.int .u64 u] 36)))
          have HT := Lib.hid (HT.out.later ((Below.refl _ _).alloc (Nat.le_refl _) (.cells #[.int .u64 u] 36)))
          have HB := Lib.hid (Below.alloc HB.out (Below.size HB.out) (.cells #[.int .u64 u] 36))
          refine hK.out _ _ (HiC.of HI.out.v HT.out) (fun hHeld => ?_)
          clear hK K
          (try simp only [Act.put, List.setIfInBounds_toArray, List.set_cons_zero, List.set_cons_succ])
          refine wpAnyH_ready (rs := [9]) (by kernel_rfl) (by simp) ?_
          refine AllReadyH.cons (o := ⟨some 24, _, _, _, _, _⟩) rfl (fun K hK => ?_) AllReadyH.nil
          go_simp
          go_at_call 29
          refine (KS.out _ _ (HN.out _)).mono ?_
          rintro e w7 ⟨rfl, rfl⟩
          refine hK.out _ _ (by assumption) (fun hHeld => ?_)
          clear hK K
          (try simp only [Act.put, List.setIfInBounds_toArray, List.set_cons_zero, List.set_cons_succ])
          refine wpAnyH_ready (rs := [10]) (by kernel_rfl) (by simp) ?_
          refine AllReadyH.cons (o := ⟨none, _, _, _, _, _⟩) rfl (fun K hK => ?_) AllReadyH.nil
          have sf := HI.out.s.frozen
          have sc := HI.out.s.cell
          go_simp
          refine hK.out _ _ (HiC.of (HI.out.set m').v (HT.out.aside _ hne)) (fun hHeld => ?_)
          clear hK K
          (try simp only [Act.put, List.setIfInBounds_toArray, List.set_cons_zero, List.set_cons_succ])
          refine wpAnyH_done (by kernel_rfl) ?_ _
          exact FIN.out _ HI HB
        · have HI := HI
          go_simp
          have HI := Lib.hid (HI.out.later ((Below.refl _ _).alloc (Nat.le_refl _) (.cells #[.int .u64 u] 36)))
          have HT := Lib.hid (HT.out.later ((Below.refl _ _).alloc (Nat.le_refl _) (.cells #[.int .u64 u] 36)))
          have HB := Lib.hid (Below.alloc HB.out (Below.size HB.out) (.cells #[.int .u64 u] 36))
          refine hK.out _ _ (HiC.of HI.out.v HT.out) (fun hHeld => ?_)
          clear hK K
          (try simp only [Act.put, List.setIfInBounds_toArray, List.set_cons_zero, List.set_cons_succ])
          refine wpAnyH_ready (rs := [0]) (by kernel_rfl) (by simp) ?_
          refine AllReadyH.cons (o := ⟨some 15, _, _, _, _, _⟩) rfl (fun K hK => ?_) AllReadyH.nil
          have sc := HI.out.s.cell
          go_simp
          refine hK.out _ _ (by assumption) (fun hHeld => ?_)
          clear hK K
          (try simp only [Act.put, List.setIfInBounds_toArray, List.set_cons_zero, List.set_cons_succ])
          refine wpAnyH_ready (rs := [9]) (by kernel_rfl) (by simp) ?_
          refine AllReadyH.cons (o := ⟨some 24, _, _, _, _, _⟩) rfl (fun K hK => ?_) AllReadyH.nil
          go_simp
          go_at_call 29
          refine (KS.out _ _ (HN.out _)).mono ?_
          rintro e w7 ⟨rfl, rfl⟩
          refine hK.out _ _ (by assumption) (fun hHeld => ?_)
          clear hK K
          (try simp only [Act.put, List.setIfInBounds_toArray, List.set_cons_zero, List.set_cons_succ])
          refine wpAnyH_ready (rs := [10]) (by kernel_rfl) (by simp) ?_
          refine AllReadyH.cons (o := ⟨none, _, _, _, _, _⟩) rfl (fun K hK => ?_) AllReadyH.nil
          have sf := HI.out.s.frozen
          have sc := HI.out.s.cell
          go_simp
          refine hK.out _ _ (HiC.of (HI.out.set m').v (HT.out.aside _ hne)) (fun hHeld => ?_)
          clear hK K
          (try simp only [Act.put, List.setIfInBounds_toArray, List.set_cons_zero, List.set_cons_succ])
          refine wpAnyH_done (by kernel_rfl) ?_ _
          exact FIN.out _ HI HB
  case done =>
    rintro D V hD hi hK
    have cb := hi.s.cell
    have HB := Lib.hid hi.b
    subst hfr
    clear SQ HOK hi
    go_wp2
    refine ⟨by simp, .inl ⟨_, _, rfl, run_takeDeferred hK, ?_⟩⟩
    exact ⟨.int .u64 (L.foldl (hF v) 0), by simp [results, Tryd.f31, go_sem], rfl, HB.out.trans (belowK_b (w := w) (Nat.le_refl _) V D _ _ (by omega) hK rfl rfl)⟩
  case stop =>
    rintro D c pre x V hD hr h hK
    exact h.elim
end Go.Proofs.YtnhddnldebdmbaaDoor
/- Block, Higher, Need: the program's own. -/
namespace Go.Proofs.YtnhddnldebdmbaaDoor
open Go.RowKit
set_option linter.unusedVariables false
set_option linter.unusedSimpArgs false
theorem two_nums (W V : World) (a b : Int) (hc : ∀ i u, V.cell? ⟨W.heap.size, i, none⟩ = some u ↔ (#[Value.int .u64 a, .int .u64 b] : Array Value)[i]? = some u) : Nums V (.slice (some ⟨W.heap.size, 0, none⟩) 2 2) [a, b] := by
  refine .inr ⟨⟨W.heap.size, 0, none⟩, 2, rfl, by simp, by unfold maxLen; omega, fun i hi => ?_⟩
  rw [add_none, Nat.zero_add]
  match i, hi with
  | 0, _ => exact (hc 0 _).2 rfl
  | 1, _ => exact (hc 1 _).2 rfl
theorem two_new (W : World) (a b : Int) : Nums (W.alloc (.cells #[.int .u64 a, .int .u64 b] 36)) (.slice (some ⟨W.heap.size, 0, none⟩) 2 2) [a, b] :=
  two_nums W _ a b fun i u => by rw [cell_of_row _ _ i _ _ _ (heap_alloc_new W _)]
theorem satSum_need {c b h : Int} (hc : 0 ≤ c) (hc1 : c ≤ 18446744073709551615) : satSum 0 [c, b, h] = satSum c [b, h] := satSum_head c [b, h] hc1
set_option maxRecDepth 100000 in
set_option maxHeartbeats 8000000 in
theorem need_any (A : Option Addr) (cap : Nat) (l : List Ts) (i v : Int) (w : World) (hR : Row w A cap l) (hi : in64 i) (hv0 : U v) (hT : Tab w) :
    Calls Tryd.prog 15 #[.slice A l.length cap, .int .i64 i, .int .u64 v] w fun e w' => e = .returned (.int .u64 (needI l i v)) ∧ Below w.heap.size w w' := by
  have K := Lib.hid (dmay_any A cap l i w hR hi)
  cases hb : isB l i
  · rw [hb] at K
    have e : needI l i v = 0 := by unfold needI; rw [hb]; rfl
    rw [e]
    clear hb e hR
    generalize l.length = N at *
    go_enter Tryd.func15, Tryd.ntmps15
    go_wp2_with (go_at_call 28; (with_reducible refine K.out.mono ?_); rintro e w1 ⟨rfl, h⟩)
    go_ret
    exact ⟨rfl, h⟩
  · rw [hb] at K
    have hv := isB_vs hb
    obtain ⟨ki, y, rfl, hki, hy⟩ := isB_get hb
    have hok := hv.all y (List.mem_of_getElem? hy)
    have y0 : 0 ≤ y.c := by have := hok.c0; omega
    have y1 := hok.c1
    have hbb := blockI_bd l ki
    have hhu := higherI_u l ki v hv0
    have hE : needI l (ki : Int) v = satSum y.c [blockI l ki, higherI l ki v] := by unfold needI; rw [hb, if_pos rfl, (pOf_get hy).2, satSum_need y0 (by omega)]
    have hB : blockI l (ki : Int) = blkU y.p l := by unfold blockI; rw [hb, if_pos rfl, (pOf_get hy).1]
    have hH : higherI l (ki : Int) v = hiU y.p v l := by unfold higherI; rw [hb, if_pos rfl, (pOf_get hy).1]
    rw [hE]
    obtain ⟨b, o, x, rfl, hx, -, hbl, hTx⟩ := hR.get hki
    obtain rfl : y = x := by have := hy.symm.trans hx; simpa using this
    have KB := Lib.hid (fun W (h : Lt w W) => block_in b o cap l ki y W (hR.later h) hv hy (hT.below h))
    have KH := Lib.hid (fun W (h : Lt w W) => higher_in b o cap l ki y v W (hR.later h) hv hy (hT.below h) hv0)
    rw [← hB] at KB
    rw [← hH] at KH
    have hw1 : IntKind.u64.wrap y.c = y.c := by rw [IntKind.wrap_u64]; omega
    have hw2 : IntKind.u64.wrap (blockI l ki) = blockI l ki := by rw [IntKind.wrap_u64]; omega
    have KS := Lib.hid (fun V u (hu : Nums V u [blockI l ki, higherI l ki v]) => sum_nums y.c u [blockI l ki, higherI l ki v] y0 (by omega) V hu (by
      intro n hn
      simp only [List.mem_cons, List.not_mem_nil, or_false] at hn
      rcases hn with rfl | rfl
      · omega
      · exact hhu))
    have HN2 := Lib.hid (fun W => two_new W (blockI l ki) (higherI l ki v))
    have HTX := Lib.hid hTx
    have HLE := Lib.hid (show l.length ≤ cap ∧ cap ≤ 9223372036854775807 from ⟨hR.le, hR.mx⟩)
    generalize satSum y.c [blockI l ki, higherI l ki v] = r at *
    generalize blockI l ki = bk at *
    generalize higherI l ki v = hh at *
    clear hb hE hB hH hR hv hy hx hT hok hhu hTx
    generalize l.length = N at *
    obtain ⟨hle, hmx⟩ := HLE.out
    have hI0 : (0 : Int) ≤ (ki : Int) := by omega
    have hI1 : (ki : Int) < ((N : Nat) : Int) := by omega
    go_enter Tryd.func15, Tryd.ntmps15
    go_upto_region 3 with (go_at_call 28; (with_reducible refine K.out.mono ?_); rintro e w1 ⟨rfl, h⟩; have HL := Lib.hid (show Lt w w1 from h); have HT := Lib.hid (HTX.out.later h); have c1 := HT.out.c1; clear h)
    go_region_law (first
      | (go_simp; go_at_call 30; (with_reducible refine (KB.out _ (by first | exact HL.out | exact lt_step _ _ HL.out (below_drew _))).mono ?_); rintro e w2 ⟨rfl, h⟩; have HL2 := Lib.hid (lt_step _ _ (show Lt w _ by first | exact HL.out | exact lt_step _ _ HL.out (below_drew _)) h); have HT2 := Lib.hid ((HT.out.later (show Below w1.heap.size w1 _ by first | exact Below.refl _ _ | exact below_drew w1)).later h); have c1 := HT2.out.c1; clear h)
      | (go_simp; go_at_call 31; (with_reducible refine (KH.out _ (by first | exact HL2.out | exact lt_step _ _ HL2.out (below_drew _))).mono ?_); rintro e w3 ⟨rfl, h⟩; have HL3 := Lib.hid (lt_step _ _ (show Lt w _ by first | exact HL2.out | exact lt_step _ _ HL2.out (below_drew _)) h); have HT3 := Lib.hid ((HT2.out.later (show Below w2.heap.size w2 _ by first | exact Below.refl _ _ | exact below_drew w2)).later h); have c1 := HT3.out.c1; have c1a := (HT3.out.alloc (.cells #[.int .u64 bk, .int .u64 hh] 36)).c1; clear h)
      | (go_simp; go_at_call 29; (with_reducible refine (KS.out _ _ (HN2.out _)).mono ?_); rintro e w4 ⟨rfl, rfl⟩)
      | fail)
    all_goals
      go_wp2
      go_ret
      exact ⟨rfl, lt_step _ _ HL3.out ((Below.refl _ _).alloc (Nat.le_refl _) _)⟩
end Go.Proofs.YtnhddnldebdmbaaDoor
/- Sets by numbers: what the laws ask of them. -/
namespace Go.Proofs.YtnhddnldebdmbaaDoor
open Go.RowKit
set_option linter.unusedVariables false
set_option linter.unusedSimpArgs false
/-- A set by numbers. -/
structure St (ts : List Ts) : Prop where
  n1 : 1 ≤ ts.length
  n6 : ts.length ≤ 6
  d : Dist ts
  s : SFs ts
  p : ∀ (i : Nat) (x : Ts), ts[i]? = some x → 1 ≤ x.p ∧ x.p ≤ 8
theorem St.chk {ts : List Ts} (h : St ts) : (chkAll ts).2 = 0 := set_ok h.n1 (by have := h.n6; omega) h.d h.s h.p
theorem St.vs {ts : List Ts} (h : St ts) : Vs ts := vs_of h.chk
theorem isB_at {l : List Ts} {k : Nat} {y : Ts} (hc : (chkAll l).2 = 0) (hy : l[k]? = some y) : isB l (k : Int) = true := by
  have hk := (List.getElem?_eq_some_iff.1 hy).1
  unfold isB
  rw [decide_eq_true hc, decide_eq_true (show (0 : Int) ≤ (k : Int) by omega), decide_eq_true (show (k : Int) < (l.length : Int) by omega)]
  rfl
theorem block_at {l : List Ts} {k : Nat} {y : Ts} (hc : (chkAll l).2 = 0) (hy : l[k]? = some y) : blockI l (k : Int) = blkU y.p l := by
  unfold blockI
  rw [isB_at hc hy, if_pos rfl, (pOf_get hy).1]
theorem higher_at {l : List Ts} {k : Nat} {y : Ts} (hc : (chkAll l).2 = 0) (hy : l[k]? = some y) (v : Int) : higherI l (k : Int) v = hiU y.p v l := by
  unfold higherI
  rw [isB_at hc hy, if_pos rfl, (pOf_get hy).1]
theorem need_at {l : List Ts} {k : Nat} {y : Ts} (hc : (chkAll l).2 = 0) (hy : l[k]? = some y) (v : Int) : needI l (k : Int) v = satSum 0 [y.c, blkU y.p l, hiU y.p v l] := by
  unfold needI
  rw [isB_at hc hy, if_pos rfl, (pOf_get hy).2, block_at hc hy, higher_at hc hy]
theorem St.sf {ts : List Ts} (h : St ts) {x : Ts} (hx : x ∈ ts) : ∃ i, SF i x := by
  obtain ⟨i, hi, rfl⟩ := List.getElem_of_mem hx
  exact ⟨i, h.s i _ (List.getElem?_eq_getElem hi)⟩
theorem St.fits {ts : List Ts} (h : St ts) {w : Int} (h0 : 0 ≤ w) (h1 : w ≤ 1099511627776) : Fits 5000000000000 w ts := by
  have h6 := h.n6
  refine ⟨fun x hx => ?_, fun x hx => ?_, by omega, by omega⟩
  · obtain ⟨i, s⟩ := h.sf hx
    have := s.d0; have := s.d1; have := s.c0
    omega
  · obtain ⟨i, s⟩ := h.sf hx
    have d0 := s.d0; have d1 := s.d1; have c0 := s.c0; have c1 := s.c1; have j0 := s.j0; have t0 := s.t0
    have e := ceilI_le (a := w + x.j) (t := x.t) (by omega) (by omega)
    have e0 := ceilI_nonneg (a := w + x.j) (t := x.t) (by omega) (by omega)
    have m : ceilI (w + x.j) x.t * x.c ≤ (w + x.j) * 4 := Int.mul_le_mul e c1 (by omega) (by omega)
    omega
/-- The work ahead, as a sum. -/
theorem St.hi {ts : List Ts} (h : St ts) {w : Int} (h0 : 0 ≤ w) (h1 : w ≤ 1099511627776) (p : Int) : hiU p w ts = if w = 0 then 0 else (ts.map (addH p w)).sum := by
  split
  · rename_i e; subst e; rfl
  · exact hiU_fits h.vs (by omega) (h.fits h0 h1)
theorem sum_bd {l : List Ts} {f : Ts → Int} {B : Int} (hf : ∀ x ∈ l, 0 ≤ f x ∧ f x ≤ B) : 0 ≤ (l.map f).sum ∧ (l.map f).sum ≤ (l.length : Int) * B := by
  induction l with
  | nil => simp
  | cons a r ih =>
    have := hf a (by simp)
    have := ih fun x hx => hf x (by simp [hx])
    simp only [List.map_cons, List.sum_cons, List.length_cons, Int.natCast_succ, Int.add_mul, Int.one_mul]
    omega
theorem St.hi_bd {ts : List Ts} (h : St ts) {w : Int} (h0 : 0 ≤ w) (h1 : w ≤ 1099511627776) (p : Int) : 0 ≤ (ts.map (addH p w)).sum ∧ (ts.map (addH p w)).sum ≤ 30000000000000 := by
  have hb := sum_bd (l := ts) (f := addH p w) (B := 5000000000000) fun x hx => ⟨addH_nonneg (h.vs.all x hx) h0, by
    have := (h.fits h0 h1).b x hx
    unfold addH
    split <;> omega⟩
  have h6 := h.n6
  omega
theorem St.all_bd {ts : List Ts} (h : St ts) (p : Int) (j : Nat) : 0 ≤ allC p (ts.take j) ∧ allC p (ts.take j) ≤ 24 := by
  have hb := sum_bd (l := ts.take j) (f := fun x => if x.p < p then x.c else 0) (B := 4) fun x hx => by
    obtain ⟨i, s⟩ := h.sf (List.mem_of_mem_take hx)
    have := s.c0; have := s.c1
    split <;> omega
  have h6 := h.n6
  have hl : (ts.take j).length ≤ 6 := by rw [List.length_take]; omega
  unfold allC
  omega
theorem allC_snoc {p : Int} {l : List Ts} {j : Nat} {x : Ts} (hx : l[j]? = some x) : allC p (l.take (j + 1)) = allC p (l.take j) + if x.p < p then x.c else 0 := by
  obtain ⟨hk, e⟩ := List.getElem?_eq_some_iff.1 hx
  unfold allC
  rw [List.take_succ_eq_append_getElem hk, List.map_append, List.sum_append, e]
  simp
theorem St.blk_bd {ts : List Ts} (h : St ts) (p : Int) : 0 ≤ blkU p ts ∧ blkU p ts ≤ 2147483646 := by
  have := blk_take_bd (p := p) h.vs ts.length
  rwa [List.take_of_length_le (Nat.le_refl _)] at this
/-- Need: nothing is cut off. -/
theorem St.need {ts : List Ts} (h : St ts) {k : Nat} {y : Ts} (hy : ts[k]? = some y) {w : Int} (h0 : 0 ≤ w) (h1 : w ≤ 1099511627776) :
    needI ts (k : Int) w = y.c + blkU y.p ts + if w = 0 then 0 else (ts.map (addH y.p w)).sum := by
  obtain ⟨i, s⟩ := h.sf (List.mem_of_getElem? hy)
  have c0 := s.c0; have c1 := s.c1
  have b := h.blk_bd y.p
  have hb := h.hi_bd h0 h1 y.p
  rw [need_at h.chk hy, h.hi h0 h1]
  generalize (ts.map (addH y.p w)).sum = S at *
  obtain ⟨z, hz, z0, z1⟩ : ∃ z : Int, (if w = 0 then 0 else S) = z ∧ 0 ≤ z ∧ z ≤ 30000000000000 := by split <;> exact ⟨_, rfl, by omega, by omega⟩
  rw [hz]
  simp only [satSum, List.foldl_cons, List.foldl_nil]
  rw [satAdd_fit (a := 0) (b := y.c) (by omega), satAdd_fit (a := 0 + y.c) (b := blkU y.p ts) (by omega), satAdd_fit (a := 0 + y.c + blkU y.p ts) (b := z) (by omega)]
  omega
/-- What DemandGrows asks. -/
theorem grows_pure {ts : List Ts} (h : St ts) {k : Nat} {y : Ts} (hy : ts[k]? = some y) {w : Int} (h0 : 0 ≤ w) (h1 : w < 1099511627776) :
    needI ts k w ≤ needI ts k (w + 1) ∧ needI ts k (w + 1) ≤ needI ts k w + allC y.p ts * 2 ∧ needI ts k 0 = y.c + blockI ts k ∧ needI ts k 0 ≤ needI ts k w ∧ 0 ≤ needI ts k w ∧ needI ts k w ≤ 40000000000000 ∧ 0 ≤ needI ts k (w + 1) ∧ 0 ≤ needI ts k 0 := by
  obtain ⟨i, s⟩ := h.sf (List.mem_of_getElem? hy)
  have c0 := s.c0; have c1 := s.c1
  have b := h.blk_bd y.p
  have hb := h.hi_bd h0 (by omega) y.p
  have hb1 := h.hi_bd (w := w + 1) (by omega) (by omega) y.p
  have hg := hi_grow y.p w h.vs h0
  have ha := h.all_bd y.p ts.length
  rw [List.take_of_length_le (Nat.le_refl _)] at ha
  have hf := hi_first y.p h.vs fun x hx => by
    obtain ⟨i, s⟩ := h.sf hx
    have := s.d0; have := s.c0; have := s.t0
    omega
  rw [h.need hy h0 (by omega), h.need hy (w := w + 1) (by omega) (by omega), h.need hy (w := 0) (by omega) (by omega), block_at h.chk hy, if_neg (show ¬ (w + 1 = 0) by omega), if_pos rfl]
  by_cases e : w = 0
  · subst e
    simp only [Int.zero_add, if_true] at *
    refine ⟨?_, ?_, ?_, ?_, ?_, ?_, ?_, ?_⟩ <;> omega
  · rw [if_neg e]
    refine ⟨?_, ?_, ?_, ?_, ?_, ?_, ?_, ?_⟩ <;> omega
theorem low40 (n : Int) : ∃ m : Nat, m < 1099511627776 ∧ bits .and .u64 n 1099511627775 = (m : Int) := by
  have h : (BitVec.ofInt 64 n &&& BitVec.ofInt 64 1099511627775).toNat ≤ 1099511627775 := by
    rw [BitVec.toNat_and]
    exact Nat.and_le_right
  have e : bits .and .u64 n 1099511627775 = IntKind.u64.wrap (((BitVec.ofInt 64 n &&& BitVec.ofInt 64 1099511627775).toNat : Nat) : Int) := rfl
  rw [e]
  generalize (BitVec.ofInt 64 n &&& BitVec.ofInt 64 1099511627775).toNat = z at *
  exact ⟨z, by omega, by rw [IntKind.wrap_u64]; omega⟩
end Go.Proofs.YtnhddnldebdmbaaDoor
/- Steps: the document's own answer. -/
namespace Go.Proofs.YtnhddnldebdmbaaDoor
open Go.RowKit
set_option linter.unusedVariables false
set_option linter.unusedSimpArgs false
theorem infoU64 : (Tryd.prog.info? 36).map (fun i => (i.zero, i.size, i.bytes)) = some (some (.int .u64 0), 1, 8) := by kernel_rfl
/-- Is it a step? -/
def stpB (l : List Ts) (i w : Int) : Bool := decide (higherI l i w > higherI l i (w - 1))
/-- The steps up to m. -/
def stpS (l : List Ts) (i : Int) : Nat → List Int
  | 0 => []
  | m + 1 => if stpB l i ((m : Int) + 1) then stpS l i m ++ [(m : Int) + 1] else stpS l i m
theorem stpS_len (l : List Ts) (i : Int) : ∀ m, (stpS l i m).length ≤ m
  | 0 => Nat.le_refl _
  | m + 1 => by
    have := stpS_len l i m
    rw [stpS]
    split
    · simp; omega
    · omega
theorem stpS_bd (l : List Ts) (i : Int) : ∀ m, ∀ n ∈ stpS l i m, 1 ≤ n ∧ n ≤ (m : Int)
  | 0, n, h => by simp [stpS] at h
  | m + 1, n, h => by
    rw [stpS] at h
    split at h
    · rcases List.mem_append.1 h with h | h
      · have := stpS_bd l i m n h; omega
      · obtain rfl := List.mem_singleton.1 h; omega
    · have := stpS_bd l i m n h; omega
theorem cellsU_snoc (l : List Int) (n : Int) : cellsU (l ++ [n]) = cellsU l ++ [.int .u64 n] := by simp [cellsU]
theorem u_new (V : World) (n : Int) : ∀ j u, [Value.int .u64 n][j]? = some u → (V.alloc (.cells #[.int .u64 n] 36)).cell? ((⟨V.heap.size, 0, none⟩ : Addr).add j) = some u := by
  intro j u hj
  rw [add_none, Nat.zero_add, cell_of_row _ _ j _ _ _ (heap_alloc_new V _)]
  simpa using hj
/-- An own row of numbers. -/
def OwnU (B : Nat) (w : World) (v : Value) (ns : List Int) : Prop := w.ownsRow B 36 1 v ns.length (cellsU ns)
theorem own_stay {W W' : World} (hb : Below W.heap.size W W') {base e size k : Nat} {v : Value} {xs : List Value} (hr : W.ownsRow base e size v k xs) : W'.ownsRow base e size v k xs := by
  obtain ⟨h1, h2⟩ := hr
  refine ⟨h1, ?_⟩
  rcases h2 with h2 | ⟨g, cap, cur, hv, hg, hh, r⟩
  · exact .inl h2
  · subst hv
    exact .inr ⟨g, cap, cur, rfl, hg, (hb.block g (Array.getElem?_eq_some_iff.1 hh).1).trans hh, r⟩
def StP (ns : List Int) (w : World) (e : Ending) (w' : World) : Prop := ∃ v, e = .returned v ∧ OwnU w.heap.size w' v ns ∧ Below w.heap.size w w'
end Go.Proofs.YtnhddnldebdmbaaDoor
