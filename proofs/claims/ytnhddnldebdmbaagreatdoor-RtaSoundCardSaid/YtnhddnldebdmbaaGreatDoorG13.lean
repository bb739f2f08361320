/- Texts about the program, one after the other: DHi, DCon, DStp, DPst, RPure, RNd, RLaw, RSnd, RSn2, RDiv. -/
import Derived.Test.YtnhddnldebdmbaaGreatDoorG12
import Derived.Test.YtnhddnldebdmbaaGreatDoorG11
import Derived.Laws.AppendOwn
import Derived.Test.YtnhddnldebdmbaaGreatDoorG10
import Derived.Test.YtnhddnldebdmbaaGreatDoorG1
import Derived.Laws.Bits64b
/- What comes ahead: the program's own. -/
namespace Go.Proofs.YtnhddnldebdmbaaGreatDoor
open Go.RowKit Go.Shelf
set_option linter.unusedVariables false
set_option linter.unusedSimpArgs false
attribute [local go_sem] Oper.semAt_some
def hF (v s : Int) (x : Ts) : Int := satAdd s (satMul x.c (relSD x v))
theorem satMul_comm (a b : Int) : satMul a b = satMul b a := by unfold satMul mulB mulN; rw [Int.mul_comm]
theorem satMul_zero (a : Int) : satMul a 0 = 0 := by unfold satMul mulB mulN endN; simp
theorem hF_zero : ∀ (l : List Ts), l.foldl (hF 0) 0 = 0
  | [] => rfl
  | x :: l => by
    have e : hF 0 0 x = 0 := by
      unfold hF relSD
      rw [if_pos rfl, satMul_zero]
      rfl
    rw [List.foldl_cons, e, hF_zero l]
theorem higher_fold (p v : Int) (l : List Ts) : (l.filter (fun x => decide (x.p < p))).foldl (hF v) 0 = hiU p v l := by
  unfold hiU
  by_cases h0 : v = 0
  · rw [if_pos h0, h0]
    exact hF_zero _
  · rw [if_neg h0, List.foldl_filter]
    congr 1
    funext b x
    unfold hiUF hF relSD
    by_cases h : x.p < p
    · rw [if_pos (by simpa using h), if_pos h, if_neg h0, satMul_comm]
    · rw [if_neg (by simpa using h), if_neg h]
theorem hF_u {v s : Int} {x : Ts} (hx : TsOk x) (hv : U v) (hs : U s) : U (hF v s x) := by
  unfold hF
  exact satAdd_u hs.1 (satMul_u (by have := hx.c0; omega) (relS_u hx.rel hv).1).1
theorem hF_fold_u {v : Int} (hv : U v) : ∀ (l : List Ts) (s : Int), (∀ x ∈ l, TsOk x) → U s → U (l.foldl (hF v) s)
  | [], s, _, hs => hs
  | x :: l, s, h, hs => hF_fold_u hv l _ (fun y hy => h y (by simp [hy])) (hF_u (h x (by simp)) hv hs)
/-- What the sum's loop knows. -/
structure HiB (w : World) (m v : Int) (V : World) : Prop where
  s : Boxed V (w.heap.size + 1) 73 (.int .u64 m)
  v : Boxed V w.heap.size 73 (.int .u64 v)
  b : Below w.heap.size w V
theorem HiB.later {w V V' : World} {m v : Int} (h : HiB w m v V) (hb : Below V.heap.size V V') : HiB w m v V' := ⟨boxed_later2 h.s hb, boxed_later2 h.v hb, h.b.trans (hb.mono h.b.size)⟩
theorem HiB.own {w V V' : World} {m v : Int} {row : Option Nat} {D : Nat} (h : HiB w m v V) (hg : V.grownBy V' row) (hr : ∀ r, row = some r → D ≤ r ∧ ∃ o : Obj, V.heap[r]? = some o ∧ o.isCells = false) (hB : w.heap.size ≤ D) : HiB w m v V' :=
  ⟨boxed_kept h.s hg (fun r e => (hr r e).2), boxed_kept h.v hg (fun r e => (hr r e).2), h.b.grown hg h.b.size (fun k e => by have := (hr k e).1; omega)⟩
theorem HiB.set {w V : World} {m v : Int} (h : HiB w m v V) (u : Int) : HiB w u v (V.setCell ⟨w.heap.size + 1, 0, none⟩ (.int .u64 u)) :=
  ⟨Boxed.set _ h.s, Boxed.other h.v (by omega) _, h.b.setCell (p := ⟨w.heap.size + 1, 0, none⟩) (by show w.heap.size ≤ w.heap.size + 1; omega) _⟩
/-- The cells that the region's loads read. -/
def HiC (bw Bt : Nat) (v : Int) (x : Ts) (W : World) : Prop :=
  W.cell? ⟨bw, 0, none⟩ = some (.int .u64 v) ∧ W.cell? ⟨Bt, 0, none⟩ = some (.string x.n) ∧ W.cell? ⟨Bt, 1, none⟩ = some (.int .i64 x.c) ∧ W.cell? ⟨Bt, 2, none⟩ = some (.int .i64 x.t) ∧ W.cell? ⟨Bt, 3, none⟩ = some (.int .i64 x.d) ∧ W.cell? ⟨Bt, 4, none⟩ = some (.int .i64 x.j) ∧ W.cell? ⟨Bt, 5, none⟩ = some (.int .i64 x.q) ∧ W.cell? ⟨Bt, 6, none⟩ = some (.int .i64 x.p)
theorem HiC.of {bw Bt : Nat} {v : Int} {x : Ts} {W : World} (h : Boxed W bw 73 (.int .u64 v)) (t : TAt W Bt 0 x) : HiC bw Bt v x W := by
  have c0 := t.c0; have c1 := t.c1; have c2 := t.c2; have c3 := t.c3; have c4 := t.c4; have c5 := t.c5; have c6 := t.c6
  exact ⟨h.cell, c0, by simpa using c1, by simpa using c2, by simpa using c3, by simpa using c4, by simpa using c5, by simpa using c6⟩
theorem TAt.aside {W : World} {B Bt : Nat} {x : Ts} (t : TAt W Bt 0 x) (u : Value) (h : Bt ≠ B) : TAt (W.setCell ⟨B, 0, none⟩ u) Bt 0 x := t.keep fun i => World.cell?_of_block (heap_setCell_other W ⟨B, 0, none⟩ Bt u h)
theorem keepsFrom_later {B : Nat} {W W' : World} (h : Below W.heap.size W W') : KeepsFrom B W W' := ⟨h.size, fun k o _ ho _ => (h.block k (Array.getElem?_eq_some_iff.1 ho).1).trans ho⟩
set_option maxRecDepth 100000 in
set_option maxHeartbeats 4000000 in
theorem higher_in (b o cap : Nat) (l : List Ts) (k : Nat) (y : Ts) (v : Int) (w : World) (hR : Row w (some ⟨b, o, none⟩) cap l) (hv : Vs l) (hy : l[k]? = some y) (hT : Tab w) (hu : U v) :
    Calls Tryz.prog 76 #[.slice (some ⟨b, o, none⟩) l.length cap, .int .i64 (k : Int), .int .u64 v] w fun e w' => e = .returned (.int .u64 (hiU y.p v l)) ∧ Below w.heap.size w w' := by
  have hk : k < l.length := (List.getElem?_eq_some_iff.1 hy).1
  have hvl := hv.n1
  have hbl : b < w.heap.size := by
    obtain ⟨b', o', x, e, _, _, h, _⟩ := hR.get hk
    cases e; exact h
  have htab := hT.pos
  have hb1 : Below w.heap.size w ((w.alloc (.cells #[.int .u64 v] 73)).alloc (.cells #[.int .u64 0] 73)) := ((Below.refl _ _).alloc (Nat.le_refl _) _).alloc (by simp) _
  obtain ⟨W1, hW1, X1, R1, T1, B1, s1⟩ : ∃ W1, (w.alloc (.cells #[.int .u64 v] 73)).alloc (.cells #[.int .u64 0] 73) = W1 ∧ HiB w 0 v W1 ∧ Row W1 (some ⟨b, o, none⟩) cap l ∧ Tab W1 ∧ Below w.heap.size w W1 ∧ W1.heap.size = w.heap.size + 2 :=
    ⟨_, rfl, ⟨by have := Boxed.new (w.alloc (.cells #[.int .u64 v] 73)) 73 (.int .u64 0); rwa [World.size_alloc] at this, Boxed.alloc (Boxed.new _ _ _) _, hb1⟩, hR.later hb1, hT.below hb1, hb1, by simp⟩
  have KL := Lib.hid (thigher_any (some ⟨b, o, none⟩) cap l (k : Int) W1 R1 ⟨by omega, by omega⟩)
  have KA := Lib.hid (fun W => at_any (some ⟨b, o, none⟩) l.length cap (higherF l (k : Int)) W)
  have HIN : Hid (∀ j, higherF l (k : Int) j = true → j < l.length) := Lib.hid (fun j hj => by
    rcases Nat.lt_or_ge j l.length with h | h
    · exact h
    · rw [higherF_far h] at hj; cases hj)
  have HLT := Lib.hid (higher_tks hv hy)
  have HF := Lib.hid (higher_fold y.p v l)
  have HOK : Hid (∀ x ∈ l.filter (fun x => decide (x.p < y.p)), TsOk x) := Lib.hid (fun x hx => hv.all x (List.mem_filter.1 hx).1)
  generalize l.filter (fun x => decide (x.p < y.p)) = L at *
  have HW1 := Lib.hid hW1
  rw [← HF.out]
  clear hR hT hb1 hv hy hvl HF hW1
  generalize higherF l (k : Int) = f at *
  refine (callsIn_wide (n := 5)).1 ?_
  refine callsIn_of_wp_marks Tryz.func76 rfl trivial ?_ rfl
  simp only [Tryz.ntmps76, List.size_toArray, List.length_cons, List.length_nil, Nat.reduceAdd, Nat.reduceSub, Array.replicate_succ, Array.replicate_zero, List.push_toArray, List.append_toArray, List.nil_append, List.cons_append]
  refine wpIn_wide.2 ?_
  go_upto_region 2 with (fail)
  rw [HW1.out]
  clear HW1
  go_upto_region 3 with (first
    | (go_at_call 55; (with_reducible refine KL.out.mono ?_); rintro e w2 ⟨rfl, h2⟩)
    | (go_at_call 98; (with_reducible refine (KA.out _).mono ?_); rintro e w3 ⟨rfl, rfl⟩)
    | fail)
  have X2 := X1.later h2
  have B2 := B1.trans (h2.mono B1.size)
  have R2 := R1.later h2
  have T2 := T1.below h2
  have s2 := h2.size
  obtain ⟨W3, hW3, S3, B3, s3⟩ := at_made R2 T2 HIN.out
  rw [hW3]
  have X3 := X2.later B3
  have B4 := B2.trans (B3.mono B2.size)
  clear hW3 X1 X2 R1 R2 T1 T2 B1 B2 h2 KL KA HIN
  have hws := B4.size
  have HP : Hid (AtP (P1 (w.heap.size + 1) 73) (some ⟨b, o, none⟩) w2.heap.size) := Lib.hid (p1_at (by decide) (by decide) (by omega) (by omega) (by rintro b' o' e; cases e; omega))
  have SQ := at1_seq (5 - 1) (by omega) (some ⟨b, o, none⟩) cap l f (w2.heap.size + 1) w2.heap.size (P1 (w.heap.size + 1) 73) W3 S3 HP.out
  rw [HLT.out] at SQ
  have SQ := Lib.hid SQ
  clear S3 HP HLT
  refine (wpIn_wide (n := 5)).1 ?_
  refine wpIn_named fun fr hfr => ?_
  refine rangeG (vals := tskV) (gf := 120) (lb := #[.pointer (some ⟨w2.heap.size + 1, 0, none⟩), .pointer (some ⟨w2.heap.size, 0, none⟩)]) (by rw [hfr]; rfl) (enters_of Tryz.func120 (by kernel_rfl) rfl)
    SQ.out (Below.refl _ _) (fun x => rfl)
    (fun pre V => HiB w (pre.foldl (hF v) 0) v V) (fun _ _ _ => False)
    (fun pre X Y row h hg hr => h.own hg hr hws) (fun c s X Y row h _ _ => h) X3
    (fun x a' V => ∃ Bt, TAt V Bt 0 x ∧ Bt ≠ w.heap.size + 1 ∧ a' = { tmps := (fr.tmps.setIfInBounds 14 (tsV x)).setIfInBounds 8 (.pointer (some ⟨Bt, 0, none⟩)), defers := [] })
    (fun x a' _ X Y row hs hg hr => hs.imp fun Bt h => ⟨h.1.keepG (keepG_grown hg (fun r e => (hr r e).2)), h.2⟩)
    ?assign ?body ?done ?stop
  case assign =>
    intro l2 pre x V K hi hK
    have hlt := hi.s.lt
    have hTn := TAt.new V x
    have hIn := hi.later ((Below.refl _ _).alloc (Nat.le_refl _) (.cells #[.string x.n, .int .i64 x.c, .int .i64 x.t, .int .i64 x.d, .int .i64 x.j, .int .i64 x.q, .int .i64 x.p] 40))
    subst hfr
    clear SQ
    gi_wp2
    exact hK _ _ ((KeepsOthers.alloc _ _).from _) (KeepG.below ((Below.refl _ _).alloc (Nat.le_refl _) _)) hIn ⟨V.heap.size, hTn, by omega, rfl⟩
  case body =>
    rintro l2 pre x a' V hi ⟨Bt, hT, hne, rfl⟩ ⟨r, hr⟩
    have hok := HOK.out x (by rw [hr]; simp)
    have hpu : U (pre.foldl (hF v) 0) := hF_fold_u hu pre 0 (fun z hz => HOK.out z (by rw [hr]; simp [hz])) ⟨by decide, by decide⟩
    have HFO : Hid ((pre ++ [x]).foldl (hF v) 0 = satSum (pre.foldl (hF v) 0) [satMul x.c (relSD x v)]) := Lib.hid (by rw [List.foldl_append]; rfl)
    generalize pre.foldl (hF v) 0 = m at *
    obtain ⟨c0', c1'⟩ : 1 ≤ x.c ∧ x.c ≤ 2147483647 := ⟨hok.c0, hok.c1⟩
    have e1 : IntKind.u64.wrap x.c = x.c := by rw [IntKind.wrap_u64]; omega
    have hru := relS_u hok.rel hu
    have hmu : U (satMul x.c (relSD x v)) := satMul_u (by omega) hru.1
    have KR := Lib.hid (fun W => rel_any x v W hok.rel hu)
    have KT := Lib.hid (fun W => times_any x.c (relSD x v) (by omega) (by omega) hru.1 hru.2 W)
    have KS := Lib.hid (fun W vv (hn : Nums W vv [satMul x.c (relSD x v)]) => sum_nums m vv [satMul x.c (relSD x v)] hpu.1 hpu.2 W hn (by intro n hn; obtain rfl := List.mem_singleton.1 hn; exact hmu))
    have eT : endN (mulB x.c (relSD x v)) (mulN x.c (relSD x v)) = satMul x.c (relSD x v) := rfl
    rw [eT] at KT
    have HN := Lib.hid (fun W => one_new W (satMul x.c (relSD x v)))
    have HI0 := Lib.hid (hi.later (below_drew V))
    have HT0 := Lib.hid (hT.later (below_drew V))
    generalize satMul x.c (relSD x v) = u at *
    generalize relSD x v = rl at *
    generalize satSum m [u] = m' at *
    have FIN : Hid (∀ (W : World), Hid (HiB w m v W) → Hid (Below V.heap.size V W) → KeepsFrom W3.heap.size V (W.setCell ⟨w.heap.size + 1, 0, none⟩ (.int .u64 m')) ∧ KeepG (P1 (w.heap.size + 1) 73) V (W.setCell ⟨w.heap.size + 1, 0, none⟩ (.int .u64 m')) ∧ HiB w ((pre ++ [x]).foldl (hF v) 0) v (W.setCell ⟨w.heap.size + 1, 0, none⟩ (.int .u64 m'))) := Lib.hid (fun W hi hb => by
      refine ⟨(keepsFrom_later hb.out).trans ((KeepsOthers.setCell _ _ _).from _), (KeepG.below hb.out).trans (p1_set hi.out.s _), ?_⟩
      rw [HFO.out]
      exact hi.out.set _)
    subst hfr
    clear SQ HOK hT hi hr hok hru hmu hpu eT hu
    dsimp only [List.setIfInBounds_toArray, List.set_cons_succ, List.set_cons_zero]
    gi_wp2
    have HC0 := HiC.of HI0.out.v HT0.out
    refine region_round_held (S := HiC w.heap.size Bt v x) (by rintro ⟨_, _, h⟩; exact h) (by kernel_rfl) (by kernel_rfl) HC0 (fun hHeld => ?_)
    clear HC0
    refine wpAnyH_take (i := 1) (oi := ⟨some 16, _, _, _, _, _⟩) (v := .pointer (some ⟨Bt, 1, none⟩)) rfl (by kernel_rfl) (by kernel_rfl) (by kernel_rfl) (fun _ _ _ h => h) (Or.inl ⟨by rfl, ?_⟩) (by assumption) ?_
    · intro w0 hSw
      obtain ⟨sv, s0, s1, s2, s3, s4, s5, s6⟩ := hSw
      go_simp
      (try with_reducible rfl)
    (try simp only [Act.put, List.setIfInBounds_toArray, List.set_cons_zero, List.set_cons_succ])
    refine wpAnyH_take (i := 2) (oi := ⟨some 17, _, _, _, _, _⟩) (v := .int .i64 x.c) rfl (by kernel_rfl) (by kernel_rfl) (by kernel_rfl) (fun _ _ _ h => h) (Or.inl ⟨by rfl, ?_⟩) (by assumption) ?_
    · intro w0 hSw
      obtain ⟨sv, s0, s1, s2, s3, s4, s5, s6⟩ := hSw
      go_simp
      (try with_reducible rfl)
    (try simp only [Act.put, List.setIfInBounds_toArray, List.set_cons_zero, List.set_cons_succ])
    refine wpAnyH_take (i := 3) (oi := ⟨some 18, _, _, _, _, _⟩) (v := .int .u64 x.c) rfl (by kernel_rfl) (by kernel_rfl) (by kernel_rfl) (fun _ _ _ h => h) (Or.inl ⟨by rfl, ?_⟩) (by assumption) ?_
    · intro w0 hSw
      obtain ⟨sv, s0, s1, s2, s3, s4, s5, s6⟩ := hSw
      go_simp
      (try with_reducible rfl)
    (try simp only [Act.put, List.setIfInBounds_toArray, List.set_cons_zero, List.set_cons_succ])
    refine wpAnyH_take (i := 4) (oi := ⟨some 19, _, _, _, _, _⟩) (v := tsV x) rfl (by kernel_rfl) (by kernel_rfl) (by kernel_rfl) (fun _ _ _ h => h) (Or.inl ⟨by rfl, ?_⟩) (by assumption) ?_
    · intro w0 hSw
      obtain ⟨sv, s0, s1, s2, s3, s4, s5, s6⟩ := hSw
      go_simp
      (try with_reducible rfl)
    (try simp only [Act.put, List.setIfInBounds_toArray, List.set_cons_zero, List.set_cons_succ])
    refine wpAnyH_take (i := 5) (oi := ⟨some 20, _, _, _, _, _⟩) (v := .int .u64 v) rfl (by kernel_rfl) (by kernel_rfl) (by kernel_rfl) (fun _ _ _ h => h) (Or.inl ⟨by rfl, ?_⟩) (by assumption) ?_
    · intro w0 hSw
      obtain ⟨sv, s0, s1, s2, s3, s4, s5, s6⟩ := hSw
      go_simp
      (try with_reducible rfl)
    (try simp only [Act.put, List.setIfInBounds_toArray, List.set_cons_zero, List.set_cons_succ])
    have HI := HI0
    have HT := HT0
    have HB := Lib.hid (below_drew V)
    refine wpAnyH_ready (rs := [0, 6]) (by kernel_rfl) (by simp) ?_
    refine AllReadyH.cons (o := ⟨some 15, _, _, _, _, _⟩) rfl (fun K hK => ?_) (AllReadyH.cons (o := ⟨some 21, _, _, _, _, _⟩) rfl (fun K hK => ?_) AllReadyH.nil)
    · have HI := HI
      have sc := HI.out.s.cell
      go_simp
      refine hK.out _ _ (by assumption) (fun hHeld => ?_)
      clear hK K
      (try simp only [Act.put, List.setIfInBounds_toArray, List.set_cons_zero, List.set_cons_succ])
      refine wpAnyH_ready (rs := [6]) (by kernel_rfl) (by simp) ?_
      refine AllReadyH.cons (o := ⟨some 21, _, _, _, _, _⟩) rfl (fun K hK => ?_) AllReadyH.nil
      go_simp
      go_at_call 101
      refine (KR.out _).mono ?_
      rintro e w5 ⟨rfl, h5⟩
      have HI := Lib.hid (HI.out.later h5)
      have HT := Lib.hid (HT.out.later h5)
      have HB := Lib.hid (Below.trans (below_drew V) h5)
      clear h5
      refine hK.out _ _ (HiC.of HI.out.v HT.out) (fun hHeld => ?_)
      clear hK K
      (try simp only [Act.put, List.setIfInBounds_toArray, List.set_cons_zero, List.set_cons_succ])
      refine wpAnyH_ready (rs := [7]) (by kernel_rfl) (by simp) ?_
      refine AllReadyH.cons (o := ⟨some 22, _, _, _, _, _⟩) rfl (fun K hK => ?_) AllReadyH.nil
      go_simp
      go_at_call 100
      refine (KT.out _).mono ?_
      rintro e w6 ⟨rfl, rfl⟩
      refine hK.out _ _ (by assumption) (fun hHeld => ?_)
      clear hK K
      (try simp only [Act.put, List.setIfInBounds_toArray, List.set_cons_zero, List.set_cons_succ])
      refine wpAnyH_ready (rs := [8]) (by kernel_rfl) (by simp) ?_
      refine AllReadyH.cons (o := ⟨some 23, _, _, _, _, _⟩) rfl (fun K hK => ?_) AllReadyH.nil
      go_simp
      have HI := Lib.hid (HI.out.later ((Below.refl _ _).alloc (Nat.le_refl _) (.cells #[.int .u64 u] 73)))
      have HT := Lib.hid (HT.out.later ((Below.refl _ _).alloc (Nat.le_refl _) (.cells #[.int .u64 u] 73)))
      have HB := Lib.hid (Below.alloc HB.out (Below.size HB.out) (.cells #[.int .u64 u] 73))
      refine hK.out _ _ (HiC.of HI.out.v HT.out) (fun hHeld => ?_)
      clear hK K
      (try simp only [Act.put, List.setIfInBounds_toArray, List.set_cons_zero, List.set_cons_succ])
      refine wpAnyH_ready (rs := [9]) (by kernel_rfl) (by simp) ?_
      refine AllReadyH.cons (o := ⟨some 24, _, _, _, _, _⟩) rfl (fun K hK => ?_) AllReadyH.nil
      go_simp
      go_at_call 74
      refine (KS.out _ _ (HN.out _)).mono ?_
      rintro e w7 ⟨rfl, rfl⟩
      refine hK.out _ _ (by assumption) (fun hHeld => ?_)
      clear hK K
      (try simp only [Act.put, List.setIfInBounds_toArray, List.set_cons_zero, List.set_cons_succ])
      refine wpAnyH_ready (rs := [10]) (by kernel_rfl) (by simp) ?_
      refine AllReadyH.cons (o := ⟨none, _, _, _, _, _⟩) rfl (fun K hK => ?_) AllReadyH.nil
      have sf := HI.out.s.frozen
      have sc := HI.out.s.cell
      go_simp
      refine hK.out _ _ (HiC.of (HI.out.set m').v (HT.out.aside _ hne)) (fun hHeld => ?_)
      clear hK K
      (try simp only [Act.put, List.setIfInBounds_toArray, List.set_cons_zero, List.set_cons_succ])
      refine wpAnyH_done (by kernel_rfl) ?_ _
      exact FIN.out _ HI HB
    · have HI := HI
      go_simp
      go_at_call 101
      refine (KR.out _).mono ?_
      rintro e w5 ⟨rfl, h5⟩
      have HI := Lib.hid (HI.out.later h5)
      have HT := Lib.hid (HT.out.later h5)
      have HB := Lib.hid (Below.trans (below_drew V) h5)
      clear h5
      refine hK.out _ _ (HiC.of HI.out.v HT.out) (fun hHeld => ?_)
      clear hK K
      (try simp only [Act.put, List.setIfInBounds_toArray, List.set_cons_zero, List.set_cons_succ])
      refine wpAnyH_ready (rs := [0, 7]) (by kernel_rfl) (by simp) ?_
      refine AllReadyH.cons (o := ⟨some 15, _, _, _, _, _⟩) rfl (fun K hK => ?_) (AllReadyH.cons (o := ⟨some 22, _, _, _, _, _⟩) rfl (fun K hK => ?_) AllReadyH.nil)
      · have HI := HI
        have sc := HI.out.s.cell
        go_simp
        refine hK.out _ _ (by assumption) (fun hHeld => ?_)
        clear hK K
        (try simp only [Act.put, List.setIfInBounds_toArray, List.set_cons_zero, List.set_cons_succ])
        refine wpAnyH_ready (rs := [7]) (by kernel_rfl) (by simp) ?_
        refine AllReadyH.cons (o := ⟨some 22, _, _, _, _, _⟩) rfl (fun K hK => ?_) AllReadyH.nil
        go_simp
        go_at_call 100
        refine (KT.out _).mono ?_
        rintro e w6 ⟨rfl, rfl⟩
        refine hK.out _ _ (by assumption) (fun hHeld => ?_)
        clear hK K
        (try simp only [Act.put, List.setIfInBounds_toArray, List.set_cons_zero, List.set_cons_succ])
        refine wpAnyH_ready (rs := [8]) (by kernel_rfl) (by simp) ?_
        refine AllReadyH.cons (o := ⟨some 23, _, _, _, _, _⟩) rfl (fun K hK => ?_) AllReadyH.nil
        go_simp
        have HI := Lib.hid (HI.out.later ((Below.refl _ _).alloc (Nat.le_refl _) (.cells #[.int .u64 u] 73)))
        have HT := Lib.hid (HT.out.later ((Below.refl _ _).alloc (Nat.le_refl _) (.cells #[.int .u64 u] 73)))
        have HB := Lib.hid (Below.alloc HB.out (Below.size HB.out) (.cells #[.int .u64 u] 73))
        refine hK.out _ _ (HiC.of HI.out.v HT.out) (fun hHeld => ?_)
        clear hK K
        (try simp only [Act.put, List.setIfInBounds_toArray, List.set_cons_zero, List.set_cons_succ])
        refine wpAnyH_ready (rs := [9]) (by kernel_rfl) (by simp) ?_
        refine AllReadyH.cons (o := ⟨some 24, _, _, _, _, _⟩) rfl (fun K hK => ?_) AllReadyH.nil
        go_simp
        go_at_call 74
        refine (KS.out _ _ (HN.out _)).mono ?_
        rintro e w7 ⟨rfl, rfl⟩
        refine hK.out _ _ (by assumption) (fun hHeld => ?_)
        clear hK K
        (try simp only [Act.put, List.setIfInBounds_toArray, List.set_cons_zero, List.set_cons_succ])
        refine wpAnyH_ready (rs := [10]) (by kernel_rfl) (by simp) ?_
        refine AllReadyH.cons (o := ⟨none, _, _, _, _, _⟩) rfl (fun K hK => ?_) AllReadyH.nil
        have sf := HI.out.s.frozen
        have sc := HI.out.s.cell
        go_simp
        refine hK.out _ _ (HiC.of (HI.out.set m').v (HT.out.aside _ hne)) (fun hHeld => ?_)
        clear hK K
        (try simp only [Act.put, List.setIfInBounds_toArray, List.set_cons_zero, List.set_cons_succ])
        refine wpAnyH_done (by kernel_rfl) ?_ _
        exact FIN.out _ HI HB
      · have HI := HI
        go_simp
        go_at_call 100
        refine (KT.out _).mono ?_
        rintro e w6 ⟨rfl, rfl⟩
        refine hK.out _ _ (by assumption) (fun hHeld => ?_)
        clear hK K
        (try simp only [Act.put, List.setIfInBounds_toArray, List.set_cons_zero, List.set_cons_succ])
        refine wpAnyH_ready (rs := [0, 8]) (by kernel_rfl) (by simp) ?_
        refine AllReadyH.cons (o := ⟨some 15, _, _, _, _, _⟩) rfl (fun K hK => ?_) (AllReadyH.cons (o := ⟨some 23, _, _, _, _, _⟩) rfl (fun K hK => ?_) AllReadyH.nil)
        · have HI := HI
          have sc := HI.out.s.cell
          go_simp
          refine hK.out _ _ (by assumption) (fun hHeld => ?_)
          clear hK K
          (try simp only [Act.put, List.setIfInBounds_toArray, List.set_cons_zero, List.set_cons_succ])
          refine wpAnyH_ready (rs := [8]) (by kernel_rfl) (by simp) ?_
          refine AllReadyH.cons (o := ⟨some 23, _, _, _, _, _⟩) rfl (fun K hK => ?_) AllReadyH.nil
          go_simp
          have HI := Lib.hid (HI.out.later ((Below.refl _ _).alloc (Nat.le_refl _) (.cells #[.int .u64 u] 73)))
          have HT := Lib.hid (HT.out.later ((Below.refl _ _).alloc (Nat.le_refl _) (.cells #[.int .u64 u] 73)))
          have HB := Lib.hid (Below.alloc HB.out (Below.size HB.out) (.cells #[.int .u64 u] 73))
          refine hK.out _ _ (HiC.of HI.out.v HT.out) (fun hHeld => ?_)
          clear hK K
          (try simp only [Act.put, List.setIfInBounds_toArray, List.set_cons_zero, List.set_cons_succ])
          refine wpAnyH_ready (rs := [9]) (by kernel_rfl) (by simp) ?_
          refine AllReadyH.cons (o := ⟨some 24, _, _, _, _, _⟩) rfl (fun K hK => ?_) AllReadyH.nil
          go_simp
          go_at_call 74
          refine (KS.out _ _ (HN.out _)).mono ?_
          rintro e w7 ⟨rfl, rfl⟩
          refine hK.out _ _ (by assumption) (fun hHeld => ?_)
          clear hK K
          (try simp only [Act.put, List.setIfInBounds_toArray, List.set_cons_zero, List.set_cons_succ])
          refine wpAnyH_ready (rs := [10]) (by kernel_rfl) (by simp) ?_
          refine AllReadyH.cons (o := ⟨none, _, _, _, _, _⟩) rfl (fun K hK => ?_) AllReadyH.nil
          have sf := HI.out.s.frozen
          have sc := HI.out.s.cell
          go_simp
          refine hK.out _ _ (HiC.of (HI.out.set m').v (HT.out.aside _ hne)) (fun hHeld => ?_)
          clear hK K
          (try simp only [Act.put, List.setIfInBounds_toArray, List.set_cons_zero, List.set_cons_succ])
          refine wpAnyH_done (by kernel_rfl) ?_ _
          exact FIN.out _ HI HB
        · have HI := HI
          go_simp
          have HI := Lib.hid (HI.out.later ((Below.refl _ _).alloc (Nat.le_refl _) (.cells #[.int .u64 u] 73)))
          have HT := Lib.hid (HT.out.later ((Below.refl _ _).alloc (Nat.le_refl _) (.cells #[.int .u64 u] 73)))
          have HB := Lib.hid (Below.alloc HB.out (Below.size HB.out) (.cells #[.int .u64 u] 73))
          refine hK.out _ _ (HiC.of HI.out.v HT.out) (fun hHeld => ?_)
          clear hK K
          (try simp only [Act.put, List.setIfInBounds_toArray, List.set_cons_zero, List.set_cons_succ])
          refine wpAnyH_ready (rs := [0]) (by kernel_rfl) (by simp) ?_
          refine AllReadyH.cons (o := ⟨some 15, _, _, _, _, _⟩) rfl (fun K hK => ?_) AllReadyH.nil
          have sc := HI.out.s.cell
          go_simp
          refine hK.out _ _ (by assumption) (fun hHeld => ?_)
          clear hK K
          (try simp only [Act.put, List.setIfInBounds_toArray, List.set_cons_zero, List.set_cons_succ])
          refine wpAnyH_ready (rs := [9]) (by kernel_rfl) (by simp) ?_
          refine AllReadyH.cons (o := ⟨some 24, _, _, _, _, _⟩) rfl (fun K hK => ?_) AllReadyH.nil
          go_simp
          go_at_call 74
          refine (KS.out _ _ (HN.out _)).mono ?_
          rintro e w7 ⟨rfl, rfl⟩
          refine hK.out _ _ (by assumption) (fun hHeld => ?_)
          clear hK K
          (try simp only [Act.put, List.setIfInBounds_toArray, List.set_cons_zero, List.set_cons_succ])
          refine wpAnyH_ready (rs := [10]) (by kernel_rfl) (by simp) ?_
          refine AllReadyH.cons (o := ⟨none, _, _, _, _, _⟩) rfl (fun K hK => ?_) AllReadyH.nil
          have sf := HI.out.s.frozen
          have sc := HI.out.s.cell
          go_simp
          refine hK.out _ _ (HiC.of (HI.out.set m').v (HT.out.aside _ hne)) (fun hHeld => ?_)
          clear hK K
          (try simp only [Act.put, List.setIfInBounds_toArray, List.set_cons_zero, List.set_cons_succ])
          refine wpAnyH_done (by kernel_rfl) ?_ _
          exact FIN.out _ HI HB
  case done =>
    rintro D V hD hi hK
    have cb := hi.s.cell
    have HB := Lib.hid hi.b
    subst hfr
    clear SQ HOK hi
    go_wp2
    refine ⟨by simp, .inl ⟨_, _, rfl, run_takeDeferred hK, ?_⟩⟩
    exact ⟨.int .u64 (L.foldl (hF v) 0), by simp [results, Tryz.f76, go_sem], rfl, HB.out.trans (belowK_b (w := w) (Nat.le_refl _) V D _ _ (by omega) hK rfl rfl)⟩
  case stop =>
    rintro D c pre x V hD hr h hK
    exact h.elim
end Go.Proofs.YtnhddnldebdmbaaGreatDoor
/- Block, Higher, Need: the program's own. -/
namespace Go.Proofs.YtnhddnldebdmbaaGreatDoor
open Go.RowKit
set_option linter.unusedVariables false
set_option linter.unusedSimpArgs false
theorem two_nums (W V : World) (a b : Int) (hc : ∀ i u, V.cell? ⟨W.heap.size, i, none⟩ = some u ↔ (#[Value.int .u64 a, .int .u64 b] : Array Value)[i]? = some u) : Nums V (.slice (some ⟨W.heap.size, 0, none⟩) 2 2) [a, b] := by
  refine .inr ⟨⟨W.heap.size, 0, none⟩, 2, rfl, by simp, by unfold maxLen; omega, fun i hi => ?_⟩
  rw [add_none, Nat.zero_add]
  match i, hi with
  | 0, _ => exact (hc 0 _).2 rfl
  | 1, _ => exact (hc 1 _).2 rfl
theorem two_new (W : World) (a b : Int) : Nums (W.alloc (.cells #[.int .u64 a, .int .u64 b] 73)) (.slice (some ⟨W.heap.size, 0, none⟩) 2 2) [a, b] :=
  two_nums W _ a b fun i u => by rw [cell_of_row _ _ i _ _ _ (heap_alloc_new W _)]
theorem satSum_need {c b h : Int} (hc : 0 ≤ c) (hc1 : c ≤ 18446744073709551615) : satSum 0 [c, b, h] = satSum c [b, h] := satSum_head c [b, h] hc1
set_option maxRecDepth 100000 in
set_option maxHeartbeats 8000000 in
theorem need_any (A : Option Addr) (cap : Nat) (l : List Ts) (i v : Int) (w : World) (hR : Row w A cap l) (hi : in64 i) (hv0 : U v) (hT : Tab w) :
    Calls Tryz.prog 54 #[.slice A l.length cap, .int .i64 i, .int .u64 v] w fun e w' => e = .returned (.int .u64 (needI l i v)) ∧ Below w.heap.size w w' := by
  have K := Lib.hid (dmay_any A cap l i w hR hi)
  cases hb : isB l i
  · rw [hb] at K
    have e : needI l i v = 0 := by unfold needI; rw [hb]; rfl
    rw [e]
    clear hb e hR
    generalize l.length = N at *
    go_enter Tryz.func54, Tryz.ntmps54
    go_wp2_with (go_at_call 73; (with_reducible refine K.out.mono ?_); rintro e w1 ⟨rfl, h⟩)
    go_ret
    exact ⟨rfl, h⟩
  · rw [hb] at K
    have hv := isB_vs hb
    obtain ⟨ki, y, rfl, hki, hy⟩ := isB_get hb
    have hok := hv.all y (List.mem_of_getElem? hy)
    have y0 : 0 ≤ y.c := by have := hok.c0; omega
    have y1 := hok.c1
    have hbb := blockI_bd l ki
    have hhu := higherI_u l ki v hv0
    have hE : needI l (ki : Int) v = satSum y.c [blockI l ki, higherI l ki v] := by unfold needI; rw [hb, if_pos rfl, (pOf_get hy).2, satSum_need y0 (by omega)]
    have hB : blockI l (ki : Int) = blkU y.p l := by unfold blockI; rw [hb, if_pos rfl, (pOf_get hy).1]
    have hH : higherI l (ki : Int) v = hiU y.p v l := by unfold higherI; rw [hb, if_pos rfl, (pOf_get hy).1]
    rw [hE]
    obtain ⟨b, o, x, rfl, hx, -, hbl, hTx⟩ := hR.get hki
    obtain rfl : y = x := by have := hy.symm.trans hx; simpa using this
    have KB := Lib.hid (fun W (h : Lt w W) => block_in b o cap l ki y W (hR.later h) hv hy (hT.below h))
    have KH := Lib.hid (fun W (h : Lt w W) => higher_in b o cap l ki y v W (hR.later h) hv hy (hT.below h) hv0)
    rw [← hB] at KB
    rw [← hH] at KH
    have hw1 : IntKind.u64.wrap y.c = y.c := by rw [IntKind.wrap_u64]; omega
    have hw2 : IntKind.u64.wrap (blockI l ki) = blockI l ki := by rw [IntKind.wrap_u64]; omega
    have KS := Lib.hid (fun V u (hu : Nums V u [blockI l ki, higherI l ki v]) => sum_nums y.c u [blockI l ki, higherI l ki v] y0 (by omega) V hu (by
      intro n hn
      simp only [List.mem_cons, List.not_mem_nil, or_false] at hn
      rcases hn with rfl | rfl
      · omega
      · exact hhu))
    have HN2 := Lib.hid (fun W => two_new W (blockI l ki) (higherI l ki v))
    have HTX := Lib.hid hTx
    have HLE := Lib.hid (show l.length ≤ cap ∧ cap ≤ 9223372036854775807 from ⟨hR.le, hR.mx⟩)
    generalize satSum y.c [blockI l ki, higherI l ki v] = r at *
    generalize blockI l ki = bk at *
    generalize higherI l ki v = hh at *
    clear hb hE hB hH hR hv hy hx hT hok hhu hTx
    generalize l.length = N at *
    obtain ⟨hle, hmx⟩ := HLE.out
    have hI0 : (0 : Int) ≤ (ki : Int) := by omega
    have hI1 : (ki : Int) < ((N : Nat) : Int) := by omega
    go_enter Tryz.func54, Tryz.ntmps54
    go_upto_region 3 with (go_at_call 73; (with_reducible refine K.out.mono ?_); rintro e w1 ⟨rfl, h⟩; have HL := Lib.hid (show Lt w w1 from h); have HT := Lib.hid (HTX.out.later h); have c1 := HT.out.c1; clear h)
    go_region_law (first
      | (go_simp; go_at_call 75; (with_reducible refine (KB.out _ (by first | exact HL.out | exact lt_step _ _ HL.out (below_drew _))).mono ?_); rintro e w2 ⟨rfl, h⟩; have HL2 := Lib.hid (lt_step _ _ (show Lt w _ by first | exact HL.out | exact lt_step _ _ HL.out (below_drew _)) h); have HT2 := Lib.hid ((HT.out.later (show Below w1.heap.size w1 _ by first | exact Below.refl _ _ | exact below_drew w1)).later h); have c1 := HT2.out.c1; clear h)
      | (go_simp; go_at_call 76; (with_reducible refine (KH.out _ (by first | exact HL2.out | exact lt_step _ _ HL2.out (below_drew _))).mono ?_); rintro e w3 ⟨rfl, h⟩; have HL3 := Lib.hid (lt_step _ _ (show Lt w _ by first | exact HL2.out | exact lt_step _ _ HL2.out (below_drew _)) h); have HT3 := Lib.hid ((HT2.out.later (show Below w2.heap.size w2 _ by first | exact Below.refl _ _ | exact below_drew w2)).later h); have c1 := HT3.out.c1; have c1a := (HT3.out.alloc (.cells #[.int .u64 bk, .int .u64 hh] 73)).c1; clear h)
      | (go_simp; go_at_call 74; (with_reducible refine (KS.out _ _ (HN2.out _)).mono ?_); rintro e w4 ⟨rfl, rfl⟩)
      | fail)
    all_goals
      go_wp2
      go_ret
      exact ⟨rfl, lt_step _ _ HL3.out ((Below.refl _ _).alloc (Nat.le_refl _) _)⟩
end Go.Proofs.YtnhddnldebdmbaaGreatDoor
/- Steps: the document's own answer. -/
namespace Go.Proofs.YtnhddnldebdmbaaGreatDoor
open Go.RowKit
set_option linter.unusedVariables false
set_option linter.unusedSimpArgs false
theorem infoU64 : (Tryz.prog.info? 73).map (fun i => (i.zero, i.size, i.bytes)) = some (some (.int .u64 0), 1, 8) := by kernel_rfl
/-- Is it a step? -/
def stpB (l : List Ts) (i w : Int) : Bool := decide (higherI l i w > higherI l i (w - 1))
/-- The steps up to m. -/
def stpS (l : List Ts) (i : Int) : Nat → List Int
  | 0 => []
  | m + 1 => if stpB l i ((m : Int) + 1) then stpS l i m ++ [(m : Int) + 1] else stpS l i m
theorem stpS_len (l : List Ts) (i : Int) : ∀ m, (stpS l i m).length ≤ m
  | 0 => Nat.le_refl _
  | m + 1 => by
    have := stpS_len l i m
    rw [stpS]
    split
    · simp; omega
    · omega
theorem stpS_bd (l : List Ts) (i : Int) : ∀ m, ∀ n ∈ stpS l i m, 1 ≤ n ∧ n ≤ (m : Int)
  | 0, n, h => by simp [stpS] at h
  | m + 1, n, h => by
    rw [stpS] at h
    split at h
    · rcases List.mem_append.1 h with h | h
      · have := stpS_bd l i m n h; omega
      · obtain rfl := List.mem_singleton.1 h; omega
    · have := stpS_bd l i m n h; omega
theorem cellsU_snoc (l : List Int) (n : Int) : cellsU (l ++ [n]) = cellsU l ++ [.int .u64 n] := by simp [cellsU]
theorem u_new (V : World) (n : Int) : ∀ j u, [Value.int .u64 n][j]? = some u → (V.alloc (.cells #[.int .u64 n] 73)).cell? ((⟨V.heap.size, 0, none⟩ : Addr).add j) = some u := by
  intro j u hj
  rw [add_none, Nat.zero_add, cell_of_row _ _ j _ _ _ (heap_alloc_new V _)]
  simpa using hj
/-- An own row of numbers. -/
def OwnU (B : Nat) (w : World) (v : Value) (ns : List Int) : Prop := w.ownsRow B 73 1 v ns.length (cellsU ns)
theorem own_stay {W W' : World} (hb : Below W.heap.size W W') {base e size k : Nat} {v : Value} {xs : List Value} (hr : W.ownsRow base e size v k xs) : W'.ownsRow base e size v k xs := by
  obtain ⟨h1, h2⟩ := hr
  refine ⟨h1, ?_⟩
  rcases h2 with h2 | ⟨g, cap, cur, hv, hg, hh, r⟩
  · exact .inl h2
  · subst hv
    exact .inr ⟨g, cap, cur, rfl, hg, (hb.block g (Array.getElem?_eq_some_iff.1 hh).1).trans hh, r⟩
def StP (ns : List Int) (w : World) (e : Ending) (w' : World) : Prop := ∃ v, e = .returned v ∧ OwnU w.heap.size w' v ns ∧ Below w.heap.size w w'
end Go.Proofs.YtnhddnldebdmbaaGreatDoor
/- Steps, told by rises: plain words. -/
namespace Go.Proofs.YtnhddnldebdmbaaGreatDoor
open Go.RowKit
set_option linter.unusedVariables false
set_option linter.unusedSimpArgs false
/-- The least number above w in which the task is released more often. -/
def riseS (x : Ts) (w : Int) : Int := if w = 0 then 1 else relSD x w * x.t - x.j + 1
def lF (w : Int) (s : Int × Bool) (x : Ts) : Int × Bool := if (!s.2 || decide (riseS x w < s.1)) = true then (riseS x w, true) else s
def leastP (A : List Ts) (w : Int) : Int × Bool := A.foldl (lF w) (0, false)
def stepL (A : List Ts) (m : Int) : Nat → Int → List Int
  | 0, _ => []
  | f + 1, w => if (!(leastP A w).2 || decide ((leastP A w).1 > m)) = true then [] else (leastP A w).1 :: stepL A m f (leastP A w).1
def evB (A : List Ts) (n : Int) : Bool := A.any (fun x => decide (relSD x n > relSD x (n - 1)))
theorem relS_is {x : Ts} {w : Int} (hx : RelD x) (h1 : 1 ≤ w) (h2 : w ≤ 1099511627776) : relSD x w = ceilI (w + x.j) x.t := by
  obtain ⟨⟨t0, t1⟩, j0, j1⟩ := hx
  unfold relSD oftS
  rw [if_neg (by omega), satAdd_fit (by omega), ceil_is (by omega) t0]
theorem relS_zero (x : Ts) : relSD x 0 = 0 := by unfold relSD; rw [if_pos rfl]
/-- A quotient from above, by its two bounds. -/
theorem ceilI_bds {a t : Int} (ht : 1 ≤ t) : a ≤ ceilI a t * t ∧ ceilI a t * t ≤ a + t - 1 := by
  unfold ceilI
  have e := Int.emod_add_mul_ediv (a + t - 1) t
  have r0 := Int.emod_nonneg (a + t - 1) (show t ≠ 0 by omega)
  have r1 := Int.emod_lt_of_pos (a + t - 1) (show 0 < t by omega)
  rw [Int.mul_comm] at e
  omega
theorem ceilI_le_of {a t c : Int} (ht : 1 ≤ t) (h : a ≤ c * t) : ceilI a t ≤ c := by
  have hb := (ceilI_bds (a := a) ht).2
  rcases Int.lt_or_le c (ceilI a t) with hc | hc
  · have : (c + 1) * t ≤ ceilI a t * t := Int.mul_le_mul_of_nonneg_right (by omega) (by omega)
    rw [Int.add_mul, Int.one_mul] at this
    omega
  · exact hc
theorem ceilI_ge_of {a t c : Int} (ht : 1 ≤ t) (h : c * t < a) : c + 1 ≤ ceilI a t := by
  have hb := (ceilI_bds (a := a) ht).1
  rcases Int.lt_or_le c (ceilI a t) with hc | hc
  · omega
  · have : ceilI a t * t ≤ c * t := Int.mul_le_mul_of_nonneg_right hc (by omega)
    omega
theorem rise_spec {x : Ts} {w : Int} (hx : RelD x) (h0 : 0 ≤ w) (h1 : w ≤ 1000000) :
    w < riseS x w ∧ riseS x w ≤ w + 2147483648 ∧ relSD x (riseS x w) > relSD x (riseS x w - 1) ∧ ∀ n, w < n → n < riseS x w → ¬ relSD x n > relSD x (n - 1) := by
  have hR := hx
  obtain ⟨⟨t0, t1⟩, j0, j1⟩ := hx
  by_cases hw : w = 0
  · subst hw
    have e : riseS x 0 = 1 := by unfold riseS; rw [if_pos rfl]
    rw [e]
    refine ⟨by omega, by omega, ?_, fun n _ _ => by omega⟩
    rw [show (1 : Int) - 1 = 0 from rfl, relS_zero, relS_is hR (by omega) (by omega)]
    have := ceilI_ge_of (a := 1 + x.j) (c := 0) t0 (by omega)
    omega
  · have hc := relS_is hR (show 1 ≤ w by omega) (by omega)
    obtain ⟨b0, b1⟩ := ceilI_bds (a := w + x.j) t0
    have e : riseS x w = ceilI (w + x.j) x.t * x.t - x.j + 1 := by unfold riseS; rw [if_neg hw, hc]
    rw [e]
    generalize hcc : ceilI (w + x.j) x.t = c at *
    refine ⟨by omega, by omega, ?_, fun n hn1 hn2 => ?_⟩
    · rw [relS_is hR (by omega) (by omega), relS_is hR (by omega) (by omega)]
      have g1 := ceilI_ge_of (a := c * x.t - x.j + 1 + x.j) (c := c) t0 (by omega)
      have g2 := ceilI_le_of (a := c * x.t - x.j + 1 - 1 + x.j) (c := c) t0 (by omega)
      omega
    · rw [relS_is hR (by omega) (by omega), relS_is hR (by omega) (by omega)]
      have g2 := ceilI_le_of (a := n + x.j) (c := c) t0 (by omega)
      have g3 := ceilI_mono (a := w + x.j) (b := n - 1 + x.j) t0 (by omega)
      omega
theorem least_fold (w : Int) : ∀ (A : List Ts) (s : Int × Bool), s.2 = true → (A.foldl (lF w) s).2 = true ∧ (A.foldl (lF w) s).1 ≤ s.1 ∧ (∀ x ∈ A, (A.foldl (lF w) s).1 ≤ riseS x w) ∧ ((A.foldl (lF w) s).1 = s.1 ∨ ∃ x ∈ A, (A.foldl (lF w) s).1 = riseS x w)
  | [], s, h => ⟨h, Int.le_refl _, by simp, .inl rfl⟩
  | a :: A, s, h => by
    have hs : (lF w s a).2 = true := by
      unfold lF
      split
      · rfl
      · exact h
    obtain ⟨r1, r2, r3, r4⟩ := least_fold w A (lF w s a) hs
    have h1 : (lF w s a).1 ≤ s.1 ∧ (lF w s a).1 ≤ riseS a w ∧ ((lF w s a).1 = s.1 ∨ (lF w s a).1 = riseS a w) := by
      unfold lF
      rw [h]
      by_cases hl : riseS a w < s.1
      · rw [if_pos (by simpa using hl)]; exact ⟨by omega, Int.le_refl _, .inr rfl⟩
      · rw [if_neg (by simpa using hl)]; exact ⟨Int.le_refl _, by omega, .inl rfl⟩
    rw [List.foldl_cons]
    refine ⟨r1, by omega, fun x hx => ?_, ?_⟩
    · rcases List.mem_cons.1 hx with rfl | hx
      · omega
      · exact r3 x hx
    · rcases r4 with r4 | ⟨x, hx, r4⟩
      · rcases h1.2.2 with h2 | h2
        · exact .inl (by omega)
        · exact .inr ⟨a, by simp, by omega⟩
      · exact .inr ⟨x, by simp [hx], r4⟩
theorem least_cons (w : Int) (a : Ts) (A : List Ts) : (leastP (a :: A) w).2 = true ∧ (∀ x ∈ a :: A, (leastP (a :: A) w).1 ≤ riseS x w) ∧ ∃ x ∈ a :: A, (leastP (a :: A) w).1 = riseS x w := by
  have e : leastP (a :: A) w = A.foldl (lF w) (riseS a w, true) := rfl
  obtain ⟨r1, r2, r3, r4⟩ := least_fold w A (riseS a w, true) rfl
  rw [e]
  refine ⟨r1, fun x hx => ?_, ?_⟩
  · rcases List.mem_cons.1 hx with rfl | hx
    · exact r2
    · exact r3 x hx
  · rcases r4 with r4 | ⟨x, hx, r4⟩
    · exact ⟨a, by simp, r4⟩
    · exact ⟨x, by simp [hx], r4⟩
theorem least_spec {a : Ts} {A : List Ts} {w : Int} (hA : ∀ x ∈ a :: A, RelD x) (h0 : 0 ≤ w) (h1 : w ≤ 1000000) :
    w < (leastP (a :: A) w).1 ∧ (leastP (a :: A) w).1 ≤ w + 2147483648 ∧ evB (a :: A) (leastP (a :: A) w).1 = true ∧ ∀ n, w < n → n < (leastP (a :: A) w).1 → evB (a :: A) n = false := by
  obtain ⟨_, r2, x, hx, r3⟩ := least_cons w a A
  obtain ⟨s1, s2, s3, _⟩ := rise_spec (hA x hx) h0 h1
  rw [r3]
  refine ⟨s1, s2, List.any_eq_true.2 ⟨x, hx, decide_eq_true s3⟩, fun n hn1 hn2 => ?_⟩
  rw [evB, List.any_eq_false]
  intro z hz
  obtain ⟨_, _, _, z4⟩ := rise_spec (hA z hz) h0 h1
  have := r2 z hz
  simpa using z4 n hn1 (by omega)
/-- The events behind w, up to m. -/
def evs (A : List Ts) (w m : Nat) : List Int := ((List.range' (w + 1) (m - w)).filter (fun k : Nat => evB A (k : Int))).map (fun k : Nat => (k : Int))
theorem stepL_evs {A : List Ts} (hA : ∀ x ∈ A, RelD x) (m : Nat) (hm : m ≤ 1000000) : ∀ (f w : Nat), w ≤ m → m - w ≤ f → stepL A (m : Int) f (w : Int) = evs A w m
  | 0, w, hw, hf => by
    rw [stepL, evs, show m - w = 0 by omega]
    rfl
  | f + 1, w, hw, hf => by
    cases A with
    | nil =>
      rw [stepL, if_pos (show (!(leastP [] (w : Int)).2 || decide ((leastP [] (w : Int)).1 > (m : Int))) = true from rfl), evs, List.filter_eq_nil_iff.2 (by simp [evB])]
      rfl
    | cons a A =>
      obtain ⟨s1, s2, s3, s4⟩ := least_spec hA (w := (w : Int)) (by omega) (by omega)
      have r1 := (least_cons (w : Int) a A).1
      rw [stepL, r1]
      by_cases hn : (leastP (a :: A) w).1 > (m : Int)
      · rw [if_pos (by simpa using hn), evs, List.filter_eq_nil_iff.2 (fun k hk => ?_)]
        · rfl
        · have hk2 := List.mem_range'_1.1 hk
          rw [s4 (k : Int) (by omega) (by omega)]
          decide
      · rw [if_neg (by simpa using hn)]
        obtain ⟨n, hnn⟩ := Int.eq_ofNat_of_zero_le (show 0 ≤ (leastP (a :: A) w).1 by omega)
        rw [hnn] at s1 s2 s3 s4 hn ⊢
        rw [stepL_evs hA m hm f n (by omega) (by omega), evs, evs]
        have e : m - w = (n - 1 - w) + (1 + (m - n)) := by omega
        have e2 : List.range' (w + 1) (m - w) = List.range' (w + 1) (n - 1 - w) ++ (n :: List.range' (n + 1) (m - n)) := by
          rw [e]
          have := @List.range'_append (w + 1) (n - 1 - w) (1 + (m - n)) 1
          rw [Nat.one_mul] at this
          rw [← this, Nat.add_comm 1 (m - n), List.range'_succ, show w + 1 + (n - 1 - w) = n by omega]
        have hnil : (List.range' (w + 1) (n - 1 - w)).filter (fun k : Nat => evB (a :: A) (k : Int)) = [] := List.filter_eq_nil_iff.2 (fun k hk => by
          have hk2 := List.mem_range'_1.1 hk
          rw [s4 (k : Int) (by omega) (by omega)]
          decide)
        rw [e2, List.filter_append, hnil, List.filter_cons, if_pos (by simpa using s3)]
        rfl
theorem stpS_evs (l : List Ts) (i : Int) (A : List Ts) : ∀ m : Nat, (∀ k : Nat, 1 ≤ k → k ≤ m → stpB l i (k : Int) = evB A (k : Int)) → stpS l i m = evs A 0 m
  | 0, _ => rfl
  | m + 1, h => by
    have ih := stpS_evs l i A m (fun k h1 h2 => h k h1 (by omega))
    have h1 := h (m + 1) (by omega) (Nat.le_refl _)
    have e : ((m + 1 : Nat) : Int) = (m : Int) + 1 := by omega
    rw [e] at h1
    rw [stpS, h1, ih, evs, evs]
    simp only [Nat.sub_zero, Nat.zero_add]
    rw [List.range'_concat, List.filter_append, List.map_append]
    simp only [Nat.one_mul]
    rw [show 1 + m = m + 1 by omega, List.filter_cons, List.filter_nil, e]
    cases evB A ((m : Int) + 1)
    · simp
    · simp
theorem sum_lt_any {l : List Ts} {f g : Ts → Int} (h : ∀ x ∈ l, f x ≤ g x) : decide ((l.map f).sum < (l.map g).sum) = l.any (fun x => decide (f x < g x)) := by
  induction l with
  | nil => simp
  | cons a l ih =>
    have ih := ih (fun x hx => h x (by simp [hx]))
    have ha := h a (by simp)
    have hs := sum_leD (l := l) (f := f) (g := g) (fun x hx => h x (by simp [hx]))
    rw [List.map_cons, List.map_cons, List.sum_cons, List.sum_cons, List.any_cons, ← ih]
    by_cases h1 : f a < g a
    · rw [decide_eq_true h1, Bool.true_or, decide_eq_true_eq]; omega
    · rw [decide_eq_false h1, Bool.false_or, decide_eq_decide]; omega
/-- A task by what steps hang on. -/
def prT (x : Ts) : Ts := ⟨ByteArray.empty, 0, x.t, 0, x.j, 0, 0⟩
theorem prT_rel (x : Ts) (w : Int) : relSD (prT x) w = relSD x w := rfl
theorem hi_rel {ts : List Ts} (h : St ts) (p : Int) {w : Int} (h0 : 0 ≤ w) (h1 : w ≤ 1000000) : hiU p w ts = (ts.map (fun x => if x.p < p then relSD x w * x.c else 0)).sum := by
  rw [h.hi h0 (by omega)]
  by_cases hw : w = 0
  · rw [if_pos hw, hw]
    have : ∀ l : List Ts, (l.map (fun x => if x.p < p then relSD x 0 * x.c else 0)).sum = 0 := fun l => by
      induction l with
      | nil => rfl
      | cons a l ih =>
        rw [List.map_cons, List.sum_cons, ih, relS_zero]
        simp
    rw [this]
  · rw [if_neg hw]
    refine sum_eq fun x hx => ?_
    unfold addH
    split
    · rw [relS_is (h.vs.all x hx).rel (by omega) (by omega)]
    · rfl
theorem rel_mono {x : Ts} {w : Int} (hx : RelD x) (h1 : 1 ≤ w) (h2 : w ≤ 1000000) : relSD x (w - 1) ≤ relSD x w := by
  by_cases hw : w = 1
  · subst hw
    rw [show (1 : Int) - 1 = 0 from rfl, relS_zero]
    exact (relS_u hx ⟨by decide, by decide⟩).1
  · rw [relS_is hx (by omega) (by omega), relS_is hx (by omega) (by omega)]
    exact ceilI_mono hx.t.1 (by omega)
theorem stp_ev {ts : List Ts} (h : St ts) {k : Nat} {y : Ts} (hy : ts[k]? = some y) {n : Int} (h1 : 1 ≤ n) (h2 : n ≤ 1000000) :
    stpB ts (k : Int) n = evB ((ts.filter (fun x => decide (x.p < y.p))).map prT) n := by
  unfold stpB
  rw [higher_at h.chk hy, higher_at h.chk hy, hi_rel h _ (by omega) h2, hi_rel h _ (by omega) (by omega)]
  show decide (_ < _) = _
  rw [sum_lt_any (fun x hx => ?_)]
  · rw [evB, List.any_map, List.any_filter]
    have hg : ∀ x ∈ ts, (decide ((if x.p < y.p then relSD x (n - 1) * x.c else 0) < (if x.p < y.p then relSD x n * x.c else 0)) : Bool) = (decide (x.p < y.p) && ((fun x => decide (relSD x n > relSD x (n - 1))) ∘ prT) x) := fun x hx => by
      have hc : 1 ≤ x.c := (h.vs.all x hx).c0
      have hm := rel_mono (h.vs.all x hx).rel h1 h2
      show _ = (decide (x.p < y.p) && decide (relSD x n > relSD x (n - 1)))
      by_cases hp : x.p < y.p
      · rw [if_pos hp, if_pos hp, decide_eq_true hp, Bool.true_and, decide_eq_decide]
        refine ⟨fun hl => ?_, fun hl => Int.mul_lt_mul_of_pos_right hl (by omega)⟩
        rcases Int.lt_or_le (relSD x (n - 1)) (relSD x n) with h9 | h9
        · exact h9
        · have := Int.mul_le_mul_of_nonneg_right h9 (show 0 ≤ x.c by omega)
          omega
      · rw [if_neg hp, if_neg hp, decide_eq_false hp]
        simp
    have : ∀ l : List Ts, (∀ x ∈ l, x ∈ ts) → l.any (fun x => decide ((if x.p < y.p then relSD x (n - 1) * x.c else 0) < (if x.p < y.p then relSD x n * x.c else 0))) = l.any (fun x => decide (x.p < y.p) && ((fun x => decide (relSD x n > relSD x (n - 1))) ∘ prT) x) := fun l hl => by
      induction l with
      | nil => rfl
      | cons a l ih =>
        rw [List.any_cons, List.any_cons, hg a (hl a (by simp)), ih (fun x hx => hl x (by simp [hx]))]
    exact this ts (fun x hx => hx)
  · have hc : 1 ≤ x.c := (h.vs.all x hx).c0
    have hm := rel_mono (h.vs.all x hx).rel h1 h2
    split
    · exact Int.mul_le_mul_of_nonneg_right hm (by omega)
    · omega
/-- What Steps holds on to. -/
def aheadS (l : List Ts) (i : Int) : List Ts := if isB l i then (l.filter (fun x => decide (x.p < pOf l i))).map prT else []
theorem ahead_rel {l : List Ts} {i : Int} : ∀ x ∈ aheadS l i, RelD x := by
  unfold aheadS
  split
  · rename_i h
    intro x hx
    obtain ⟨z, hz, rfl⟩ := List.mem_map.1 hx
    have := (isB_vs h).all z (List.mem_filter.1 hz).1
    exact ⟨⟨this.t0, this.t1⟩, this.j0, this.j1⟩
  · intro x hx; cases hx
theorem steps_same {ts : List Ts} (h : St ts) (i : Int) (m : Nat) (hm : m ≤ 4000) : stepL (aheadS ts i) (m : Int) 4096 0 = stpS ts i m := by
  have e := stepL_evs (ahead_rel (l := ts) (i := i)) m (by omega) 4096 0 (by omega) (by omega)
  rw [show ((0 : Nat) : Int) = 0 from rfl] at e
  rw [e]
  symm
  refine stpS_evs ts i _ m fun k h1 h2 => ?_
  cases hb : isB ts i
  · have : aheadS ts i = [] := by unfold aheadS; rw [hb]; rfl
    rw [this]
    unfold stpB higherI
    rw [hb]
    rfl
  · obtain ⟨ki, y, rfl, hki, hy⟩ := isB_get hb
    have : aheadS ts (ki : Int) = (ts.filter (fun x => decide (x.p < y.p))).map prT := by unfold aheadS; rw [hb, if_pos rfl, (pOf_get hy).1]
    rw [this]
    exact stp_ev h hy (by omega) (by omega)
end Go.Proofs.YtnhddnldebdmbaaGreatDoor
/- The reckoning, of any numbers that rise: plain words. -/
namespace Go.Proofs.YtnhddnldebdmbaaGreatDoor
set_option linter.unusedVariables false
set_option linter.unusedSimpArgs false
/-- What is asked of Need. -/
structure Rises (N : Int → Int) : Prop where
  mono : ∀ {w w' : Int}, 0 ≤ w → w ≤ w' → N w ≤ N w'
  pos : ∀ {w : Int}, 0 ≤ w → 1 ≤ N w
/-- The numbers of the reckoning. -/
def rkF (N : Int → Int) : Nat → Int
  | 0 => N 0
  | n + 1 => N (rkF N n)
section
variable {N : Int → Int}
theorem rk_pos (h : Rises N) : ∀ n, 1 ≤ rkF N n
  | 0 => h.pos (Int.le_refl _)
  | n + 1 => h.pos (by have := rk_pos h n; omega)
theorem rk_le (h : Rises N) {w : Int} (h1 : 0 ≤ w) (he : N w ≤ w) : ∀ n, rkF N n ≤ w
  | 0 => Int.le_trans (h.mono (Int.le_refl _) h1) he
  | n + 1 => Int.le_trans (h.mono (by have := rk_pos h n; omega) (rk_le h h1 he n)) he
theorem rk_mono (h : Rises N) : ∀ n, rkF N n ≤ rkF N (n + 1)
  | 0 => h.mono (Int.le_refl _) (Int.le_trans (by decide) (rk_pos h 0))
  | n + 1 => h.mono (by have := rk_pos h n; omega) (rk_mono h n)
/-- The least number that is enough, up to so many. -/
def leastF (N : Int → Int) (M : Nat) : Option Nat := ((List.range M).find? fun w : Nat => decide (N ((w : Int) + 1) ≤ (w : Int) + 1)).map (· + 1)
theorem leastF_some {M w : Nat} (h : leastF N M = some w) : 1 ≤ w ∧ w ≤ M ∧ N w ≤ w ∧ ∀ v : Nat, 1 ≤ v → v < w → (v : Int) < N v := by
  unfold leastF at h
  obtain ⟨u, hu, rfl⟩ := Option.map_eq_some_iff.1 h
  have h1 := List.find?_some hu
  have h2 := List.mem_range.1 (List.mem_of_find?_eq_some hu)
  simp only [decide_eq_true_eq] at h1
  refine ⟨by omega, by omega, by rw [show ((u + 1 : Nat) : Int) = (u : Int) + 1 by omega]; exact h1, fun v hv1 hv2 => ?_⟩
  rw [List.find?_eq_some_iff_getElem] at hu
  obtain ⟨_, k, hk, hke, hlt⟩ := hu
  simp only [List.getElem_range] at hke
  have := hlt (v - 1) (by omega)
  simp only [List.getElem_range, Bool.not_eq_true', decide_eq_false_iff_not] at this
  rw [show ((v - 1 : Nat) : Int) + 1 = (v : Int) by omega] at this
  omega
theorem leastF_none {M : Nat} (h : leastF N M = none) : ∀ v : Nat, 1 ≤ v → v ≤ M → (v : Int) < N v := by
  unfold leastF at h
  rw [Option.map_eq_none_iff, List.find?_eq_none] at h
  intro v h1 h2
  have := h (v - 1) (List.mem_range.2 (by omega))
  simp only [decide_eq_true_eq] at this
  rw [show ((v - 1 : Nat) : Int) + 1 = (v : Int) by omega] at this
  omega
theorem leastF_is {M w : Nat} (h1 : 1 ≤ w) (h2 : w ≤ M) (h3 : N w ≤ w) (h4 : ∀ v : Nat, 1 ≤ v → v < w → (v : Int) < N v) : leastF N M = some w := by
  cases hl : leastF N M with
  | none => have := leastF_none hl w h1 h2; omega
  | some u =>
    obtain ⟨a1, a2, a3, a4⟩ := leastF_some hl
    congr 1
    rcases Nat.lt_trichotomy u w with h | h | h
    · have := h4 u a1 h; omega
    · exact h
    · have := a4 w h1 h; omega
theorem leastF_not {M : Nat} (h : ∀ v : Nat, 1 ≤ v → v ≤ M → (v : Int) < N v) : leastF N M = none := by
  cases hl : leastF N M with
  | none => rfl
  | some u =>
    obtain ⟨a1, a2, a3, a4⟩ := leastF_some hl
    have := h u a1 a2
    omega
/-- What is told one by one: from w on. -/
def eachF (N : Int → Int) (M : Int) : Nat → Int → List Int
  | 0, w => [w]
  | f + 1, w => if w > M ∨ N w = w then [w] else w :: eachF N M f (N w)
theorem eachF_ne (M : Int) : ∀ (f : Nat) (w : Int), eachF N M f w ≠ []
  | 0, w => by simp [eachF]
  | f + 1, w => by
    rw [eachF]
    split <;> simp
/-- The last number, behind so many: it is too great, or at rest. -/
theorem eachF_last (h : Rises N) (M : Int) : ∀ (f n : Nat), (M - rkF N n) < (f : Int) → 0 ≤ M →
    ∃ m, n ≤ m ∧ (eachF N M f (rkF N n)).getLast? = some (rkF N m) ∧ (rkF N m > M ∨ rkF N (m + 1) = rkF N m)
  | 0, n, hf, _ => ⟨n, Nat.le_refl _, by simp [eachF], .inl (by omega)⟩
  | f + 1, n, hf, hM => by
    rw [eachF]
    split
    · rename_i hc
      exact ⟨n, Nat.le_refl _, by simp, hc⟩
    · rename_i hc
      have h1 := rk_mono h n
      have h2 : rkF N (n + 1) = N (rkF N n) := rfl
      have h3 : rkF N (n + 1) ≠ rkF N n := fun e => hc (.inr (by rw [← h2]; exact e))
      obtain ⟨m, a1, a2, a3⟩ := eachF_last h M f (n + 1) (by omega) hM
      refine ⟨m, by omega, ?_, a3⟩
      rw [List.getLast?_cons, ← h2]
      rw [a2]
      rfl
/-- Where it stops it tells the least number. -/
theorem stop_least (h : Rises N) {M m : Nat} : (rkF N m > (M : Int) → leastF N M = none) ∧ (rkF N m ≤ (M : Int) → rkF N (m + 1) = rkF N m → leastF N M = some (rkF N m).toNat) := by
  have hp := rk_pos h m
  refine ⟨fun hg => leastF_not fun v h1 h2 => ?_, fun hl he => ?_⟩
  · rcases Int.lt_or_le (v : Int) (N v) with h3 | h3
    · exact h3
    · have := rk_le h (show (0 : Int) ≤ (v : Int) by omega) h3 m; omega
  · have e : (((rkF N m).toNat : Nat) : Int) = rkF N m := by omega
    have e2 : N (rkF N m) = rkF N m := he
    refine leastF_is (by omega) (by omega) (by rw [e, e2]; exact Int.le_refl _) fun v h1 h2 => ?_
    rcases Int.lt_or_le (v : Int) (N v) with h3 | h3
    · exact h3
    · have := rk_le h (show (0 : Int) ≤ (v : Int) by omega) h3 m; omega
/-- The last number tells the bound. -/
theorem last_least (h : Rises N) (M : Nat) {z : Int} (hz : (eachF N M (M + 1) (N 0)).getLast? = some z) : (z > (M : Int) ∧ leastF N M = none) ∨ (z ≤ (M : Int) ∧ leastF N M = some z.toNat ∧ N z = z ∧ 1 ≤ z) := by
  have hp := rk_pos h 0
  obtain ⟨m, _, a2, a3⟩ := eachF_last h (M : Int) (M + 1) 0 (by omega) (by omega)
  rw [show rkF N 0 = N 0 from rfl, hz] at a2
  obtain rfl := Option.some.inj a2
  have hpm := rk_pos h m
  rcases Int.lt_or_le (M : Int) (rkF N m) with hg | hg
  · exact .inl ⟨hg, (stop_least h).1 hg⟩
  · rcases a3 with a3 | a3
    · omega
    · exact .inr ⟨hg, (stop_least h).2 hg a3, a3, hpm⟩
/-- A larger fuel changes nothing. -/
theorem eachF_fuel (h : Rises N) (M : Int) (hM : 0 ≤ M) : ∀ (f f' n : Nat), (M - rkF N n) < (f : Int) → f ≤ f' → eachF N M f' (rkF N n) = eachF N M f (rkF N n)
  | 0, 0, n, _, _ => rfl
  | 0, f' + 1, n, hf, _ => by
    show (if rkF N n > M ∨ N (rkF N n) = rkF N n then [rkF N n] else rkF N n :: eachF N M f' (N (rkF N n))) = [rkF N n]
    rw [if_pos (.inl (by omega))]
  | f + 1, 0, n, _, hff => by omega
  | f + 1, f' + 1, n, hf, hff => by
    rw [eachF, eachF]
    split
    · rfl
    · rename_i hc
      have h1 := rk_mono h n
      have h2 : rkF N (n + 1) = N (rkF N n) := rfl
      have h3 : rkF N (n + 1) ≠ rkF N n := fun e => hc (.inr (by rw [← h2]; exact e))
      rw [← h2, eachF_fuel h M hM f f' (n + 1) (by omega) (by omega)]
/-- One that needs no more has no greater bound. -/
theorem least_eases {N' : Int → Int} {M M' w : Nat} (hN : ∀ v : Nat, 1 ≤ v → v ≤ M → N' v ≤ N v) (hM : M ≤ M') (hl : leastF N M = some w) : ∃ w', w' ≤ w ∧ leastF N' M' = some w' := by
  obtain ⟨h1, h2, h3, _⟩ := leastF_some hl
  have h4 := hN w h1 h2
  cases hl' : leastF N' M' with
  | none => have := leastF_none hl' w h1 (by omega); omega
  | some w' =>
    obtain ⟨a1, a2, a3, a4⟩ := leastF_some hl'
    refine ⟨w', ?_, rfl⟩
    rcases Nat.lt_or_ge w w' with h5 | h5
    · have := a4 w h1 h5; omega
    · exact h5
/-- With numbers so many times as great the bound is so many times as great. -/
theorem least_scale {N' : Int → Int} (h : Rises N) (h' : Rises N') {M k : Nat} (hk : 1 ≤ k) (h0 : N' 0 = N 0 * k) (hN : ∀ w : Int, 1 ≤ w → w ≤ M → N' (w * k) = N w * k) : leastF N' (M * k) = (leastF N M).map (· * k) := by
  have hkk : (1 : Int) ≤ (k : Int) := by omega
  have rk : ∀ n, (∀ m, m < n → rkF N m ≤ M) → rkF N' n = rkF N n * k := by
    intro n
    induction n with
    | zero => intro _; exact h0
    | succ n ih =>
      intro hm
      have e := ih (fun m hm' => hm m (by omega))
      show N' (rkF N' n) = N (rkF N n) * k
      rw [e]
      exact hN _ (rk_pos h n) (hm n (by omega))
  obtain ⟨m, _, a2, a3⟩ := eachF_last h (M : Int) (M + 1) 0 (by have := rk_pos h 0; omega) (by omega)
  -- the first that stops
  have key : ∃ m, (∀ u, u < m → rkF N u ≤ M) ∧ (rkF N m > M ∨ rkF N (m + 1) = rkF N m) := by
    by_cases hb : ∃ u, u ≤ m ∧ rkF N u > M
    · have : ∀ b : Nat, (∃ u, u ≤ b ∧ rkF N u > M) → ∃ m, (∀ u, u < m → rkF N u ≤ M) ∧ rkF N m > M := by
        intro b
        induction b with
        | zero =>
          rintro ⟨u, hu, hg⟩
          obtain rfl : u = 0 := by omega
          exact ⟨0, fun u hu => by omega, hg⟩
        | succ b ih =>
          rintro ⟨u, hu, hg⟩
          by_cases hx : ∃ u, u ≤ b ∧ rkF N u > M
          · exact ih hx
          · refine ⟨u, fun v hv => ?_, hg⟩
            rcases Int.lt_or_le (M : Int) (rkF N v) with h9 | h9
            · exact absurd ⟨v, by omega, h9⟩ hx
            · exact h9
      obtain ⟨m', b1, b2⟩ := this m hb
      exact ⟨m', b1, .inl b2⟩
    · refine ⟨m, fun u hu => ?_, a3⟩
      rcases Int.lt_or_le (M : Int) (rkF N u) with h9 | h9
      · exact absurd ⟨u, by omega, h9⟩ hb
      · exact h9
  obtain ⟨m, b1, b2⟩ := key
  have em := rk m b1
  have hpm := rk_pos h m
  rcases Int.lt_or_le (M : Int) (rkF N m) with hg | hg
  · rw [(stop_least h).1 hg]
    refine (stop_least h' (m := m)).1 ?_
    rw [em, Int.natCast_mul]
    exact Int.mul_lt_mul_of_pos_right hg (by omega)
  · rcases b2 with b2 | b2
    · omega
    · have em1 := rk (m + 1) (fun u hu => by
        rcases Nat.lt_or_ge u m with h9 | h9
        · exact b1 u h9
        · obtain rfl : u = m := by omega
          exact hg)
      rw [(stop_least h).2 hg b2]
      have hle : rkF N' m ≤ ((M * k : Nat) : Int) := by rw [em, Int.natCast_mul]; exact Int.mul_le_mul_of_nonneg_right hg (by omega)
      rw [(stop_least h').2 hle (by rw [em1, em, b2]), em]
      show some _ = some ((rkF N m).toNat * k)
      congr 1
      have e1 : (((rkF N m).toNat : Nat) : Int) = rkF N m := by omega
      have h9 : 0 ≤ rkF N m * (k : Int) := Int.mul_nonneg (by omega) (by omega)
      have e2 : (((rkF N m * (k : Int)).toNat : Nat) : Int) = rkF N m * k := by omega
      have e3 : (((rkF N m).toNat * k : Nat) : Int) = rkF N m * k := by rw [Int.natCast_mul, e1]
      omega
end
end Go.Proofs.YtnhddnldebdmbaaGreatDoor
/- Need rises; bounds: plain words. -/
namespace Go.Proofs.YtnhddnldebdmbaaGreatDoor
set_option linter.unusedVariables false
set_option linter.unusedSimpArgs false
theorem satAdd_mono {a a' b b' : Int} (h1 : a ≤ a') (h2 : b ≤ b') : satAdd a b ≤ satAdd a' b' := by
  unfold satAdd
  split <;> split <;> omega
theorem satAdd_ge {a b : Int} (ha : a ≤ 18446744073709551615) (hb : 0 ≤ b) : a ≤ satAdd a b := by
  unfold satAdd
  split <;> omega
theorem satMul_mono {a a' c : Int} (h : a ≤ a') (hc : 0 ≤ c) : satMul a c ≤ satMul a' c := by
  have hm : a * c ≤ a' * c := Int.mul_le_mul_of_nonneg_right h hc
  unfold satMul endN mulB mulN
  generalize a * c = x at *
  generalize a' * c = y at *
  by_cases h1 : y ≤ 18446744073709551615
  · rw [decide_eq_true h1, decide_eq_true (show x ≤ 18446744073709551615 by omega), if_pos rfl, if_pos rfl, if_pos h1, if_pos (by omega)]
    exact hm
  · rw [decide_eq_false h1, if_neg (by decide : ¬ (false = true))]
    by_cases h2 : x ≤ 18446744073709551615
    · rw [decide_eq_true h2, if_pos rfl, if_pos h2]; exact h2
    · rw [decide_eq_false h2, if_neg (by decide : ¬ (false = true))]; exact Int.le_refl _
theorem oft_mono {x : Ts} {w w' : Int} (hx : TsOk x) (h0 : 0 ≤ w) (h : w ≤ w') : oftS x w ≤ oftS x w' := by
  have j0 := hx.j0
  unfold oftS
  have h1 := satAdd_u (a := w) (b := x.j) h0 j0
  have h2 := satAdd_u (a := w') (b := x.j) (by omega) j0
  rw [ceil_is h1.1 hx.t0, ceil_is h2.1 hx.t0]
  exact ceilI_mono hx.t0 (satAdd_mono h (Int.le_refl _))
theorem foldl_hi_mono {p w w' : Int} (h0 : 0 ≤ w) (h : w ≤ w') : ∀ (l : List Ts) (s s' : Int), (∀ x ∈ l, TsOk x) → s ≤ s' → l.foldl (hiUF p w) s ≤ l.foldl (hiUF p w') s'
  | [], s, s', _, hs => hs
  | x :: l, s, s', hl, hs => by
    refine foldl_hi_mono h0 h l _ _ (fun y hy => hl y (by simp [hy])) ?_
    unfold hiUF
    split
    · exact satAdd_mono hs (satMul_mono (oft_mono (hl x (by simp)) h0 h) (by have := (hl x (by simp)).c0; omega))
    · exact hs
theorem foldl_hi_pos {p w : Int} (hw : 0 ≤ w) : ∀ (l : List Ts) (s : Int), (∀ x ∈ l, TsOk x) → 0 ≤ s → 0 ≤ l.foldl (hiUF p w) s
  | [], s, _, hs => hs
  | x :: l, s, hl, hs => by
    refine foldl_hi_pos hw l _ (fun y hy => hl y (by simp [hy])) ?_
    have hx := hl x (by simp)
    unfold hiUF
    split
    · refine (satAdd_u hs (satMul_u ?_ (by have := hx.c0; omega)).1).1
      have h1 := satAdd_u (a := w) (b := x.j) hw hx.j0
      unfold oftS
      rw [ceil_is h1.1 hx.t0]
      exact ceilI_nonneg h1.1 hx.t0
    · exact hs
theorem hiU_mono {p w w' : Int} {l : List Ts} (hv : Vs l) (h0 : 0 ≤ w) (h : w ≤ w') : hiU p w l ≤ hiU p w' l := by
  unfold hiU
  by_cases h1 : w' = 0
  · rw [if_pos h1, if_pos (by omega)]; exact Int.le_refl _
  · rw [if_neg h1]
    split
    · exact foldl_hi_pos (by omega) l 0 hv.all (Int.le_refl _)
    · exact foldl_hi_mono h0 h l 0 0 hv.all (Int.le_refl _)
theorem hiU_nonneg {p w : Int} {l : List Ts} (hv : Vs l) (h0 : 0 ≤ w) : 0 ≤ hiU p w l := by
  unfold hiU
  split
  · exact Int.le_refl _
  · exact foldl_hi_pos h0 l 0 hv.all (Int.le_refl _)
/-- Need is asked as the reckoning wants. -/
theorem need_rises {l : List Ts} {i : Int} (hb : isB l i = true) : Rises (needI l i) := by
  have hv := isB_vs hb
  obtain ⟨k, y, rfl, hk, hy⟩ := isB_get hb
  have hok := hv.all y (List.mem_of_getElem? hy)
  have hc0 := hok.c0
  have hc1 := hok.c1
  have hbb := blockI_bd l (k : Int)
  have e : ∀ w, needI l (k : Int) w = satAdd (satAdd (satAdd 0 y.c) (blockI l k)) (hiU y.p w l) := fun w => by
    have : needI l (k : Int) w = satSum 0 [y.c, blockI l k, higherI l k w] := by unfold needI; rw [hb, if_pos rfl, (pOf_get hy).2]
    rw [this, show higherI l (k : Int) w = hiU y.p w l by unfold higherI; rw [hb, if_pos rfl, (pOf_get hy).1]]
    rfl
  refine ⟨fun {w w'} h0 h => ?_, fun {w} h0 => ?_⟩
  · rw [e, e]
    exact satAdd_mono (Int.le_refl _) (hiU_mono hv h0 h)
  · rw [e]
    have h1 := hiU_nonneg (p := y.p) hv h0
    have h2 : satAdd 0 y.c = y.c := by unfold satAdd; rw [if_pos (by omega)]; omega
    have h3 : satAdd y.c (blockI l k) = y.c + blockI l k := by unfold satAdd; rw [if_pos (by omega)]
    rw [h2, h3]
    have := satAdd_ge (a := y.c + blockI l k) (b := hiU y.p w l) (by omega) h1
    omega
/-- What a task that may be holds besides. -/
structure TsD (x : Ts) : Prop where
  d0 : 1 ≤ x.d
  d1 : x.d ≤ 2147483647
  cj : x.c + x.j ≤ x.d
  dt : x.d ≤ x.t
  qc : x.q ≤ x.c
theorem tsD_of {x : Ts} (h : checkE x = 0) : TsD x := by
  have hr : rangedB x = true ∧ overB x = false := by
    by_cases h1 : (namedB x && rangedB x) = true
    · rw [checkE, if_pos h1] at h
      simp only [Bool.and_eq_true] at h1
      refine ⟨h1.2, ?_⟩
      cases ho : overB x
      · rfl
      · rw [ho] at h; simp at h
    · rw [checkE, if_neg h1] at h; omega
  obtain ⟨-, -, ⟨d1, d2⟩, -, -, -⟩ := rangedB_parts hr.1
  have ho := hr.2
  simp only [overB, decide_eq_false_iff_not] at ho
  exact ⟨d1, d2, by omega, by omega, by omega⟩
theorem chk_d {ts : List Ts} (h : (chkAll ts).2 = 0) : ∀ x ∈ ts, TsD x := by
  rw [chkAll] at h
  split at h
  · cases h
  · exact fun x hx => tsD_of (chkFrom_ok ts [] h x hx)
def dOf (l : List Ts) (i : Int) : Int := (l.getD i.toNat ⟨ByteArray.empty, 1, 1, 1, 0, 1, 1⟩).d
def jOf (l : List Ts) (i : Int) : Int := (l.getD i.toNat ⟨ByteArray.empty, 1, 1, 1, 0, 1, 1⟩).j
def mOf (l : List Ts) (i : Int) : Nat := (dOf l i - jOf l i).toNat
theorem dOf_get {l : List Ts} {k : Nat} {y : Ts} (h : l[k]? = some y) : dOf l (k : Int) = y.d ∧ jOf l (k : Int) = y.j := by
  unfold dOf jOf
  rw [Int.toNat_natCast, List.getD_eq_getElem?_getD, h]
  exact ⟨rfl, rfl⟩
theorem mOf_get {l : List Ts} {k : Nat} {y : Ts} (hc : (chkAll l).2 = 0) (h : l[k]? = some y) : ((mOf l (k : Int) : Nat) : Int) = y.d - y.j ∧ 1 ≤ mOf l (k : Int) ∧ mOf l (k : Int) ≤ 2147483647 := by
  have hd := chk_d hc y (List.mem_of_getElem? h)
  have hv := (vs_of hc).all y (List.mem_of_getElem? h)
  have := hd.cj; have := hd.d1; have := hv.c0; have := hv.j0
  unfold mOf
  rw [(dOf_get h).1, (dOf_get h).2]
  omega
def bndOf (j : Int) : Option Nat → Int × Int
  | some w => ((w : Int) + j, 0)
  | none => (0, 16)
/-- The bound, and its error. -/
def boundI (l : List Ts) (i : Int) : Int × Int := if isB l i then bndOf (jOf l i) (leastF (needI l i) (mOf l i)) else (0, 1)
/-- The numbers of the reckoning, as they are told. -/
def eachI (l : List Ts) (i : Int) : List Int := if isB l i then eachF (needI l i) (mOf l i) (mOf l i + 1) (needI l i 0) else []
theorem boundI_bd (l : List Ts) (i : Int) : 0 ≤ (boundI l i).1 ∧ (boundI l i).1 ≤ 4294967294 ∧ ((boundI l i).2 = 0 ∨ (boundI l i).2 = 1 ∨ (boundI l i).2 = 16) := by
  unfold boundI
  split
  · rename_i hb
    obtain ⟨k, y, rfl, hk, hy⟩ := isB_get hb
    have hm := mOf_get (isB_iff hb).1 hy
    have hj := (isB_vs hb).all y (List.mem_of_getElem? hy)
    have := hj.j0; have := hj.j1
    cases hl : leastF (needI l (k : Int)) (mOf l (k : Int)) with
    | none =>
      show (0 : Int) ≤ 0 ∧ (0 : Int) ≤ 4294967294 ∧ ((16 : Int) = 0 ∨ (16 : Int) = 1 ∨ (16 : Int) = 16)
      omega
    | some w =>
      obtain ⟨a1, a2, _, _⟩ := leastF_some hl
      show 0 ≤ (w : Int) + jOf l k ∧ (w : Int) + jOf l k ≤ 4294967294 ∧ ((0 : Int) = 0 ∨ (0 : Int) = 1 ∨ (0 : Int) = 16)
      rw [(dOf_get hy).2]
      omega
  · exact ⟨by decide, by decide, .inr (.inl rfl)⟩
end Go.Proofs.YtnhddnldebdmbaaGreatDoor
/- What the laws ask of bounds: plain words. -/
namespace Go.Proofs.YtnhddnldebdmbaaGreatDoor
set_option linter.unusedVariables false
set_option linter.unusedSimpArgs false
/-- The least number that is enough is just what is needed. -/
theorem leastF_fix {N : Int → Int} (h : Rises N) {M w : Nat} (hl : leastF N M = some w) : N w = w := by
  obtain ⟨a1, a2, a3, a4⟩ := leastF_some hl
  by_cases h1 : w = 1
  · subst h1
    have := h.pos (w := ((1 : Nat) : Int)) (by omega)
    omega
  · have b1 := a4 (w - 1) (by omega) (by omega)
    have b2 := h.mono (w := ((w - 1 : Nat) : Int)) (w' := (w : Int)) (by omega) (by omega)
    omega
theorem bound_at {l : List Ts} {k : Nat} {y : Ts} (hc : (chkAll l).2 = 0) (hy : l[k]? = some y) : boundI l (k : Int) = bndOf y.j (leastF (needI l (k : Int)) (mOf l (k : Int))) := by
  unfold boundI
  rw [isB_at hc hy, if_pos rfl, (dOf_get hy).2]
/-- What RtaLeast asks. -/
theorem least_pure {l : List Ts} {k : Nat} {y : Ts} (hc : (chkAll l).2 = 0) (hy : l[k]? = some y) :
    ((boundI l (k : Int)).2 = 0 ∧ 1 ≤ (boundI l (k : Int)).1 - y.j ∧ (boundI l (k : Int)).1 - y.j ≤ y.d - y.j ∧ needI l (k : Int) ((boundI l (k : Int)).1 - y.j) = (boundI l (k : Int)).1 - y.j ∧ ∀ v : Int, 1 ≤ v → v < (boundI l (k : Int)).1 - y.j → v < needI l (k : Int) v) ∨
    ((boundI l (k : Int)).2 = 16 ∧ (boundI l (k : Int)).1 = 0 ∧ ∀ v : Int, 1 ≤ v → v ≤ y.d - y.j → v < needI l (k : Int) v) := by
  have hr := need_rises (isB_at hc hy)
  have hm := mOf_get hc hy
  rw [bound_at hc hy]
  cases hl : leastF (needI l (k : Int)) (mOf l (k : Int)) with
  | none =>
    right
    refine ⟨rfl, rfl, fun v h1 h2 => ?_⟩
    have := leastF_none hl v.toNat (by omega) (by omega)
    rwa [show ((v.toNat : Nat) : Int) = v by omega] at this
  | some w =>
    left
    obtain ⟨a1, a2, a3, a4⟩ := leastF_some hl
    have hf := leastF_fix hr hl
    have e : (bndOf y.j (some w)).1 - y.j = (w : Int) := by show (w : Int) + y.j - y.j = w; omega
    refine ⟨rfl, by rw [e]; omega, by rw [e]; omega, by rw [e]; exact hf, fun v h1 h2 => ?_⟩
    rw [e] at h2
    have := a4 v.toNat (by omega) (by omega)
    rwa [show ((v.toNat : Nat) : Int) = v by omega] at this
/-! ### One set that is no harder than another one -/
structure Eas1 (x' x : Ts) : Prop where
  p : x'.p = x.p
  c : x'.c ≤ x.c
  q : x'.q ≤ x.q
  j : x'.j ≤ x.j
  t : x.t ≤ x'.t
theorem Eas1.refl (x : Ts) : Eas1 x x := ⟨rfl, Int.le_refl _, Int.le_refl _, Int.le_refl _, Int.le_refl _⟩
inductive Easy : List Ts → List Ts → Prop
  | nil : Easy [] []
  | cons {x' x : Ts} {l' l : List Ts} : Eas1 x' x → Easy l' l → Easy (x' :: l') (x :: l)
theorem Easy.refl : ∀ l : List Ts, Easy l l
  | [] => .nil
  | x :: l => .cons (Eas1.refl x) (Easy.refl l)
theorem Easy.set {x' x : Ts} (h : Eas1 x' x) : ∀ (l : List Ts) (i : Nat), l[i]? = some x → Easy (l.set i x') l
  | [], i, hi => by simp at hi
  | y :: l, 0, hi => by
    have : y = x := by simpa using hi
    subst this
    exact .cons h (Easy.refl l)
  | y :: l, i + 1, hi => .cons (Eas1.refl y) (Easy.set h l i (by simpa using hi))
theorem ceilI_anti {a t t' : Int} (ha : 0 ≤ a) (ht : 1 ≤ t) (htt : t ≤ t') : ceilI a t' ≤ ceilI a t := by
  have hb := (ceilI_bds (a := a) ht).1
  have h0 := ceilI_nonneg ha ht
  have := Int.mul_le_mul_of_nonneg_left htt h0
  exact ceilI_le_of (by omega) (by omega)
theorem oft_easy {x' x : Ts} (h : Eas1 x' x) (hx : TsOk x) (hx' : TsOk x') {w : Int} (h0 : 0 ≤ w) : oftS x' w ≤ oftS x w := by
  unfold oftS
  have h1 := satAdd_u (a := w) (b := x'.j) h0 hx'.j0
  have h2 := satAdd_u (a := w) (b := x.j) h0 hx.j0
  rw [ceil_is h1.1 hx'.t0, ceil_is h2.1 hx.t0]
  exact Int.le_trans (ceilI_mono hx'.t0 (satAdd_mono (Int.le_refl _) h.j)) (ceilI_anti h2.1 hx.t0 h.t)
theorem satMul_mono2 {a a' c c' : Int} (h : a ≤ a') (hc : c ≤ c') (h0 : 0 ≤ a') (h1 : 0 ≤ c) : satMul a c ≤ satMul a' c' :=
  Int.le_trans (satMul_mono h h1) (by rw [satMul_comm a' c, satMul_comm a' c']; exact satMul_mono hc h0)
theorem hi_easy {p w : Int} (h0 : 0 ≤ w) {l' l : List Ts} (h : Easy l' l) : ∀ (s' s : Int), (∀ x ∈ l, TsOk x) → (∀ x ∈ l', TsOk x) → s' ≤ s → l'.foldl (hiUF p w) s' ≤ l.foldl (hiUF p w) s := by
  induction h with
  | nil => intro s' s _ _ hs; exact hs
  | @cons x' x l' l h hl ih =>
    intro s' s hv hv' hs
    have hx := hv x (by simp)
    have hx' := hv' x' (by simp)
    refine ih _ _ (fun y hy => hv y (by simp [hy])) (fun y hy => hv' y (by simp [hy])) ?_
    unfold hiUF
    rw [h.p]
    split
    · have h2 := satAdd_u (a := w) (b := x.j) h0 hx.j0
      refine satAdd_mono hs (satMul_mono2 (oft_easy h hx hx' h0) h.c ?_ (by have := hx'.c0; omega))
      unfold oftS
      rw [ceil_is h2.1 hx.t0]
      exact ceilI_nonneg h2.1 hx.t0
    · exact hs
theorem blk_easy {p : Int} {l' l : List Ts} (h : Easy l' l) : ∀ (s' s : Int), s' ≤ s → l'.foldl (blkUF p) s' ≤ l.foldl (blkUF p) s := by
  induction h with
  | nil => intro s' s hs; exact hs
  | @cons x' x l' l h hl ih =>
    intro s' s hs
    refine ih _ _ ?_
    unfold blkUF
    rw [h.p]
    have := h.q
    split <;> omega
theorem need_form {l : List Ts} {k : Nat} {y : Ts} (hc : (chkAll l).2 = 0) (hy : l[k]? = some y) (w : Int) : needI l (k : Int) w = satAdd (satAdd (satAdd 0 y.c) (blkU y.p l)) (hiU y.p w l) := by
  rw [need_at hc hy]
  rfl
theorem need_easy {l' l : List Ts} (h : Easy l' l) (hc : (chkAll l).2 = 0) (hc' : (chkAll l').2 = 0) {k : Nat} {y' y : Ts} (hy : l[k]? = some y) (hy' : l'[k]? = some y') (he : Eas1 y' y) {w : Int} (h1 : 1 ≤ w) : needI l' (k : Int) w ≤ needI l (k : Int) w := by
  rw [need_form hc hy, need_form hc' hy', he.p]
  refine satAdd_mono (satAdd_mono (satAdd_mono (Int.le_refl _) he.c) ?_) ?_
  · exact blk_easy h 0 0 (Int.le_refl _)
  · unfold hiU
    rw [if_neg (by omega), if_neg (by omega)]
    exact hi_easy (by omega) h 0 0 (vs_of hc).all (vs_of hc').all (Int.le_refl _)
/-- What RtaEases asks of each task. -/
theorem bound_easy {l' l : List Ts} (h : Easy l' l) (hc : (chkAll l).2 = 0) (hc' : (chkAll l').2 = 0) {k : Nat} {y' y : Ts} (hy : l[k]? = some y) (hy' : l'[k]? = some y') (he : Eas1 y' y) (hd : y.d ≤ y'.d) (h0 : 0 < (boundI l (k : Int)).1) :
    0 < (boundI l' (k : Int)).1 ∧ (boundI l' (k : Int)).1 ≤ (boundI l (k : Int)).1 := by
  have hm := mOf_get hc hy
  have hm' := mOf_get hc' hy'
  have hj' := ((vs_of hc').all y' (List.mem_of_getElem? hy')).j0
  rw [bound_at hc hy] at h0 ⊢
  rw [bound_at hc' hy']
  cases hl : leastF (needI l (k : Int)) (mOf l (k : Int)) with
  | none => rw [hl] at h0; exact absurd h0 (by show ¬ (0 : Int) < 0; omega)
  | some w =>
    obtain ⟨w', a1, a2⟩ := least_eases (N' := needI l' (k : Int)) (M' := mOf l' (k : Int)) (fun v h1 _ => need_easy h hc hc' hy hy' he (w := (v : Int)) (by omega)) (by have := he.j; omega) hl
    obtain ⟨b1, _⟩ := leastF_some a2
    rw [a2]
    have := he.j
    show 0 < (w' : Int) + y'.j ∧ (w' : Int) + y'.j ≤ (w : Int) + y.j
    omega
/-! ### Sets that are alike in names and urgencies -/
theorem chk_alike {l' l : List Ts} (h : St l) (hlen : l'.length = l.length) (hc : ∀ x ∈ l', checkE x = 0) (hnp : ∀ (k : Nat) (x' x : Ts), l'[k]? = some x' → l[k]? = some x → x'.n = x.n ∧ x'.p = x.p) : (chkAll l').2 = 0 := by
  have h1 := h.n1
  have h6 := h.n6
  rw [chkAll, hlen, if_neg (by omega)]
  refine chkFrom_good _ [] hc (fun i j x y hx hy he => ?_)
  simp only [List.nil_append] at hx hy
  have hi := (List.getElem?_eq_some_iff.1 hx).1
  have hj := (List.getElem?_eq_some_iff.1 hy).1
  have ga := List.getElem?_eq_getElem (l := l) (i := i) (by omega)
  have gb := List.getElem?_eq_getElem (l := l) (i := j) (by omega)
  obtain ⟨n1, p1⟩ := hnp i x _ hx ga
  obtain ⟨n2, p2⟩ := hnp j y _ hy gb
  rcases he with he | he
  · have e1 := (h.s i _ ga).n
    have e2 := (h.s j _ gb).n
    rw [n1, n2, e1, e2] at he
    exact name_t_inj i (by omega) j (by omega) he
  · exact h.d i j _ _ ga gb (by rw [← p1, ← p2]; exact he)
/-! ### With all times so many times as great, and no sections -/
def one1 (x : Ts) : Ts := { x with q := 1 }
def sclQ (k : Int) (x : Ts) : Ts := ⟨x.n, x.c * k, x.t * k, x.d * k, x.j * k, 1, x.p⟩
theorem St.one {ts : List Ts} (h : St ts) : St (ts.map one1) := by
  have hg : ∀ (i : Nat) (x : Ts), (ts.map one1)[i]? = some x → ∃ z, ts[i]? = some z ∧ x = one1 z := fun i x hx => by
    rw [List.getElem?_map] at hx
    obtain ⟨z, hz, rfl⟩ := Option.map_eq_some_iff.1 hx
    exact ⟨z, hz, rfl⟩
  refine ⟨by rw [List.length_map]; exact h.n1, by rw [List.length_map]; exact h.n6, fun i j x y hx hy he => ?_, fun i x hx => ?_, fun i x hx => ?_⟩
  · obtain ⟨a, ha, rfl⟩ := hg i x hx
    obtain ⟨b, hb, rfl⟩ := hg j y hy
    exact h.d i j a b ha hb he
  · obtain ⟨a, ha, rfl⟩ := hg i x hx
    have s := h.s i a ha
    exact ⟨s.n, s.c0, s.c1, s.d0, s.d1, s.j0, s.t0, s.t1, Int.le_refl _, s.c0⟩
  · obtain ⟨a, ha, rfl⟩ := hg i x hx
    exact h.p i a ha
theorem sclQ_check {i : Nat} {x : Ts} {k : Int} (h : SF i x) (hi : i < 8) (h1 : 1 ≤ x.p) (h2 : x.p ≤ 8) (hk : 1 ≤ k ∧ k ≤ 33554432) : checkE (sclQ k x) = 0 := by
  have a1 := h.c0; have a2 := h.c1; have a3 := h.d0; have a4 := h.d1; have a5 := h.j0; have a6 := h.t0; have a7 := h.t1; have a8 := h.q0; have a9 := h.q1
  have c1 := mul20 (a := x.c) ⟨by omega, by omega⟩ hk
  have t1 := mul20 (a := x.t) ⟨by omega, by omega⟩ hk
  have d1 := mul20 (a := x.d) ⟨by omega, by omega⟩ hk
  have j1 := mul20 (a := x.j) ⟨by omega, by omega⟩ hk
  have c2 : 1 * 1 ≤ x.c * k := Int.mul_le_mul a1 hk.1 (by omega) (by omega)
  have t2 : 1 * 1 ≤ x.t * k := Int.mul_le_mul (show 1 ≤ x.t by omega) hk.1 (by omega) (by omega)
  have d2 : 1 * 1 ≤ x.d * k := Int.mul_le_mul (show 1 ≤ x.d by omega) hk.1 (by omega) (by omega)
  have e2 := Int.mul_le_mul_of_nonneg_right a3 (show 0 ≤ k by omega)
  have e3 := Int.mul_le_mul_of_nonneg_right a6 (show 0 ≤ k by omega)
  rw [Int.add_mul] at e2
  have hb := sf_check h hi h1 h2
  have hn : namedB x = true := by
    by_cases hh : (namedB x && rangedB x) = true
    · simp only [Bool.and_eq_true] at hh; exact hh.1
    · rw [checkE, if_neg hh] at hb; omega
  have hn' : namedB (sclQ k x) = true := hn
  have hr : rangedB (sclQ k x) = true := by
    show (inB (x.c * k) 1 2147483647 && (inB (x.t * k) 1 2147483647 && (inB (x.d * k) 1 2147483647 && (inB 1 1 2147483647 && (inB (x.j * k) 0 2147483647 && inB x.p 1 1048576))))) = true
    rw [inB_yes (n := x.c * k) (by omega), inB_yes (n := x.t * k) (by omega), inB_yes (n := x.d * k) (by omega), inB_yes (n := 1) (by omega), inB_yes (n := x.j * k) (by omega), inB_yes (n := x.p) (by omega)]
    rfl
  have ho : overB (sclQ k x) = false := by
    show decide ((1 : Int) > x.c * k ∨ x.c * k + x.j * k > x.d * k ∨ x.d * k > x.t * k) = false
    exact decide_eq_false (by omega)
  rw [checkE, hn', hr, ho]
  rfl
theorem sclQ_ok {ts : List Ts} {k : Int} (h : St ts) (hk : 1 ≤ k ∧ k ≤ 33554432) : (chkAll (ts.map (sclQ k))).2 = 0 := by
  refine chk_alike h (List.length_map _) (fun x hx => ?_) (fun i x' x hx' hx => ?_)
  · obtain ⟨z, hz, rfl⟩ := List.mem_map.1 hx
    obtain ⟨i, hi, rfl⟩ := List.getElem_of_mem hz
    have hg := List.getElem?_eq_getElem hi
    have h6 := h.n6
    exact sclQ_check (h.s i _ hg) (by omega) (h.p i _ hg).1 (h.p i _ hg).2 hk
  · rw [List.getElem?_map, hx] at hx'
    obtain rfl : sclQ k x = x' := by simpa using hx'
    exact ⟨rfl, rfl⟩
theorem blk_ones {p : Int} : ∀ {l : List Ts} (s : Int), (∀ x ∈ l, x.q = 1) → 0 ≤ s → l.foldl (blkUF p) s = s
  | [], s, _, _ => rfl
  | x :: l, s, h, hs => by
    have e : blkUF p s x = s := by
      unfold blkUF
      have := h x (by simp)
      split <;> omega
    rw [List.foldl_cons, e, blk_ones s (fun y hy => h y (by simp [hy])) hs]
theorem add_sclQ {p w k : Int} (hk : 0 < k) {x : Ts} (hx : TsOk x) : addH p (w * k) (sclQ k x) = addH p w x * k := by
  unfold addH sclQ
  simp only
  split
  · rw [← Int.add_mul, ceil_scl hk hx.t0, Int.mul_assoc]
  · rw [Int.zero_mul]
theorem need_sclQ {ts : List Ts} (h : St ts) {i : Nat} {y : Ts} (hy : ts[i]? = some y) (hq : ∀ x ∈ ts, x.q = 1) {w k : Int} (h0 : 0 ≤ w) (h1 : w ≤ 60) (k0 : 1 ≤ k) (k1 : k ≤ 33554432) : needI (ts.map (sclQ k)) (i : Int) (w * k) = needI ts (i : Int) w * k := by
  have hg := sclQ_ok h ⟨k0, k1⟩
  have hyg : (ts.map (sclQ k))[i]? = some (sclQ k y) := by rw [List.getElem?_map, hy]; rfl
  have h6 := h.n6
  obtain ⟨iy, sy⟩ := h.sf (List.mem_of_getElem? hy)
  have y0 := sy.c0; have y1 := sy.c1
  have hwk : 0 ≤ w * k ∧ w * k ≤ 60 * 33554432 := ⟨Int.mul_nonneg h0 (by omega), Int.mul_le_mul h1 k1 (by omega) (by omega)⟩
  have hv := vs_of hg
  have hyk : 0 ≤ y.c * k ∧ y.c * k ≤ 4 * 33554432 := ⟨Int.mul_nonneg (by omega) (by omega), Int.mul_le_mul y1 k1 (by omega) (by omega)⟩
  have hsum : 0 ≤ (ts.map (addH y.p w)).sum ∧ (ts.map (addH y.p w)).sum ≤ 1776 := by
    have hb := sum_bdD (l := ts) (f := addH y.p w) (B := 296) fun x hx => ⟨addH_nonneg (h.vs.all x hx) h0, by
      obtain ⟨i, s⟩ := h.sf hx
      have d0 := s.d0; have d1 := s.d1; have c0 := s.c0; have c1 := s.c1; have j0 := s.j0; have t0 := s.t0
      have e := ceilI_le (a := w + x.j) (t := x.t) (by omega) (by omega)
      have e0 := ceilI_nonneg (a := w + x.j) (t := x.t) (by omega) (by omega)
      have m : ceilI (w + x.j) x.t * x.c ≤ 74 * 4 := Int.mul_le_mul (by omega) c1 (by omega) (by omega)
      unfold addH
      split <;> omega⟩
    omega
  have hms : ((ts.map (sclQ k)).map (addH y.p (w * k))).sum = (ts.map (addH y.p w)).sum * k := by
    rw [List.map_map, ← sum_times]
    exact sum_eq fun x hx => add_sclQ (by omega) (h.vs.all x hx)
  have hsk : 0 ≤ (ts.map (addH y.p w)).sum * k ∧ (ts.map (addH y.p w)).sum * k ≤ 1776 * 33554432 := ⟨Int.mul_nonneg hsum.1 (by omega), Int.mul_le_mul hsum.2 k1 (by omega) (by omega)⟩
  have hiG : hiU y.p (w * k) (ts.map (sclQ k)) = hiU y.p w ts * k := by
    by_cases e : w = 0
    · subst e
      rw [Int.zero_mul]
      show (0 : Int) = 0 * k
      rw [Int.zero_mul]
    · have hw1 : 1 * 1 ≤ w * k := Int.mul_le_mul (by omega) k0 (by omega) (by omega)
      rw [hiU_fits hv (B := 20000000000) (by omega) ⟨fun x hx => ?_, fun x hx => ?_, by rw [List.length_map]; omega, by omega⟩, h.hi h0 (by omega), if_neg e, hms]
      · obtain ⟨z, hz, rfl⟩ := List.mem_map.1 hx
        obtain ⟨i, s⟩ := h.sf hz
        have d0 := s.d0; have d1 := s.d1; have c0 := s.c0; have j0 := s.j0
        have mj : z.j * k ≤ 14 * 33554432 := Int.mul_le_mul (by omega) k1 (by omega) (by omega)
        show w * k + z.j * k ≤ _
        omega
      · obtain ⟨z, hz, rfl⟩ := List.mem_map.1 hx
        obtain ⟨i, s⟩ := h.sf hz
        have d0 := s.d0; have d1 := s.d1; have c0 := s.c0; have c1 := s.c1; have j0 := s.j0; have t0 := s.t0
        show ceilI (w * k + z.j * k) (z.t * k) * (z.c * k) ≤ _
        rw [← Int.add_mul, ceil_scl (by omega) (by omega)]
        have e := ceilI_le (a := w + z.j) (t := z.t) (by omega) (by omega)
        have e0 := ceilI_nonneg (a := w + z.j) (t := z.t) (by omega) (by omega)
        have m1 : z.c * k ≤ 4 * 33554432 := Int.mul_le_mul c1 k1 (by omega) (by omega)
        have m0 : 0 ≤ z.c * k := Int.mul_nonneg (by omega) (by omega)
        have m : ceilI (w + z.j) z.t * (z.c * k) ≤ 74 * (4 * 33554432) := Int.mul_le_mul (by omega) m1 m0 (by omega)
        omega
  have hb0 : blkU y.p ts = 0 := blk_ones 0 hq (Int.le_refl _)
  have hb1 : blkU y.p (ts.map (sclQ k)) = 0 := blk_ones 0 (fun x hx => by obtain ⟨z, hz, rfl⟩ := List.mem_map.1 hx; rfl) (Int.le_refl _)
  have hhs : 0 ≤ hiU y.p w ts ∧ hiU y.p w ts ≤ 1776 := by
    rw [h.hi h0 (by omega)]
    split <;> omega
  have hhk : 0 ≤ hiU y.p w ts * k ∧ hiU y.p w ts * k ≤ 1776 * 33554432 := ⟨Int.mul_nonneg hhs.1 (by omega), Int.mul_le_mul hhs.2 k1 (by omega) (by omega)⟩
  have hp : (sclQ k y).p = y.p := rfl
  have hc : (sclQ k y).c = y.c * k := rfl
  rw [need_form hg hyg, need_form h.chk hy, hp, hc, hb0, hb1, hiG]
  generalize hiU y.p w ts = H at *
  rw [satAdd_fit (a := 0) (b := y.c * k) (by omega), satAdd_fit (a := 0 + y.c * k) (b := 0) (by omega), satAdd_fit (a := 0 + y.c * k + 0) (b := H * k) (by omega), satAdd_fit (a := 0) (b := y.c) (by omega), satAdd_fit (a := 0 + y.c) (b := 0) (by omega), satAdd_fit (a := 0 + y.c + 0) (b := H) (by omega), Int.add_mul]
  have e9 : (0 + y.c + 0) * k = y.c * k := by rw [Int.zero_add, Int.add_zero]
  omega
/-- What RtaScales asks of each task. -/
theorem bound_sclQ {ts : List Ts} (h : St ts) {i : Nat} {y : Ts} (hy : ts[i]? = some y) (hq : ∀ x ∈ ts, x.q = 1) {k : Nat} (k0 : 1 ≤ k) (k1 : k ≤ 33554432) : (boundI (ts.map (sclQ (k : Int))) (i : Int)).1 = (boundI ts (i : Int)).1 * k ∧ (boundI (ts.map (sclQ (k : Int))) (i : Int)).2 = (boundI ts (i : Int)).2 := by
  have hg := sclQ_ok h (k := (k : Int)) ⟨by omega, by omega⟩
  have hyg : (ts.map (sclQ (k : Int)))[i]? = some (sclQ (k : Int) y) := by rw [List.getElem?_map, hy]; rfl
  have hm := mOf_get h.chk hy
  have hmg := mOf_get hg hyg
  obtain ⟨iy, sy⟩ := h.sf (List.mem_of_getElem? hy)
  have d1 := sy.d1; have j0 := sy.j0
  have hM : mOf (ts.map (sclQ (k : Int))) (i : Int) = mOf ts (i : Int) * k := by
    have e : (sclQ (k : Int) y).d - (sclQ (k : Int) y).j = (y.d - y.j) * k := by show y.d * k - y.j * k = _; rw [Int.sub_mul]
    have e2 : ((mOf ts (i : Int) * k : Nat) : Int) = (y.d - y.j) * k := by rw [Int.natCast_mul, hm.1]
    omega
  have hsc := least_scale (N := needI ts (i : Int)) (N' := needI (ts.map (sclQ (k : Int))) (i : Int)) (M := mOf ts (i : Int)) (k := k) (need_rises (isB_at h.chk hy)) (need_rises (isB_at hg hyg)) k0
    (by have := need_sclQ h hy hq (w := 0) (k := (k : Int)) (by omega) (by omega) (by omega) (by omega); rwa [Int.zero_mul] at this)
    (fun w h1 h2 => need_sclQ h hy hq (by omega) (by omega) (by omega) (by omega))
  rw [bound_at h.chk hy, bound_at hg hyg, hM, hsc]
  cases leastF (needI ts (i : Int)) (mOf ts (i : Int)) with
  | none => exact ⟨by show (0 : Int) = 0 * k; omega, rfl⟩
  | some w =>
    refine ⟨?_, rfl⟩
    show ((w * k : Nat) : Int) + y.j * k = ((w : Int) + y.j) * k
    rw [Int.natCast_mul, Int.add_mul]
end Go.Proofs.YtnhddnldebdmbaaGreatDoor
/- RtaSound, plain words: a bound is enough, in numbers that are not cut off. -/
namespace Go.Proofs.YtnhddnldebdmbaaGreatDoor
set_option linter.unusedVariables false
set_option linter.unusedSimpArgs false
theorem blk_same {p : Int} : ∀ (l : List Ts) (b : Int), 0 ≤ b → (l.map fun x => if p < x.p then x.q - 1 else 0).foldl max b = l.foldl (blkUF p) b
  | [], b, _ => rfl
  | x :: l, b, hb => by
    rw [List.map_cons, List.foldl_cons, List.foldl_cons]
    have e : max b (if p < x.p then x.q - 1 else 0) = blkUF p b x := by
      unfold blkUF
      by_cases h : p < x.p
      · rw [if_pos h, if_pos h]
      · rw [if_neg h, if_neg h]; omega
    rw [e]
    refine blk_same l _ ?_
    rw [← e]
    omega
theorem need_same {ts : List Ts} (h : St ts) {k : Nat} {y : Ts} (hy : ts[k]? = some y) {w : Int} (h1 : 1 ≤ w) (hw : w ≤ 1099511627776) : needS ts (k : Int) w = needI ts (k : Int) w := by
  rw [h.need hy (by omega) hw, if_neg (by omega)]
  unfold needS hiS blkS
  rw [tk_get hy, blk_same ts 0 (Int.le_refl _)]
  rfl
/-- What a bound tells. -/
theorem sound_pre {ts : List Ts} (h : St ts) {k : Nat} {y : Ts} (hy : ts[k]? = some y) {r : Int} (hb : boundI ts (k : Int) = (r, 0)) :
    ∃ w : Nat, 1 ≤ w ∧ r = (w : Int) + (tk ts (k : Int)).j ∧ (w : Int) + (tk ts (k : Int)).j ≤ (tk ts (k : Int)).t ∧ needS ts (k : Int) w ≤ (w : Int) ∧ r ≤ (tk ts (k : Int)).d := by
  rw [tk_get hy]
  obtain ⟨i, s⟩ := h.sf (List.mem_of_getElem? hy)
  have d1 := s.d1; have t0 := s.t0; have j0 := s.j0
  rcases least_pure h.chk hy with ⟨_, g1, g2, g3, _⟩ | ⟨g, _⟩
  · rw [hb] at g1 g2 g3
    simp only at g1 g2 g3
    refine ⟨(r - y.j).toNat, by omega, by omega, by omega, ?_, by omega⟩
    rw [show (((r - y.j).toNat : Nat) : Int) = r - y.j by omega, need_same h hy g1 (by omega)]
    omega
  · rw [hb] at g
    simp at g
end Go.Proofs.YtnhddnldebdmbaaGreatDoor
/- RtaSound, plain words: no job takes longer than its task's bound. -/
namespace Go.Proofs.YtnhddnldebdmbaaGreatDoor
set_option linter.unusedVariables false
theorem bound_sound {ts : List Ts} {js : List Fv} (h : St ts) (L : LJs ts js) {j : Nat} (hj : j < js.length) {r : Int} (hb : boundI ts (jb js j).t = (r, 0)) {T : Nat} (hd : kO (tst ts js T).dn j = (jb js j).k) :
    kO (tst ts js T).en j - (jb js j).a ≤ r ∧ r ≤ (tk ts (jb js j).t).d := by
  have l := jb_lj L hj
  have t0 := l.t0
  have t1 := l.t1
  obtain ⟨k, hk⟩ : ∃ k : Nat, (jb js j).t = (k : Int) := ⟨(jb js j).t.toNat, by omega⟩
  have hk1 : k < ts.length := by omega
  rw [hk] at hb
  obtain ⟨w, w1, w2, w3, w4, w5⟩ := sound_pre h (List.getElem?_eq_getElem hk1) hb
  rw [← hk] at w2 w3 w4 w5
  refine ⟨?_, w5⟩
  rw [w2]
  exact sound_end h.vs L h.d hj w1 w3 w4 hd
end Go.Proofs.YtnhddnldebdmbaaGreatDoor
/- math/bits.Div64: what its quotient is not above. -/
namespace Go.Proofs.YtnhddnldebdmbaaGreatDoor
open Go.RowKit
set_option linter.unusedVariables false
set_option linter.unusedSimpArgs false
/-! ### One digit -/
/-- What the search for one digit of 32 bits keeps. -/
structure Dig (y a b c d q r : Nat) : Prop where
  sum : q * a + r = c
  low : c * 4294967296 + d < (q + 1) * y
  top : q ≤ 4294967297
/-- The numbers that are divided. -/
structure DigN (y a b c d : Nat) : Prop where
  ye : y = a * 4294967296 + b
  a0 : 2147483648 ≤ a
  a1 : a < 4294967296
  b1 : b < 4294967296
  c1 : c < y
  d1 : d < 4294967296
theorem dig_start {y a b c d : Nat} (h : DigN y a b c d) : Dig y a b c d (c / a) (c % a) ∧ c % a < 4294967296 := by
  have ha := h.a0; have ha1 := h.a1
  have hy := h.ye
  have hc := h.c1
  have hb := h.b1
  have hd := h.d1
  have e1 := Nat.div_add_mod c a
  have e2 := Nat.mod_lt c (show 0 < a by omega)
  have e3 : c / a ≤ 4294967297 := by
    rcases Nat.lt_or_ge 4294967297 (c / a) with h9 | h9
    · have := Nat.mul_le_mul_right a (show 4294967298 ≤ c / a from h9)
      rw [Nat.mul_comm (c / a)] at this
      omega
    · exact h9
  refine ⟨⟨by rw [Nat.mul_comm]; exact e1, ?_, e3⟩, by omega⟩
  have e4 : c + 1 ≤ (c / a + 1) * a := by rw [Nat.add_mul, Nat.one_mul, Nat.mul_comm]; omega
  have e5 := Nat.mul_le_mul_right 4294967296 e4
  have e6 : (c / a + 1) * y = (c / a + 1) * a * 4294967296 + (c / a + 1) * b := by rw [hy, Nat.mul_add, Nat.mul_assoc]
  omega
theorem dig_big {y a b c d q r : Nat} (h : DigN y a b c d) (g : Dig y a b c d q r) (hq : 4294967296 ≤ q ∨ 4294967296 * r + d < q * b) : 1 ≤ q ∧ c * 4294967296 + d < q * y := by
  have hy := h.ye
  have hc := h.c1
  have hd := h.d1
  rcases hq with hq | hq
  · have e := Nat.mul_le_mul_right y hq
    omega
  · have e1 : q * y = q * a * 4294967296 + q * b := by rw [hy, Nat.mul_add, Nat.mul_assoc]
    have e2 := g.sum
    rcases Nat.eq_zero_or_pos q with h0 | h0
    · subst h0; omega
    · omega
theorem dig_down {y a b c d q r : Nat} (h : DigN y a b c d) (g : Dig y a b c d q r) (hq : 4294967296 ≤ q ∨ 4294967296 * r + d < q * b) : Dig y a b c d (q - 1) (r + a) := by
  obtain ⟨h1, h2⟩ := dig_big h g hq
  obtain ⟨p, rfl⟩ : ∃ p, q = p + 1 := ⟨q - 1, by omega⟩
  have e := g.sum
  rw [Nat.add_mul, Nat.one_mul] at e
  exact ⟨by rw [Nat.add_sub_cancel]; omega, by rw [Nat.add_sub_cancel]; exact h2, by have := g.top; omega⟩
theorem dig_end {y a b c d q r : Nat} (h : DigN y a b c d) (g : Dig y a b c d q r) (hq : q * b ≤ 4294967296 * r + d) : q * y ≤ c * 4294967296 + d := by
  have e1 : q * y = q * a * 4294967296 + q * b := by rw [h.ye, Nat.mul_add, Nat.mul_assoc]
  have e2 := g.sum
  omega
theorem dig_far {y a b c d q r : Nat} (h : DigN y a b c d) (g : Dig y a b c d q r) (h0 : q ≤ 4294967296) (hr : 4294967296 ≤ r) : q * y ≤ c * 4294967296 + d := by
  refine dig_end h g ?_
  have hb := h.b1
  have e := Nat.mul_le_mul h0 (show b ≤ 4294967295 by omega)
  omega
theorem dig_qb {y a b c d q : Nat} (h : DigN y a b c d) (hq : q < 4294967296) : q * b < 18446744073709551616 := by
  have hb := h.b1
  have e := Nat.mul_le_mul (show q ≤ 4294967295 by omega) (show b ≤ 4294967295 by omega)
  omega
/-! ### How many bits -/
theorem bitLen_bds : ∀ (f x : Nat), x ≠ 0 → x < 2 ^ f → f ≤ 64 → 1 ≤ Lib.bitLen x ∧ Lib.bitLen x ≤ f ∧ x < 2 ^ Lib.bitLen x ∧ 2 ^ (Lib.bitLen x - 1) ≤ x
  | 0, x, h0, h, _ => by rw [Nat.pow_zero] at h; omega
  | f + 1, x, h0, h, hf => by
    have hx : x < 2 ^ 64 := Nat.lt_of_lt_of_le h (Nat.pow_le_pow_right (by omega) hf)
    have e := Lib.bitLen_half x h0 hx
    rw [Nat.pow_succ] at h
    by_cases h2 : x / 2 = 0
    · have : x = 1 := by omega
      subst this
      have e1 : Lib.bitLen 1 = 1 := by decide
      rw [e1]
      exact ⟨by omega, by omega, by decide, by decide⟩
    · obtain ⟨a1, a2, a3, a4⟩ := bitLen_bds f (x / 2) h2 (by omega) (by omega)
      obtain ⟨n, hn⟩ : ∃ n, Lib.bitLen (x / 2) = n + 1 := ⟨Lib.bitLen (x / 2) - 1, by omega⟩
      rw [hn, Nat.pow_succ] at a3
      rw [hn, Nat.add_sub_cancel] at a4
      rw [e, hn]
      refine ⟨by omega, by omega, ?_, ?_⟩
      · rw [show 1 + (n + 1) = n + 1 + 1 by omega, Nat.pow_succ, Nat.pow_succ]; omega
      · rw [show 1 + (n + 1) - 1 = n + 1 by omega, Nat.pow_succ]; omega
/-- The shift that makes a number great. -/
theorem lead (y : Nat) (h0 : y ≠ 0) (h1 : y < 18446744073709551616) : Lib.bitLen y ≤ 64 ∧ 9223372036854775808 ≤ y * 2 ^ (64 - Lib.bitLen y) ∧ y * 2 ^ (64 - Lib.bitLen y) < 18446744073709551616 := by
  obtain ⟨a1, a2, a3, a4⟩ := bitLen_bds 64 y h0 h1 (Nat.le_refl _)
  refine ⟨a2, ?_, ?_⟩
  · have := Nat.mul_le_mul_right (2 ^ (64 - Lib.bitLen y)) a4
    rw [← Nat.pow_add, show Lib.bitLen y - 1 + (64 - Lib.bitLen y) = 63 by omega] at this
    exact this
  · have := Nat.mul_lt_mul_of_pos_right a3 (Nat.two_pow_pos (64 - Lib.bitLen y))
    rw [← Nat.pow_add, show Lib.bitLen y + (64 - Lib.bitLen y) = 64 by omega] at this
    exact this
end Go.Proofs.YtnhddnldebdmbaaGreatDoor
