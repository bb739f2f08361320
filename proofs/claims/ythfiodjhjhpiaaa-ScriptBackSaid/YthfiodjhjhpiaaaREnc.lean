/- The document's Encode. -/
import Derived.Test.YthfiodjhjhpiaaaJEn2
import Derived.Test.YthfiodjhjhpiaaaRLeg
import Derived.StillTailTactics
import Derived.Deep.RegionLaw
namespace Go.Proofs.Ythfiodjhjhpiaaa
open Go.RowKit
set_option linter.unusedVariables false
set_option linter.unusedSimpArgs false

/-! ### Two cells in a block of their own -/
structure EGB (w : World) (b : Nat) (v0 v1 : Value) : Prop where
  is : w.heap[b]? = some (.cells #[v0, v1] 75 (0, 0))
theorem EGB.lt {w : World} {b : Nat} {v0 v1 : Value} (h : EGB w b v0 v1) : b < w.heap.size := (Array.getElem?_eq_some_iff.1 h.is).1
theorem EGB.z {w : World} {b : Nat} {v0 v1 : Value} (h : EGB w b v0 v1) : w.cell? ⟨b, 0, none⟩ = some v0 ∧ w.cell? ⟨b, 1, none⟩ = some v1 := by
  refine ⟨?_, ?_⟩ <;> (rw [cell_of_row w b _ _ _ _ h.is]; rfl)
theorem EGB.fz {w : World} {b : Nat} {v0 v1 : Value} (h : EGB w b v0 v1) (i : Nat) : w.frozen? ⟨b, i, none⟩ = false := frozen_of_row w b i _ _ h.is
theorem EGB.later {w w' : World} {b : Nat} {v0 v1 : Value} (h : EGB w b v0 v1) (hb : Below w.heap.size w w') : EGB w' b v0 v1 := ⟨(hb.block b h.lt).trans h.is⟩
theorem EGB.kept {X : List Nat} {w w' : World} {b : Nat} {v0 v1 : Value} (h : EGB w b v0 v1) (hb : Kept X w w') (hx : b ∉ X) : EGB w' b v0 v1 := ⟨(hb.block b h.lt hx).trans h.is⟩
theorem EGB.new (w : World) (v0 v1 : Value) : EGB (w.alloc (.cells #[v0, v1] 75)) w.heap.size v0 v1 := ⟨heap_alloc_new w _⟩
theorem EGB.set {w : World} {b i : Nat} {v0 v1 u0 u1 : Value} (h : EGB w b v0 v1) (u : Value) (he : (#[v0, v1].setIfInBounds i u) = #[u0, u1]) : EGB (w.setCell ⟨b, i, none⟩ u) b u0 u1 := ⟨by
  rw [heap_setCell_same _ b i _ _ u h.is, he]⟩
theorem infoE8 : (Try.prog.info? 75).map (·.size) = some 2 := by kernel_rfl
theorem results_got8 {fn : Func} {p : Tmp} (h : fn.results = #[.cell p 75]) (tmps : Array Value) (w : World) (b : Nat) (v0 v1 : Value) (hp : tmps.getD p undef = .pointer (some ⟨b, 0, none⟩)) (hb : EGB w b v0 v1) :
    (results fn tmps).run Try.prog w = .ok (.agg #[v0, v1]) w :=
  results_cell_row h tmps w b _ _ _ _ hp hb.is Try.underlying75 rfl infoE8
theorem EGB.noint {w : World} {b : Nat} {v0 v1 : Value} (h : EGB w b v0 v1) (h0 : ∀ n, v0 ≠ .int .i64 n) (h1 : ∀ n, v1 ≠ .int .i64 n) (o : Nat) (n : Int) : w.cell? ⟨b, o, none⟩ ≠ some (.int .i64 n) := by
  rw [cell_of_row w b o _ _ _ h.is]
  rcases (by omega : o = 0 ∨ o = 1 ∨ 2 ≤ o) with rfl | rfl | ho
  · intro e; exact h0 n (by simpa using e)
  · intro e; exact h1 n (by simpa using e)
  · intro e; rw [Array.getElem?_eq_none (by simpa using ho)] at e; cases e
/-- Blocks that hold no number are turned. -/
theorem FOwn.off {X : List Nat} {e : TypeId} {B : Nat} {w w' : World} {v : Value} {gs : List Gv} (h : FOwn e B w v gs) (hk : Kept X w w') (hx : ∀ b ∈ X, ∀ o n, w.cell? ⟨b, o, none⟩ ≠ some (.int .i64 n)) (hv : ∀ g, v.ownBlock = some g → g ∉ X) : FOwn e B w' v gs :=
  ⟨hk.row h.row hv, fun g hg => by
    have hg0 := h.each g hg
    have hblk : g.x.c ≠ [] → ∀ a, g.A = some a → w'.heap[a.block]? = w.heap[a.block]? := fun hne a ha => by
      obtain ⟨b, o, x, hA, _, _, hlt, hc⟩ := hg0.s.get (k := 0) (by rcases Nat.eq_zero_or_pos g.x.c.length with h0 | h0; exact absurd (List.length_eq_zero_iff.1 h0) hne; exact h0)
      rw [ha] at hA
      cases hA
      exact hk.block _ hlt (fun hm => hx _ hm _ _ hc)
    refine ⟨hg0.wf, ⟨hg0.s.le, hg0.s.mx, hg0.s.wf, fun i x hx => ?_⟩, fun hne a ha => ?_⟩
    · obtain ⟨b, o, hA, hc⟩ := hg0.s.at_ i x hx
      exact ⟨b, o, hA, (World.cell?_of_block (w := w) (a := ⟨b, o + i, none⟩) (hblk (by intro h0; rw [h0] at hx; simp at hx) ⟨b, o, none⟩ hA)).trans hc⟩
    · rcases hg0.safe hne a ha with h1 | ⟨cs, T, fr, h1, h2⟩
      · exact .inl h1
      · exact .inr ⟨cs, T, fr, (hblk hne a ha).trans h1, h2⟩⟩
def REncPost (r : Option (List Fv)) (w : World) (e : Ending) (w' : World) : Prop :=
  (match r with
  | none => e = .returned (.agg #[.slice none 0 0, .bool false])
  | some rs => ∃ A cap, e = .returned (.agg #[.slice A rs.length cap, .bool true]) ∧ FRow w' A cap rs) ∧ Below w.heap.size w w'
structure GIn (w : World) (b4 b6 B : Nat) (wr : World) (v : Value) (rs : List Fv) : Prop where
  own : ∃ gs, FOwn 49 B wr v gs ∧ gs.map (·.x) = rs
  g4 : EGB wr b4 (.slice none 0 0) (.bool false)
  g6 : EGB wr b6 v (.bool true)
  bel : Below w.heap.size w wr
  lt : b4 < B ∧ b6 < B
  ge : w.heap.size ≤ b4 ∧ w.heap.size ≤ b6
  ne : b4 ≠ b6
  sz : B ≤ wr.heap.size
theorem GIn.later {w wr wr' : World} {b4 b6 B : Nat} {v : Value} {rs : List Fv} (h : GIn w b4 b6 B wr v rs) (hb : Below wr.heap.size wr wr') : GIn w b4 b6 B wr' v rs := by
  obtain ⟨gs, hG, hgs⟩ := h.own
  exact ⟨⟨gs, hG.later hb, hgs⟩, h.g4.later hb, h.g6.later hb, h.bel.trans (hb.mono h.bel.size), h.lt, h.ge, h.ne, Nat.le_trans h.sz hb.size⟩
/-- A raw job that is being made. -/
structure NIn (Wq wr : World) (b B : Nat) (v0 v1 v2 v3 v : Value) (pre : List Int) : Prop where
  f : FB wr b 49 v0 v1 v2 v3 v
  row : wr.ownsRow B 3 1 v pre.length (numL pre)
  wf : ∀ y ∈ pre, in64 y
  bel : Below Wq.heap.size Wq wr
  lt : b < B
  ge : Wq.heap.size ≤ b
  sz : B ≤ wr.heap.size
theorem NIn.later {Wq wr wr' : World} {b B : Nat} {v0 v1 v2 v3 v : Value} {pre : List Int} (h : NIn Wq wr b B v0 v1 v2 v3 v pre) (hb : Below wr.heap.size wr wr') : NIn Wq wr' b B v0 v1 v2 v3 v pre :=
  ⟨h.f.later hb, (Kept.of [] hb).row h.row (by simp), h.wf, h.bel.trans (hb.mono h.bel.size), h.lt, h.ge, Nat.le_trans h.sz hb.size⟩
theorem NIn.mid {Wq wr w4 : World} {b B : Nat} {v0 v1 v2 v3 v : Value} {pre : List Int} (h : NIn Wq wr b B v0 v1 v2 v3 v pre) (hg : wr.grownBy w4 v.ownBlock) : FB w4 b 49 v0 v1 v2 v3 v :=
  fb_off h.f hg (fun k hk => (h.row.lt k hk).1) h.lt
theorem NIn.grown {Wq wr w4 : World} {b B : Nat} {v0 v1 v2 v3 v : Value} {pre : List Int} (h : NIn Wq wr b B v0 v1 v2 v3 v pre) (hg : wr.grownBy w4 v.ownBlock) : Below Wq.heap.size Wq w4 :=
  h.bel.grown hg h.bel.size (fun k hk => by have := (h.row.lt k hk).1; have := h.lt; have := h.ge; omega)
theorem NIn.push {Wq wr w4 : World} {b B : Nat} {v0 v1 v2 v3 v v' : Value} {pre : List Int} (h : NIn Wq wr b B v0 v1 v2 v3 v pre) (hg : wr.grownBy w4 v.ownBlock) (y : Int) (hy : in64 y)
    (hown : w4.ownsRow B 3 1 v' (pre.length + 1) (numL pre ++ [.int .i64 y])) : NIn Wq (w4.setCell ⟨b, 4, none⟩ v') b B v0 v1 v2 v3 v' (pre ++ [y]) := by
  have hr : ∀ k, v.ownBlock = some k → B ≤ k := fun k hk => (h.row.lt k hk).1
  have hl := h.lt
  have k5 := (Kept.refl [b] w4).set b 4 v' (by simp)
  refine ⟨(h.mid hg).set v' rfl, ?_, fun z hz => ?_, (h.grown hg).setCell (p := ⟨b, 4, none⟩) h.ge v', h.lt, h.ge, ?_⟩
  · rw [List.length_append, List.length_singleton, numL_snoc]
    exact k5.row hown (fun k hk hm => by rw [List.mem_singleton] at hm; have := (hown.lt k hk).1; omega)
  · rcases List.mem_append.1 hz with hz | hz
    · exact h.wf z hz
    · obtain rfl := List.mem_singleton.1 hz
      exact hy
  · have h1 := hg.size
    have h2 := h.sz
    simp only [World.setCell]
    simp
    omega
theorem step_append_int {ops : Array Oper} {o : Oper} {a : Act} {w : World} {K : Act → World → Prop} {Q : Exit → Act → World → Prop} {E : Prop}
    (hg : o.guard = none) (s x : Operand) (hop : o.op = Op.call { callee := Callee.builtin Builtin.append, args := #[s, x], argTypes := #[47, 47] })
    (base : Nat) (v : Value) (n : Nat) (xs : List Value) (hs : a.eval s = v) (hown : w.ownsRow base 3 1 v n xs)
    (ad : Addr) (m c : Nat) (news : List Value) (hx : a.eval x = .slice (some ad) m c) (hn : news.length = m) (hc : ∀ j u, news[j]? = some u → w.cell? (ad.add j) = some u) (h1c : ∀ u ∈ news, u.oneCell' = true)
    (b1 : n + m ≤ 3000000000) (hbase : base ≤ w.heap.size)
    (hK : ∀ v' w', w'.ownsRow base 3 1 v' (n + m) (xs ++ news) → w.grownBy w' v.ownBlock → K (a.put o.dst v') w') :
    if Region.wanted o (yielded ops a.tmps) = true then Oper.wp Try.prog o a w K Q else E := by
  have hw : Region.wanted o (yielded ops a.tmps) = true := by simp [Region.wanted, hg]
  obtain ⟨i0, hi, hz0, hz1, hz2⟩ := info_parts infoI
  rw [if_pos hw]
  obtain ⟨v', w', hrun, r1, r2, _⟩ := run_append_own (P := Try.prog) w base 47 o.type 3 i0 (.int .i64 0) 1 8 Try.underlying47 hi hz0 hz1 hz2 rfl (by omega) v n xs hown ad m c news (by omega) hc h1c (by unfold maxLen; omega) (by omega) hbase
  unfold Oper.wp
  simp [execOp, hop, resolve, invoke, builtin, hs, hx, hrun, Result.andThen]
  exact hK v' w' r1 r2
abbrev S3 (b8 cb oc : Nat) (U : Value) (cut : Int) (W : World) : Prop :=
  W.cell? ⟨b8, 4, none⟩ = some U ∧ W.cell? ⟨cb, oc, none⟩ = some (.int .i64 cut)
theorem S3.step {b8 cb oc : Nat} {U : Value} {cut : Int} {W W' : World} (h : S3 b8 cb oc U cut W) (hb : Below W.heap.size W W') : S3 b8 cb oc U cut W' := by
  obtain ⟨h0, h1⟩ := h
  have hc := cells_below hb
  exact ⟨hc _ _ _ h0, hc _ _ _ h1⟩
theorem S3.set {b8 cb oc b : Nat} {U : Value} {cut : Int} {W : World} (h : S3 b8 cb oc U cut W) (hn : b8 ≠ b ∧ cb ≠ b) (u : Value) : S3 b8 cb oc U cut (W.setCell ⟨b, 4, none⟩ u) := by
  obtain ⟨h0, h1⟩ := h
  have hc : ∀ q o, q ≠ b → (W.setCell ⟨b, 4, none⟩ u).cell? ⟨q, o, none⟩ = W.cell? ⟨q, o, none⟩ := fun q o hq => World.cell?_setCell_other _ _ _ _ (by intro e; exact hq (congrArg Addr.block e).symm)
  exact ⟨(hc _ _ hn.1).trans h0, (hc _ _ hn.2).trans h1⟩
theorem one_new_drew (w : World) (x : Int) : ∀ j u, [Value.int .i64 x][j]? = some u → ((w.alloc (.cells #[.int .i64 x] 3)).drew).cell? ((⟨w.heap.size, 0, none⟩ : Addr).add j) = some u := by
  intro j u hj
  match j, hj with
  | 0, hj =>
    simp at hj
    subst hj
    have := cell_one_new w (.int .i64 x) 3 0 _ rfl
    exact this
theorem egb_off {w w' : World} {b : Nat} {v0 v1 : Value} (h : EGB w b v0 v1) {row : Option Nat} {B : Nat} (hg : w.grownBy w' row) (hr : ∀ k, row = some k → B ≤ k) (hb : b < B) : EGB w' b v0 v1 := by
  refine h.kept (X := row.toList) (kept_grown hg (fun k hk => by rw [hk]; simp)) (fun hm => ?_)
  rw [Option.mem_toList] at hm
  have := hr b hm
  omega
theorem GIn.push {w wr w4 : World} {b4 b6 B : Nat} {v v' : Value} {rs : List Fv} {gs : List Gv} {g : Gv} {o : Obj} (h : GIn w b4 b6 B wr v rs) (hG : FOwn 49 B wr v gs) (hgs : gs.map (·.x) = rs) (hO : GOk 49 B (wr.alloc o) g)
    (hown : w4.ownsRow B 49 5 v' (gs.length + 1) (gvC gs ++ fvL g.x g.A g.cap)) (hg : (wr.alloc o).grownBy w4 v.ownBlock) (hv : ∀ n, v ≠ .int .i64 n) : GIn w b4 b6 B (w4.setCell ⟨b6, 0, none⟩ v') v' (rs ++ [g.x]) := by
  have ba : Below wr.heap.size wr (wr.alloc o) := (Below.refl _ _).alloc (Nat.le_refl _) _
  have hG1 := hG.later ba
  have hr : ∀ k, v.ownBlock = some k → B ≤ k := fun k hk => (hG1.row.lt k hk).1
  have hG4 := hG1.push hO hown hg
  have hs := h.sz
  have hl := h.lt
  have hge := h.ge
  have h6 := egb_off (h.g6.later ba) hg hr hl.2
  have k6 := (Kept.refl [b6] w4).set b6 0 v' (by simp)
  have hb4 : Below w.heap.size w w4 := (h.bel.trans (ba.mono h.bel.size)).grown hg (by have := h.bel.size; simp; omega) (fun k hk => by have := hr k hk; omega)
  refine ⟨⟨_, hG4.off k6 (fun b hb => ?_) (fun q hq hm => ?_), ?_⟩, (egb_off (h.g4.later ba) hg hr hl.1).kept k6 (by rw [List.mem_singleton]; exact h.ne), h6.set v' rfl, hb4.setCell (p := ⟨b6, 0, none⟩) hge.2 v', hl, hge, h.ne, ?_⟩
  · rw [List.mem_singleton] at hb
    subst hb
    exact h6.noint hv (by simp)
  · rw [List.mem_singleton] at hm
    have := (hown.lt q hq).1
    omega
  · rw [List.map_append, hgs]; rfl
  · have h1 := hg.size
    simp only [World.size_alloc] at h1
    simp only [World.setCell]
    simp
    omega
set_option maxRecDepth 100000 in
set_option maxHeartbeats 2000000 in
theorem rencode_bad (A R : Option Addr) (cap rc : Nat) (ts : List Ts) (js : List Fv) (w : World) (hT : Row w A cap ts) (hR : FRow w R rc js) (hb : legS ts js = false) :
    Calls Try.prog 41 #[.slice A ts.length cap, .slice R js.length rc] w (REncPost none w) := by
  have b0 : Below w.heap.size w (w.alloc (.cells #[.slice none 0 0, .bool false] 75)) := (Below.refl _ _).alloc (Nat.le_refl _) _
  have K := rlegal_any A R cap rc ts js _ (hT.later b0) (hR.later b0)
  rw [hb] at K
  have K := Lib.hid K
  have G0 := Lib.hid (EGB.new w (.slice none 0 0) (.bool false))
  have B0 := Lib.hid b0
  clear hT hR hb b0
  go_enter Try.func41, Try.ntmps41
  go_upto_region 3 with (go_at_call 18; (with_reducible refine K.out.mono ?_); rintro e w1 ⟨rfl, h1⟩; have G1 := Lib.hid (G0.out.later h1); have H1 := Lib.hid h1; clear h1)
  obtain ⟨z0, z1⟩ := G1.out.z
  have y0 := G1.out.fz 0
  have y1 := G1.out.fz 1
  go_wp2
  have G2 := ((G1.out.set (i := 0) (.slice none 0 0) rfl).set (i := 1) (.bool false) rfl)
  refine bodyPost_ret (results_got8 rfl _ _ w.heap.size _ _ rfl G2) rfl ?_
  exact ⟨rfl, ((B0.out.trans (H1.out.mono B0.out.size)).setCell (p := ⟨w.heap.size, 0, none⟩) (Nat.le_refl _) _).setCell (p := ⟨w.heap.size, 1, none⟩) (Nat.le_refl _) _⟩
set_option maxRecDepth 100000 in
set_option maxHeartbeats 16000000 in
theorem rencode_good (A R : Option Addr) (cap rc : Nat) (ts : List Ts) (js : List Fv) (w : World) (hT : Row w A cap ts) (hR : FRow w R rc js) (hb : legS ts js = true) :
    Calls Try.prog 41 #[.slice A ts.length cap, .slice R js.length rc] w (REncPost (encF ts [] js) w) := by
  obtain ⟨i0, hi, hz0, hz1, hz2⟩ := info_parts infoRs
  have b0 : Below w.heap.size w (w.alloc (.cells #[.slice none 0 0, .bool false] 75)) := (Below.refl _ _).alloc (Nat.le_refl _) _
  have K := rlegal_any A R cap rc ts js _ (hT.later b0) (hR.later b0)
  rw [hb] at K
  rw [legS, Bool.and_eq_true, decide_eq_true_eq] at hb
  obtain ⟨⟨h0, hl⟩, hlf⟩ := hb
  have hv := vs_of h0
  have hgood := legF_good hv js [] (by simp) hlf
  have hle := hR.le
  have hmx := hR.mx
  have HV := Lib.hid hv
  have ROW := Lib.hid hT
  have RAW := Lib.hid hR
  have HLF := Lib.hid hlf
  have HGD := Lib.hid hgood
  have K := Lib.hid K
  have G0 := Lib.hid (EGB.new w (.slice none 0 0) (.bool false))
  have B0 := Lib.hid b0
  clear h0 hT hR hv hlf hgood b0
  go_enter Try.func41, Try.ntmps41
  go_upto_region 4 with (go_at_call 18; (with_reducible refine K.out.mono ?_); rintro e w1 ⟨rfl, h1⟩; have G1 := Lib.hid (G0.out.later h1); have H1 := Lib.hid h1; clear h1)
  have B1 : Hid (Below w.heap.size w w1) := Lib.hid (B0.out.trans (H1.out.mono B0.out.size))
  go_upto_region 5 with (fail)
  have hI0 : GIn w w.heap.size w1.heap.size (w1.heap.size + 1) (w1.alloc (.cells #[.slice none 0 0, .bool true] 75)) (.slice none 0 0) [] := by
    have hs := B1.out.size
    have hlt := G1.out.lt
    have ba : Below w1.heap.size w1 (w1.alloc (.cells #[.slice none 0 0, .bool true] 75)) := (Below.refl _ _).alloc (Nat.le_refl _) _
    exact ⟨⟨[], FOwn.nil _ _ _, rfl⟩, G1.out.later ba, EGB.new _ _ _, B1.out.trans (ba.mono hs), ⟨by omega, by omega⟩, ⟨Nat.le_refl _, hs⟩, by omega, by simp⟩
  have HI0 := Lib.hid hI0
  generalize (w1.alloc (.cells #[.slice none 0 0, .bool true] 75)) = W0 at *
  clear hI0 B1 H1 G1 B0 G0 K
  generalize w1.heap.size + 1 = B at *
  generalize w1.heap.size = b6 at *
  obtain ⟨b4, hb4⟩ : ∃ b4, w.heap.size = b4 := ⟨_, rfl⟩
  rw [hb4] at HI0 ⊢
  have HB4 := Lib.hid hb4
  clear hb4
  go_wp2
  go_loopw [7] (fun i wr => ∃ (k : Nat) (v : Value), k ≤ js.length ∧ i = .int .i64 k ∧ Hid (GIn w b4 b6 B wr v (encA ts [] (js.take k))) ∧ Hid (∀ (i : Nat) (x : Fv), i < k → js[i]? = some x → gapI ts (js.take i) x < 1048576)) (fun i _ => js.length - (intOf i).toNat)
  case atStart => exact ⟨0, _, Nat.zero_le _, rfl, HI0, Lib.hid (by omega)⟩
  case round =>
    obtain ⟨k, v, hk, rfl, hI, hgap⟩ := hrel
    by_cases hlt : k < js.length
    · obtain ⟨rb, ro, x, C, cc, rfl, hx, hrb, hF⟩ := RAW.out.get (k := k) hlt
      have hF := hF.later hI.out.bel
      have c0 := hF.c0
      have c1 := hF.c1
      have c2 := hF.c2
      have c3 := hF.c3
      have c4 := hF.c4
      have hi0 : (0 : Int) ≤ (k : Int) := by omega
      have hi1 : (k : Int) < (js.length : Int) := by omega
      have hleg := legF_get js [] k x HLF.out hx
      rw [List.nil_append] at hleg
      obtain ⟨⟨t0, t1⟩, ⟨a0, a1⟩, ⟨r0, r1⟩, ⟨k0, k1⟩, hfit⟩ := legJ_parts hleg
      have hyo := HV.out.tk x.t
      have hn0 := soon_nn HV.out (fun j hj => (HGD.out j (List.mem_of_mem_take hj)).2.2.1) (js := js.take k) x.t
      have hfl := fit_len _ x.c x.k (by omega) hfit
      have hfp := fit_pos _ x.c x.k hfit
      have yc1 := hyo.c1
      have yj1 := hyo.j1
      have hxr : in64 (x.r - x.a) := ⟨by omega, by omega⟩
      have hxl : x.c.length ≤ 2147483647 := by omega
      obtain ⟨p, hp⟩ : ∃ p : Nat, x.t = (p : Int) := ⟨x.t.toNat, by omega⟩
      have HX := Lib.hid hx
      have HF := Lib.hid hF
      have HPP := Lib.hid (show in64 (x.r - x.a) ∧ 1 ≤ x.k ∧ (∀ y ∈ x.c, 1 ≤ y) ∧ x.c.length ≤ 2147483647 ∧ x.k ≤ 2147483647 ∧ 0 ≤ x.r - x.a ∧ x.r - x.a ≤ 2147483647 from ⟨hxr, k0, hfp, hxl, by omega, by omega, by omega⟩)
      have HGI : Hid (gapI ts (js.take k) x = x.a - soonI ts (js.take k) x.t) := Lib.hid rfl
      have HSB : Hid (0 ≤ soonI ts (js.take k) x.t ∧ soonI ts (js.take k) x.t ≤ x.a ∧ x.a ≤ 17592186044416 ∧ (p : Int) < ts.length) := Lib.hid ⟨hn0, a0, a1, by omega⟩
      have HP := Lib.hid hp
      clear hF hx hleg t0 t1 a0 a1 r0 r1 k0 k1 hfit hyo hn0 hfl hfp yc1 yj1 hxr hxl hp
      go_upto_region 9 with (fail)
      have FB1 := Lib.hid (FB.new wr 40 (.int .i64 x.t) (.int .i64 x.a) (.int .i64 x.r) (.int .i64 x.k) (.slice C x.c.length cc))
      have B1 : Hid (Below wr.heap.size wr (wr.alloc (.cells #[.int .i64 x.t, .int .i64 x.a, .int .i64 x.r, .int .i64 x.k, .slice C x.c.length cc] 40))) := Lib.hid ((Below.refl _ _).alloc (Nat.le_refl _) _)
      generalize (wr.alloc (.cells #[.int .i64 x.t, .int .i64 x.a, .int .i64 x.r, .int .i64 x.k, .slice C x.c.length cc] 40)) = W1 at *
      have I1 := Lib.hid (hI.out.later B1.out)
      have HF2 := Lib.hid ((HF.out.later B1.out).later (below_drew W1))
      generalize wr.heap.size = b8 at *
      clear c0 c1 c2 c3 c4 hI
      obtain ⟨z0, z1, z2, z3, z4⟩ := FB1.out.z
      go_upto_region 10 with (fail)
      rw [HP.out] at z0
      have hkl : (js.take k).length = k := by rw [List.length_take]; omega
      have hkc : (k : Int) ≤ (rc : Int) := by omega
      have R1 := Lib.hid (RAW.out.later I1.out.bel)
      have KL0 := last_any (some ⟨rb, ro, none⟩) rc (js.take k) (p : Int) W1.drew ((R1.out.later (below_drew W1)).take k)
      rw [hkl] at KL0
      have KL := Lib.hid KL0
      clear KL0 hkl z1 z2 z3 z4
      go_still_tail 5, (by kernel_rfl)
      change wpList _ _ _ _ _ W1.drew
      go_upto_region 11 with (go_at_call 32; (with_reducible refine KL.out.mono ?_); rintro e w2 ⟨lr, rfl, hlr, rfl⟩)
      have HLR := Lib.hid hlr
      have FB2 := Lib.hid (FB1.out.later (below_drew W1))
      have I2 := Lib.hid (I1.out.later (below_drew W1))
      clear hlr KL z0 R1 FB1 I1 B1
      generalize W1.drew = W2 at *
      go_upto_if 39 with (fail)
      go_cut [9] from 20 to 92 (fun g wx => ∃ gv, g = .int .i64 gv ∧ gv = gapI ts (js.take k) x ∧ Below W2.heap.size W2 wx)
      case first =>
        rcases HLR.out with ⟨rfl, hls⟩ | ⟨li, lx, rfl, hlx, hls⟩
        · have HZ : Hid (x.a = gapI ts (js.take k) x) := Lib.hid (by rw [HGI.out, HP.out, soonI, hls]; simp)
          go_wp2
          go_meet
          exact ⟨x.a, rfl, HZ.out, Below.refl _ _⟩
        · have hli : li < (js.take k).length := (List.getElem?_eq_some_iff.1 hlx).1
          have hlg := HGD.out lx (List.mem_of_mem_take (List.mem_of_getElem? hlx))
          have hlj : js[li]? = some lx := by rw [List.getElem?_take] at hlx; split at hlx; exact hlx; cases hlx
          have hlj1 := (List.getElem?_eq_some_iff.1 hlj).1
          obtain ⟨jb, jo, lx', C', cc', hAA, hlx', hjb, hJ⟩ := RAW.out.get hlj1
          obtain rfl : lx = lx' := by rw [hlj] at hlx'; exact Option.some.inj hlx'
          simp only [Option.some.injEq, Addr.mk.injEq, and_true] at hAA
          obtain ⟨rfl, rfl⟩ := hAA
          have l1 := (hJ.later I2.out.bel).c1
          obtain ⟨hs1, hs2, hs3, hs4⟩ := HSB.out
          obtain ⟨tb, tq, y, rfl, hy, hyw, htb, hT⟩ := ROW.out.get (k := p) (by omega)
          have hyt : tk ts (p : Int) = y := tk_get hy
          have hyo := HV.out.tk (p : Int)
          rw [hyt] at hyo
          have yt0 := hyo.t0
          have yt1 := hyo.t1
          have t2 := (hT.later I2.out.bel).c2
          have HZ : Hid (x.a - lx.a - y.t = gapI ts (js.take k) x) := Lib.hid (by rw [HGI.out, HP.out, soonI, hls, hyt]; simp only; omega)
          have li0 : (0 : Int) ≤ (li : Int) := by omega
          have li1 : (li : Int) < (js.length : Int) := by omega
          have p0 : (0 : Int) ≤ (p : Int) := by omega
          have g4 : decide ((li : Int) ≥ 0) = true := decide_eq_true li0
          have hla0 := hlg.2.2.1
          have hla1 := hlg.2.2.2
          have hw1 : IntKind.i64.wrap (x.a - lx.a) = x.a - lx.a := IntWalk.i64_in _ (by omega)
          have hw2 : IntKind.i64.wrap (x.a - lx.a - y.t) = x.a - lx.a - y.t := IntWalk.i64_in _ (by omega)
          obtain ⟨z0, z1, z2, z3, z4⟩ := FB2.out.z
          rw [HP.out] at z0
          clear hlx hlg hlj hlx' hJ hy hyw hT hyt hyo hls hs1 hs2 hs3 HSB
          go_wp2
          go_quiet (fail)
          go_wp2
          go_meet
          exact ⟨_, rfl, HZ.out, same_drewN _ _⟩
      case rest =>
        obtain ⟨g, rfl, hg, hwc⟩ := hcut
        apply_assumption
        have I3 := Lib.hid (I2.out.later hwc)
        have F3 := Lib.hid (FB2.out.later hwc)
        have HF3 := Lib.hid (HF2.out.later hwc)
        have hgb : 0 ≤ g ∧ g ≤ 17592186044416 := by have := HSB.out; have := HGI.out; omega
        have HGG := Lib.hid hg
        clear hg hwc
        by_cases hbig : g ≥ 1048576
        · have d1 : decide (g ≥ 1048576) = true := decide_eq_true hbig
          have d2 : decide (1048576 ≤ g) = true := decide_eq_true hbig
          have HN : Hid (encF ts [] js = none) := Lib.hid (encF_none ts js [] k x HX.out (by rw [List.nil_append, ← HGG.out]; exact hbig))
          obtain ⟨z0, z1⟩ := I3.out.g4.z
          have y0 := I3.out.g4.fz 0
          have y1 := I3.out.g4.fz 1
          go_wp2
          have G2 := ((I3.out.g4.set (i := 0) (.slice none 0 0) rfl).set (i := 1) (.bool false) rfl)
          refine bodyPost_ret (results_got8 rfl _ _ b4 _ _ rfl G2) rfl ?_
          refine ⟨by rw [HN.out], ?_⟩
          exact (I3.out.bel.setCell (p := ⟨b4, 0, none⟩) I3.out.ge.1 _).setCell (p := ⟨b4, 1, none⟩) I3.out.ge.1 _
        · have d1 : decide (g ≥ 1048576) = false := decide_eq_false hbig
          have d2 : decide (1048576 ≤ g) = false := decide_eq_false hbig
          obtain ⟨z0, z1, z2, z3, z4⟩ := F3.out.z
          obtain ⟨q1, q2, q3, q4, q5, q6, q7⟩ := HPP.out
          have hg64 : in64 g := ⟨by omega, by omega⟩
          have HRW : Hid (FvW (encJ g x)) := Lib.hid ⟨HF3.out.wf.t, hg64, q1, ⟨by show _ ≤ x.k - 1; omega, by show x.k - 1 ≤ _; omega⟩⟩
          go_upto_region 16 with (fail)
          have b5 : Below wc.heap.size wc (wc.alloc (.cells #[.int .i64 x.t, .int .i64 g, .int .i64 (x.r - x.a), .int .i64 (x.k - 1), .slice none 0 0] 49)) := (Below.refl _ _).alloc (Nat.le_refl _) _
          have hN0 : NIn wc (wc.alloc (.cells #[.int .i64 x.t, .int .i64 g, .int .i64 (x.r - x.a), .int .i64 (x.k - 1), .slice none 0 0] 49)) wc.heap.size (wc.heap.size + 1) (.int .i64 x.t) (.int .i64 g) (.int .i64 (x.r - x.a)) (.int .i64 (x.k - 1)) (.slice none 0 0) [] :=
            ⟨FB.new _ _ _ _ _ _ _, World.ownsRow_nil _ _ _ _, by simp, b5, by omega, Nat.le_refl _, by simp⟩
          have HN0 := Lib.hid hN0
          generalize (wc.alloc (.cells #[.int .i64 x.t, .int .i64 g, .int .i64 (x.r - x.a), .int .i64 (x.k - 1), .slice none 0 0] 49)) = W5 at *
          generalize wc.heap.size + 1 = B2 at *
          obtain ⟨b11, hb11⟩ : ∃ b11, b11 = wc.heap.size := ⟨_, rfl⟩
          rw [← hb11] at HN0 ⊢
          clear hN0 b5 z0 z1 z2 z3 z4 hb11 hbig q1 q2 q5 q6 q7 HSB I2 FB2 HF2 HF HLR
          have HCP := Lib.hid q3
          clear q3
          go_wp2
          go_loopw [12] (fun c wr2 => ∃ (m : Nat) (u : Value), m ≤ x.c.length ∧ c = .int .i64 m ∧ Hid (NIn wc wr2 b11 B2 (.int .i64 x.t) (.int .i64 g) (.int .i64 (x.r - x.a)) (.int .i64 (x.k - 1)) u ((x.c.take m).map (· - 1)))) (fun c _ => x.c.length - (intOf c).toNat)
          case atStart => exact ⟨0, _, Nat.zero_le _, rfl, HN0⟩
          case round =>
            obtain ⟨m, u, hm, rfl, hN⟩ := hrel
            have c4 := ((F3.out.later hN.out.bel).z).2.2.2.2
            have hcl := HF3.out.s.le
            have hcm := HF3.out.s.mx
            by_cases hml : m < x.c.length
            · obtain ⟨cb, co, cut, rfl, hct, hcw, hcb, hcell⟩ := HF3.out.s.get hml
              have hcell := cells_below hN.out.bel _ _ _ hcell
              have m0 : (0 : Int) ≤ (m : Int) := by omega
              have m1 : (m : Int) < (x.c.length : Int) := by omega
              have hyp := HCP.out cut (List.mem_of_getElem? hct)
              obtain ⟨yl, yh⟩ := hcw
              have htk := take_one hct
              have HT : Hid ((x.c.take (m + 1)).map (· - 1) = (x.c.take m).map (· - 1) ++ [cut - 1]) := Lib.hid (by rw [htk, List.map_append]; rfl)
              have hpl : ((x.c.take m).map (· - 1)).length = m := by rw [List.length_map, List.length_take]; omega
              have HYW : Hid (in64 (cut - 1)) := Lib.hid ⟨by omega, by omega⟩
              have hwc1 : IntKind.i64.wrap (cut - 1) = cut - 1 := IntWalk.i64_in _ (by omega)
              generalize (x.c.take m).map (· - 1) = pre at *
              have HPL := Lib.hid hpl
              obtain ⟨Av, cv, hvv, -, -⟩ := own_len hN.out.row
              subst hvv
              have f4 := (hN.out.f.z).2.2.2.2
              clear hct htk hpl
              go_upto_region 19 with (fail)
              have HNa := Lib.hid ((hN.out.later ((Below.refl _ _).alloc (Nat.le_refl _) (.cells #[.int .i64 (cut - 1)] 3))).later (below_drew _))
              have f4a : (wr.alloc (.cells #[.int .i64 (cut - 1)] 3)).cell? ⟨b11, 4, none⟩ = some (.slice Av pre.length cv) := ((HNa.out.f).z).2.2.2.2
              go_region_law (first
                | (refine step_append_int rfl (.tmp 77) (.tmp 84) rfl B2 _ pre.length (numL pre) rfl HNa.out.row _ 1 1 [.int .i64 (cut - 1)] rfl rfl (one_new_drew _ _) (by simp [Value.oneCell']) (by have := HPL.out; omega) HNa.out.sz ?_
                   intro v' w4 o1 g1
                   obtain ⟨A', cap', hv', -, -⟩ := own_len o1
                   subst hv'
                   have hF9 := HNa.out.mid g1
                   have zz4 := (hF9.z).2.2.2.2
                   have yy4 := hF9.fz 4))
              all_goals
                have HPU := Lib.hid (HNa.out.push g1 (cut - 1) HYW.out o1)
                clear g1 o1 hF9 f4a f4 c4 hcell
                go_wp2
                go_roundw
                case rel => exact ⟨m + 1, _, by omega, by go_num, by rw [HT.out]; exact HPU⟩
                case measure => simp [intOf]; omega
            · obtain rfl : m = x.c.length := by omega
              rw [List.take_length] at hN
              have hgg : decide ((x.c.length : Int) < (x.c.length : Int)) = false := decide_eq_false (by omega)
              obtain ⟨C7, cc7, hv7, hl7, hC7, hs7⟩ := crow_own hN.out.row hN.out.wf
              subst hv7
              have I5 := Lib.hid (I3.out.later hN.out.bel)
              obtain ⟨gs, hG, hgs⟩ := I5.out.own
              obtain ⟨Av, cv, hvv, -, -⟩ := own_len hG.row
              subst hvv
              have hgl : gs.length = k := by
                have := congrArg List.length hgs
                rw [List.length_map, encA_len, List.length_take] at this
                omega
              rw [hgl] at hG I5
              obtain ⟨z0, z1, z2, z3, z4⟩ := hN.out.f.z
              rw [hl7] at z4
              simp only [List.length_map] at z4
              obtain ⟨y0, y1⟩ := I5.out.g6.z
              have HEL := Lib.hid (show (encJ g x).c.length = x.c.length by simp [encJ])
              have hO : GOk 49 B (wr.alloc (.cells #[.int .i64 x.t, .int .i64 g, .int .i64 (x.r - x.a), .int .i64 (x.k - 1), .slice C7 x.c.length cc7] 49)) ⟨encJ g x, C7, cc7⟩ := by
                have ba : Below wr.heap.size wr (wr.alloc (.cells #[.int .i64 x.t, .int .i64 g, .int .i64 (x.r - x.a), .int .i64 (x.k - 1), .slice C7 x.c.length cc7] 49)) := (Below.refl _ _).alloc (Nat.le_refl _) _
                refine ⟨HRW.out, CRow.later hC7 ba, fun hne a ha => ?_⟩
                obtain ⟨_, cs, fr, ht⟩ := hs7 hne a ha
                exact .inr ⟨cs, _, fr, (ba.block a.block (Array.getElem?_eq_some_iff.1 ht).1).trans ht, by decide⟩
              have HO := Lib.hid hO
              have hFA := FAt.news wr (encJ g x) C7 cc7 49 HRW.out hC7
              rw [HEL.out] at hFA
              have HFA := Lib.hid hFA
              have HG := Lib.hid hG
              have HGS := Lib.hid hgs
              have HGL := Lib.hid hgl
              have hBs : B ≤ wr.heap.size := I5.out.sz
              have HB6 := Lib.hid I5.out.lt
              clear hG hgs hgl hO hFA hC7 hs7 hl7 hN
              go_wp2_with (at_builtin; refine wpList_append_own _ rfl _ _ 23 rfl B 49 i0 _ 5 56 Try.underlying23 hi hz0 hz1 hz2 rfl (by decide) _ k (gvC gs) rfl (by have := HG.out.row; rw [HGL.out] at this; exact this.alloc _) ⟨wr.heap.size, 0, none⟩ 1 1 (fvL (encJ g x) C7 cc7) rfl rfl HFA.out (fvL_one _ _ _) (by unfold maxLen; omega) (by omega) (by simp; omega) ?_; intro v' w5 hown' hgrow hnil'; obtain ⟨Aw, cw, hvw, -, -⟩ := own_len hown'; subst hvw; have h6 := egb_off (I5.out.g6.later ((Below.refl _ _).alloc (Nat.le_refl _) _)) hgrow (fun q hq => (HG.out.row.lt q hq).1) HB6.out.2; obtain ⟨yy0, yy1⟩ := h6.z; have yf0 := h6.fz 0; have HO5 := Lib.hid hown'; have HGW := Lib.hid hgrow; clear hown' hgrow hnil' h6)
              go_roundw
              case rel =>
                have hP := I5.out.push HG.out HGS.out HO.out (by have := HO5.out; rw [HGL.out]; exact this) HGW.out (by simp)
                refine ⟨k + 1, _, by omega, by go_num, Lib.hid (by
                  rw [take_one HX.out, encA_snoc, List.nil_append, ← HGG.out]
                  exact hP), Lib.hid (fun i y hi hy => ?_)⟩
                rcases Nat.lt_or_ge i k with h | h
                · exact hgap.out i y h hy
                · obtain rfl : i = k := by omega
                  have hxy := HX.out
                  rw [hy] at hxy
                  obtain rfl := Option.some.inj hxy
                  rw [← HGG.out]
                  have := of_decide_eq_false d1
                  omega
              case measure => simp [intOf]; omega
    · obtain rfl : k = js.length := by omega
      have hgg : decide ((js.length : Int) < (js.length : Int)) = false := decide_eq_false (by omega)
      have HS : Hid (encF ts [] js = some (encA ts [] js)) := Lib.hid (encF_some ts js [] (fun i x hx => hgap.out i x (List.getElem?_eq_some_iff.1 hx).1 hx))
      rw [List.take_length] at hI
      obtain ⟨gs, hG, hgs⟩ := hI.out.own
      obtain ⟨Av, cv, hvv, -, -⟩ := own_len hG.row
      subst hvv
      have hgl : gs.length = (encA ts [] js).length := by rw [← hgs, List.length_map]
      have hk4 := ((Kept.refl [b4] wr).set b4 0 (.slice Av gs.length cv) (by simp)).set b4 1 (.bool true) (by simp)
      have hG2 := hG.off hk4 (fun b hb => by rw [List.mem_singleton] at hb; subst hb; exact hI.out.g4.noint (by simp) (by simp)) (fun q hq hm => by rw [List.mem_singleton] at hm; have := (hG.row.lt q hq).1; have := hI.out.lt.1; omega)
      obtain ⟨Aw, cw, hvw, hFR⟩ := hG2.frow
      simp only [Value.slice.injEq] at hvw
      obtain ⟨rfl, -, rfl⟩ := hvw
      rw [hgs] at hFR
      rw [hgl] at hI hFR
      obtain ⟨z0, z1⟩ := hI.out.g6.z
      obtain ⟨u0, u1⟩ := hI.out.g4.z
      have y0 := hI.out.g4.fz 0
      have y1 := hI.out.g4.fz 1
      have HFR := Lib.hid hFR
      clear hG hgs hFR hgl hG2 hk4
      go_wp2
      have G2 := ((hI.out.g4.set (i := 0) (.slice Av (encA ts [] js).length cv) rfl).set (i := 1) (.bool true) rfl)
      refine bodyPost_ret (results_got8 rfl _ _ b4 _ _ rfl G2) rfl ?_
      refine ⟨?_, (hI.out.bel.setCell (p := ⟨b4, 0, none⟩) hI.out.ge.1 _).setCell (p := ⟨b4, 1, none⟩) hI.out.ge.1 _⟩
      rw [HS.out]
      exact ⟨Av, cv, rfl, HFR.out⟩
theorem rencode_any (A R : Option Addr) (cap rc : Nat) (ts : List Ts) (js : List Fv) (w : World) (hT : Row w A cap ts) (hR : FRow w R rc js) :
    Calls Try.prog 41 #[.slice A ts.length cap, .slice R js.length rc] w (REncPost (encS ts js) w) := by
  cases h : legS ts js with
  | true => rw [encS_good h]; exact rencode_good A R cap rc ts js w hT hR h
  | false => rw [encS_bad h]; exact rencode_bad A R cap rc ts js w hT hR h
end Go.Proofs.Ythfiodjhjhpiaaa
