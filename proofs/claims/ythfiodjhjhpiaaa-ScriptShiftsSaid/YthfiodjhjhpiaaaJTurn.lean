/- The law's turned: rows of jobs of which one has another number. -/
import Derived.Test.YthfiodjhjhpiaaaJArr
import Derived.Laws.AppendOwnNone
namespace Go.Proofs.Ythfiodjhjhpiaaa
open Go.RowKit
set_option linter.unusedVariables false
set_option linter.unusedSimpArgs false

theorem run_append_own_nil {P : Program} {w : World} (base : Nat) (t ty e : TypeId) (i : TypeInfo) (size : Nat) (ht : P.underlying t = some (.slice e)) (hi : P.info? e = some i)
    (v : Value) (n c : Nat) (xs : List Value) (hown : w.ownsRow base e size v n xs) :
    (Builtin.append_ #[t, t] ty #[v, .slice none 0 c]).run P w = .ok v w := by
  rcases hown.2 with ⟨rfl, rfl⟩ | ⟨g, cap, cur, rfl, _, _, hnc, _⟩
  · simp [Builtin.append_, run_underlying ht, sizeOf, typeInfo, hi, Builtin.lenOf, Builtin.firstCells]
  · simp [Builtin.append_, run_underlying ht, sizeOf, typeInfo, hi, Builtin.lenOf, Builtin.firstCells, hnc, storeCells]
theorem wpList_append_own_nil {P : Program} {w : World} {ops : Array Oper} {rest : List Oper} {o : Oper} {a : Act} {Q : Exit → Act → World → Prop} (hgd : o.guard = none) (s x : Operand) (t : TypeId)
    (ho : o.op = .call { callee := .builtin .append, args := #[s, x], argTypes := #[t, t] })
    (base : Nat) (e : TypeId) (i : TypeInfo) (size : Nat) (ht : P.underlying t = some (.slice e)) (hi : P.info? e = some i)
    (v : Value) (n c : Nat) (xs : List Value) (hs : a.eval s = v) (hown : w.ownsRow base e size v n xs) (hx : a.eval x = .slice none 0 c)
    (h : wpList P ops Q rest (a.put o.dst v) w) : wpList P ops Q (o :: rest) a w := by
  refine wpList_plain hgd fun K hK => ?_
  have hrun := run_append_own_nil (P := P) (w := w) base t o.type e i size ht hi v n c xs hown
  unfold Oper.wp
  simp [execOp, ho, resolve, invoke, builtin, hs, hx, hrun, Result.andThen]
  exact hK _ _ h
theorem own_emptyJ {w : World} {base : Nat} (hb : base ≤ w.heap.size) : (w.alloc (.cells #[] 40)).ownsRow base 40 5 (.slice (some ⟨w.heap.size, 0, none⟩) 0 0) 0 [] := World.ownsRow_lit w #[] 0 hb (by unfold maxLen; omega) rfl
theorem own_empty64 {w : World} {base : Nat} (hb : base ≤ w.heap.size) : (w.alloc (.cells #[] 2)).ownsRow base 2 1 (.slice (some ⟨w.heap.size, 0, none⟩) 0 0) 0 [] := World.ownsRow_lit w #[] 0 hb (by unfold maxLen; omega) rfl

/-! ### One of them is set anew -/
theorem gvC_set : ∀ (gs : List Gv) (i : Nat) (g g' : Gv), gs[i]? = some g → ∀ (j : Nat) (u : Value), j < 5 → fvL g'.x g'.A g'.cap = (fvL g.x g.A g.cap).set j u → gvC (gs.set i g') = (gvC gs).set (i * 5 + j) u
  | [], i, g, g', h, j, u, hj, he => by simp at h
  | a :: r, 0, g, g', h, j, u, hj, he => by
    simp at h
    subst h
    have hl : j < (fvL a.x a.A a.cap).length := by simp [fvL]; omega
    simp only [List.set_cons_zero, gvC, List.flatMap_cons, he, Nat.zero_mul, Nat.zero_add]
    rw [List.set_append, if_pos hl]
  | a :: r, i + 1, g, g', h, j, u, hj, he => by
    simp only [List.getElem?_cons_succ] at h
    have ih := gvC_set r i g g' h j u hj he
    have hl : (fvL a.x a.A a.cap).length = 5 := rfl
    simp only [List.set_cons_succ, gvC, List.flatMap_cons] at ih ⊢
    rw [ih, List.set_append, if_neg (by rw [hl]; omega)]
    congr 2
    rw [hl]
    omega
theorem FOwn.setI {e : TypeId} {B : Nat} {w : World} {q n cap : Nat} {gs : List Gv} {i : Nat} {g g' : Gv} (h : FOwn e B w (.slice (some ⟨q, 0, none⟩) n cap) gs) (hi : gs[i]? = some g) (j : Nat) (hj : j < 5) (u : Value)
    (he : fvL g'.x g'.A g'.cap = (fvL g.x g.A g.cap).set j u) (hg : GOk e B w g') : FOwn e B (w.setCell ⟨q, i * 5 + j, none⟩ u) (.slice (some ⟨q, 0, none⟩) n cap) (gs.set i g') := by
  have hil := (List.getElem?_eq_some_iff.1 hi).1
  have hk : ∀ b, b < w.heap.size → b < B ∨ (∃ cs T fr, w.heap[b]? = some (.cells cs T fr) ∧ T ≠ e) → (w.setCell ⟨q, i * 5 + j, none⟩ u).heap[b]? = w.heap[b]? := fun b hb hs => Below.heap_setCell _ _ _ _ (fun hq => by
    have hq' : b = q := hq
    subst hq'
    rcases hs with hs | ⟨cs, T, fr, hs, hT⟩
    · have := (h.row.lt b rfl).1; omega
    · exact own_ne h.row hs hT rfl)
  refine ⟨?_, fun y hy => ?_⟩
  · rw [List.length_set, gvC_set gs i g g' hi j u hj he]
    exact own_set h.row rfl (by omega) u
  · rcases List.mem_or_eq_of_mem_set hy with hy | rfl
    · exact (h.each y hy).kept hk
    · exact hg.kept hk
/-- What is known of a row's own place. -/
theorem FOwn.at_ {e : TypeId} {B : Nat} {w : World} {q n cap : Nat} {gs : List Gv} {i : Nat} {g : Gv} (h : FOwn e B w (.slice (some ⟨q, 0, none⟩) n cap) gs) (hi : gs[i]? = some g) : ∀ j u, (fvL g.x g.A g.cap)[j]? = some u → w.cell? ⟨q, i * 5 + j, none⟩ = some u := fun j u hu => own_cell h.row rfl (gvC_get gs i g hi j u hu)

theorem in64_wrap (z : Int) : in64 (wrap64 z) := by
  unfold in64 wrap64
  omega
def turnJ (h n : Int) (x : Fv) : Fv :=
  if h = 0 then { x with t := n } else if h = 1 then { x with a := wrap64 (x.a + n) } else if h = 2 then { x with r := wrap64 (x.r + n) } else if h = 3 then { x with k := wrap64 (x.k + n) } else if h = 4 then { x with c := x.c ++ [n] } else { x with a := wrap64 (x.a + n), r := wrap64 (x.r + n) }
def turnS (js : List Fv) (at_ h n : Int) : List Fv := js.modify (at_ % (js.length : Int)).toNat (turnJ (h % 6) n)
def TurnPost (js : List Fv) (w : World) (e : Ending) (w' : World) : Prop := ∃ v gs, e = .returned v ∧ FOwn 40 w.heap.size w' v gs ∧ gs.map (·.x) = js ∧ Below w.heap.size w w'
theorem modify_map {gs : List Gv} {i : Nat} {g : Gv} (f : Fv → Fv) (g' : Gv) (hi : gs[i]? = some g) (he : g'.x = f g.x) : (gs.set i g').map (·.x) = (gs.map (·.x)).modify i f := by
  apply List.ext_getElem?
  intro j
  rw [List.getElem?_map, List.getElem?_modify, List.getElem?_map]
  by_cases h : i = j
  · subst h
    have hil := (List.getElem?_eq_some_iff.1 hi).1
    rw [List.getElem?_set_self hil, hi]
    simp [he]
  · rw [List.getElem?_set_ne h]
    simp [h]
theorem FOwn.old {e e' : TypeId} {B : Nat} {w : World} {v : Value} {gs : List Gv} (h : FOwn e B w v gs) : ∀ g ∈ gs, GOk e' w.heap.size w g := fun g hg => by
  have ho := h.each g hg
  refine ⟨ho.wf, ho.s, fun hne a ha => .inl ?_⟩
  obtain ⟨b, o, x, hA, _, _, hlt, _⟩ := ho.s.get (k := 0) (by rcases Nat.eq_zero_or_pos g.x.c.length with h0 | h0; exact absurd (List.length_eq_zero_iff.1 h0) hne; exact h0)
  rw [ha] at hA
  cases hA
  exact hlt
set_option maxRecDepth 100000 in
set_option maxHeartbeats 4000000 in
theorem turned_nil (at_ h n : Int) (w : World) : Calls Try.prog 16 #[.slice none 0 0, .int .i64 at_, .int .i64 h, .int .i64 n] w (TurnPost [] w) := by
  obtain ⟨i0, hi, hz0, hz1, hz2⟩ := info_parts infoJs
  have b0 : Below w.heap.size w (w.alloc (.cells #[] 40)) := (Below.refl _ _).alloc (Nat.le_refl _) _
  have ho := own_emptyJ (w := w) (Nat.le_refl w.heap.size)
  have B0 := Lib.hid b0
  have HO := Lib.hid ho
  clear b0 ho
  go_enter Try.func16, Try.ntmps16
  go_wp2_with (refine wpList_append_own_none rfl _ _ 29 rfl w.heap.size 40 i0 5 Try.underlying29 hi _ 0 [] rfl HO.out rfl ?_)
  go_ret
  exact ⟨_, [], rfl, ⟨HO.out, by simp⟩, rfl, B0.out⟩
set_option maxRecDepth 100000 in
set_option maxHeartbeats 16000000 in
theorem turned_some (B g0 c0 : Nat) (gs : List Gv) (at_ h n : Int) (w : World) (hG : FOwn 40 B w (.slice (some ⟨g0, 0, none⟩) gs.length c0) gs) (hl : gs.length ≤ 4096) (hcl : ∀ g ∈ gs, g.x.c.length ≤ 1000000) (ha : in64 at_) (hh : in64 h) (hn : in64 n) :
    Calls Try.prog 16 #[.slice (some ⟨g0, 0, none⟩) gs.length c0, .int .i64 at_, .int .i64 h, .int .i64 n] w (TurnPost (turnS (gs.map (·.x)) at_ h n) w) := by
  obtain ⟨i0, hi, hz0, hz1, hz2⟩ := info_parts infoJs
  obtain ⟨j0, hj, hy0, hy1, hy2⟩ := info_parts info64
  have b0 : Below w.heap.size w (w.alloc (.cells #[] 40)) := (Below.refl _ _).alloc (Nat.le_refl _) _
  have ho := own_emptyJ (w := w) (Nat.le_refl w.heap.size)
  have hG1 := hG.later b0
  have hcells : ∀ j u, (gvC gs)[j]? = some u → (w.alloc (.cells #[] 40)).cell? ((⟨g0, 0, none⟩ : Addr).add j) = some u := fun j u hu => by
    rw [add_none, Nat.zero_add]
    exact own_cell hG1.row rfl hu
  have hlen := gvC_length gs
  have hone : ∀ u ∈ gvC gs, u.oneCell' = true := fun u hu => by
    obtain ⟨g, _, hg⟩ := List.mem_flatMap.1 hu
    exact fvL_one _ _ _ u hg
  have HCL := Lib.hid hcl
  have HOLD : Hid (∀ g ∈ gs, GOk 40 w.heap.size w g) := Lib.hid hG.old
  have B0 := Lib.hid b0
  have HO := Lib.hid ho
  have HC := Lib.hid hcells
  have HL := Lib.hid hlen
  have H1 := Lib.hid hone
  have K2 := Lib.hid (fun W => lrest_any h 6 W hh (by omega) (by omega))
  have hhb := emod_bd h 6 (by omega)
  clear b0 ho hG hG1 hcells hlen hone hcl
  go_enter Try.func16, Try.ntmps16
  go_upto_region 2 with (refine wpList_append_own _ rfl _ _ 29 rfl w.heap.size 40 i0 _ 5 56 Try.underlying29 hi hz0 hz1 hz2 rfl (by decide) _ 0 [] rfl HO.out ⟨g0, 0, none⟩ gs.length c0 (gvC gs) rfl HL.out HC.out H1.out (by unfold maxLen; omega) (by omega) (by simp) ?_; intro v' w2 hown' hgrow hnil')
  have hB2 : Below w.heap.size w w2 := B0.out.grown hgrow (by simp) (fun q hq => (HO.out.lt q hq).1)
  rw [List.nil_append, Nat.zero_add] at hown'
  have hG2 : FOwn 40 w.heap.size w2 v' gs := ⟨hown', fun g hg => (HOLD.out g hg).kept fun b hb _ => hB2.block b hb⟩
  have HB2 := Lib.hid hB2
  obtain ⟨A', cap', hv', hvl, hvm⟩ := own_len hown'
  subst hv'
  have HG2 := Lib.hid hG2
  clear hB2 hgrow hnil' hown' hG2
  by_cases h0 : gs.length = 0
  · have hgs : gs = [] := List.length_eq_zero_iff.1 h0
    subst hgs
    go_wp2
    go_ret
    exact ⟨_, [], rfl, HG2.out, by simp [turnS], HB2.out⟩
  · have t0 : ((gs.length : Int) == 0) = false := by rw [beq_eq_false_iff_ne]; omega
    have K1 := fun W => lrest_any at_ (gs.length : Int) W ha (by omega) (by omega)
    have hab := emod_bd at_ (gs.length : Int) (by omega)
    obtain ⟨i, hai⟩ : ∃ i : Nat, at_ % (gs.length : Int) = (i : Int) := ⟨(at_ % (gs.length : Int)).toNat, by omega⟩
    rw [hai] at K1 hab
    have K1 := Lib.hid K1
    have HAI : Hid (turnS (gs.map (·.x)) at_ h n = (gs.map (·.x)).modify i (turnJ (h % 6) n)) := Lib.hid (by rw [turnS, List.length_map, hai, Int.toNat_natCast])
    obtain ⟨q, cq, hq, hqB, hql, _, _, hfz⟩ := own_form HG2.out.row (by omega)
    simp only [Value.slice.injEq] at hq
    obtain ⟨rfl, _, rfl⟩ := hq
    obtain ⟨g, hg⟩ : ∃ g, gs[i]? = some g := ⟨gs[i]'(by omega), List.getElem?_eq_getElem _⟩
    have hcell := HG2.out.at_ hg
    have z0 := hcell 0 _ rfl
    have z1 := hcell 1 _ rfl
    have z2 := hcell 2 _ rfl
    have z3 := hcell 3 _ rfl
    have z4 := hcell 4 _ rfl
    rw [Nat.add_zero] at z0
    have y0 := hfz (i * 5)
    have y1 := hfz (i * 5 + 1)
    have y2 := hfz (i * 5 + 2)
    have y3 := hfz (i * 5 + 3)
    have y4 := hfz (i * 5 + 4)
    have tp0 : (0 : Int) ≤ (i : Int) := by omega
    have tp1 : (i : Int) < (gs.length : Int) := by omega
    have HGO := Lib.hid (HG2.out.each g (List.mem_of_getElem? hg))
    have HGI := Lib.hid hg
    have HQB := Lib.hid hqB
    obtain ⟨hm, hmd⟩ : ∃ hm, h % 6 = hm := ⟨_, rfl⟩
    rw [hmd] at K2 hhb HAI
    clear hai hcell hfz hg hmd hqB
    rcases (by omega : hm = 0 ∨ hm = 1 ∨ hm = 2 ∨ hm = 3 ∨ hm = 4 ∨ hm = 5) with rfl | rfl | rfl | rfl | rfl | rfl
    · go_wp2_with (first
        | (go_at_call 21; (with_reducible refine (K1.out _).mono ?_); rintro e w3 ⟨rfl, rfl⟩)
        | (go_at_call 21; (with_reducible refine (K2.out _).mono ?_); rintro e w3 ⟨rfl, rfl⟩))
      go_ret
      refine ⟨_, gs.set i ⟨{ g.x with t := n }, g.A, g.cap⟩, rfl, HG2.out.setI (g' := ⟨{ g.x with t := n }, g.A, g.cap⟩) HGI.out 0 (by omega) (.int .i64 (n)) rfl ⟨⟨hn, HGO.out.wf.a, HGO.out.wf.r, HGO.out.wf.k⟩, HGO.out.s, HGO.out.safe⟩, ?_, HB2.out.setCell (p := ⟨q, i * 5 + 0, none⟩) HQB.out _⟩
      rw [HAI.out]
      exact modify_map _ ⟨{ g.x with t := n }, g.A, g.cap⟩ HGI.out rfl
    · go_wp2_with (first
        | (go_at_call 21; (with_reducible refine (K1.out _).mono ?_); rintro e w3 ⟨rfl, rfl⟩)
        | (go_at_call 21; (with_reducible refine (K2.out _).mono ?_); rintro e w3 ⟨rfl, rfl⟩))
      go_ret
      refine ⟨_, gs.set i ⟨{ g.x with a := wrap64 (g.x.a + n) }, g.A, g.cap⟩, rfl, HG2.out.setI (g' := ⟨{ g.x with a := wrap64 (g.x.a + n) }, g.A, g.cap⟩) HGI.out 1 (by omega) (.int .i64 (wrap64 (g.x.a + n))) rfl ⟨⟨HGO.out.wf.t, in64_wrap _, HGO.out.wf.r, HGO.out.wf.k⟩, HGO.out.s, HGO.out.safe⟩, ?_, HB2.out.setCell (p := ⟨q, i * 5 + 1, none⟩) HQB.out _⟩
      rw [HAI.out]
      exact modify_map _ ⟨{ g.x with a := wrap64 (g.x.a + n) }, g.A, g.cap⟩ HGI.out rfl
    · go_wp2_with (first
        | (go_at_call 21; (with_reducible refine (K1.out _).mono ?_); rintro e w3 ⟨rfl, rfl⟩)
        | (go_at_call 21; (with_reducible refine (K2.out _).mono ?_); rintro e w3 ⟨rfl, rfl⟩))
      go_ret
      refine ⟨_, gs.set i ⟨{ g.x with r := wrap64 (g.x.r + n) }, g.A, g.cap⟩, rfl, HG2.out.setI (g' := ⟨{ g.x with r := wrap64 (g.x.r + n) }, g.A, g.cap⟩) HGI.out 2 (by omega) (.int .i64 (wrap64 (g.x.r + n))) rfl ⟨⟨HGO.out.wf.t, HGO.out.wf.a, in64_wrap _, HGO.out.wf.k⟩, HGO.out.s, HGO.out.safe⟩, ?_, HB2.out.setCell (p := ⟨q, i * 5 + 2, none⟩) HQB.out _⟩
      rw [HAI.out]
      exact modify_map _ ⟨{ g.x with r := wrap64 (g.x.r + n) }, g.A, g.cap⟩ HGI.out rfl
    · go_wp2_with (first
        | (go_at_call 21; (with_reducible refine (K1.out _).mono ?_); rintro e w3 ⟨rfl, rfl⟩)
        | (go_at_call 21; (with_reducible refine (K2.out _).mono ?_); rintro e w3 ⟨rfl, rfl⟩))
      go_ret
      refine ⟨_, gs.set i ⟨{ g.x with k := wrap64 (g.x.k + n) }, g.A, g.cap⟩, rfl, HG2.out.setI (g' := ⟨{ g.x with k := wrap64 (g.x.k + n) }, g.A, g.cap⟩) HGI.out 3 (by omega) (.int .i64 (wrap64 (g.x.k + n))) rfl ⟨⟨HGO.out.wf.t, HGO.out.wf.a, HGO.out.wf.r, in64_wrap _⟩, HGO.out.s, HGO.out.safe⟩, ?_, HB2.out.setCell (p := ⟨q, i * 5 + 3, none⟩) HQB.out _⟩
      rw [HAI.out]
      exact modify_map _ ⟨{ g.x with k := wrap64 (g.x.k + n) }, g.A, g.cap⟩ HGI.out rfl
    · have hgl := HCL.out g (List.mem_of_getElem? HGI.out)
      have HQL := Lib.hid hql
      cases hA : g.A with
      | none =>
        have hc0 : g.x.c = [] := by
          cases hc : g.x.c with
          | nil => rfl
          | cons c r =>
            obtain ⟨b, o, e, _⟩ := HGO.out.s.at_ 0 c (by rw [hc]; rfl)
            rw [hA] at e
            cases e
        have HC0 := Lib.hid hc0
        have HA := Lib.hid hA
        rw [hA, hc0] at z4
        clear hA hc0 hgl
        have HBE : Hid (Below w2.heap.size w2 (w2.alloc (.cells #[] 2))) := Lib.hid ((Below.refl _ _).alloc (Nat.le_refl _) _)
        have HN1 := Lib.hid (fun (V : World) => cell_one_new V (.int .i64 n) 2)
        go_upto_region 17 with (first
          | (go_at_call 21; (with_reducible refine (K1.out _).mono ?_); rintro e w3 ⟨rfl, rfl⟩)
          | (go_at_call 21; (with_reducible refine (K2.out _).mono ?_); rintro e w3 ⟨rfl, rfl⟩))
        go_wp2_with (first
          | (at_builtin; (refine wpList_append_own_nil rfl _ _ 38 rfl w2.heap.size 2 j0 1 Try.underlying38 hj _ 0 g.cap [] rfl (own_empty64 (Nat.le_refl _)) rfl ?_))
          | (at_builtin; (refine wpList_append_own _ rfl _ _ 38 rfl w2.heap.size 2 j0 _ 1 8 Try.underlying38 hj hy0 hy1 hy2 rfl (by decide) _ 0 [] rfl (World.ownsRow.alloc (own_empty64 (Nat.le_refl _)) _) ⟨w2.heap.size + 1, 0, none⟩ 1 1 [.int .i64 n] rfl rfl (by have := HN1.out (w2.alloc (.cells #[] 2)); rw [World.size_alloc] at this; simpa using this) (by simp [Value.oneCell']) (by unfold maxLen; omega) (by omega) (by have := (HBE.out).size; (repeat rw [World.size_alloc]); omega) ?_; intro v5 w5 hown5 hgrow5 hnil5; have hB5 : Below w2.heap.size w2 w5 := (((HBE.out).alloc (by have := (HBE.out).size; (repeat rw [World.size_alloc]); omega) _).grown hgrow5 (by have := (HBE.out).size; (repeat rw [World.size_alloc]); omega) (fun q hq => ((own_empty64 (w := w2) (Nat.le_refl w2.heap.size)).lt q hq).1)); have HB5 := Lib.hid hB5; have HO5 := Lib.hid hown5; obtain ⟨A5, c5, hv5, -, -⟩ := own_len hown5; subst hv5; have zz4 := (hB5.cell (p := ⟨q, i * 5 + 4, none⟩) HQL.out).trans z4; have yy4 := (hB5.frozen (p := ⟨q, i * 5 + 4, none⟩) HQL.out).trans y4; clear hown5 hgrow5 hnil5 hB5 z0 z1 z2 z3 z4 y0 y1 y2 y3 y4)))
        go_ret
        have hrow5 := HO5.out
        rw [Nat.zero_add, List.nil_append] at hrow5
        obtain ⟨A6, c6, hv6, hn6, hC6, hs6⟩ := crow_own (l := g.x.c ++ [n]) (show w5.ownsRow w2.heap.size 2 1 (.slice A5 (0 + 1) c5) 1 (numL (g.x.c ++ [n])) by rw [HC0.out]; exact hrow5) (fun y hy => by
          rcases List.mem_append.1 hy with hy | hy
          · exact HGO.out.s.wf y hy
          · obtain rfl := List.mem_singleton.1 hy
            exact hn)
        simp only [Value.slice.injEq] at hv6
        obtain ⟨rfl, hlen6, rfl⟩ := hv6
        have s1 := (HG2.out.later HB5.out).setI (g' := ⟨{ g.x with c := g.x.c ++ [n] }, A5, c5⟩) HGI.out 4 (by omega) (.slice A5 (0 + 1) c5) (by simp only [fvL]; rw [hlen6]; rfl) ⟨⟨HGO.out.wf.t, HGO.out.wf.a, HGO.out.wf.r, HGO.out.wf.k⟩, hC6, fun hne a ha => by
          obtain ⟨_, cs, fr, ht⟩ := hs6 hne a ha
          exact .inr ⟨cs, _, fr, ht, by decide⟩⟩
        refine ⟨_, gs.set i ⟨{ g.x with c := g.x.c ++ [n] }, A5, c5⟩, rfl, s1, ?_, (HB2.out.trans (HB5.out.mono HB2.out.size)).setCell (p := ⟨q, i * 5 + 4, none⟩) HQB.out _⟩
        rw [HAI.out]
        exact modify_map _ ⟨{ g.x with c := g.x.c ++ [n] }, A5, c5⟩ HGI.out rfl
      | some ad =>
        have HA := Lib.hid hA
        have HNEW : Hid (∀ j u, (numL g.x.c)[j]? = some u → (w2.alloc (.cells #[] 2)).cell? (ad.add j) = some u) := Lib.hid (fun j u hu => by
          simp only [numL, List.getElem?_map] at hu
          obtain ⟨y, hy, rfl⟩ := Option.map_eq_some_iff.1 hu
          obtain ⟨b, o, e, hc⟩ := HGO.out.s.at_ j y hy
          rw [HA.out] at e
          cases e
          rw [add_none]
          exact cells_below ((Below.refl _ _).alloc (Nat.le_refl _) _) _ _ _ hc)
        rw [hA] at z4
        clear hA
        have HBE : Hid (Below w2.heap.size w2 (w2.alloc (.cells #[] 2))) := Lib.hid ((Below.refl _ _).alloc (Nat.le_refl _) _)
        have HN1 := Lib.hid (fun (V : World) => cell_one_new V (.int .i64 n) 2)
        go_upto_region 17 with (first
          | (go_at_call 21; (with_reducible refine (K1.out _).mono ?_); rintro e w3 ⟨rfl, rfl⟩)
          | (go_at_call 21; (with_reducible refine (K2.out _).mono ?_); rintro e w3 ⟨rfl, rfl⟩))
        go_wp2_with (first
          | (at_builtin; (refine wpList_append_own _ rfl _ _ 38 rfl w2.heap.size 2 j0 _ 1 8 Try.underlying38 hj hy0 hy1 hy2 rfl (by decide) _ 0 [] rfl (own_empty64 (Nat.le_refl _)) ad g.x.c.length g.cap (numL g.x.c) rfl (by simp [numL]) HNEW.out (numL_one _) (by unfold maxLen; omega) (by omega) (by simp) ?_); intro v4 w4 hown4 hgrow4 hnil4; have HO4 := Lib.hid hown4; have HB4 : Hid (Below w2.heap.size w2 w4) := Lib.hid ((show Below w2.heap.size w2 (w2.alloc (.cells #[] 2)) from (Below.refl _ _).alloc (Nat.le_refl _) _).grown hgrow4 (by simp) (fun q hq => ((own_empty64 (Nat.le_refl w2.heap.size)).lt q hq).1)); clear hown4 hgrow4 hnil4)
          | (at_builtin; (refine wpList_append_own _ rfl _ _ 38 rfl w2.heap.size 2 j0 _ 1 8 Try.underlying38 hj hy0 hy1 hy2 rfl (by decide) _ (0 + g.x.c.length) ([] ++ numL g.x.c) rfl (World.ownsRow.alloc HO4.out _) ⟨w4.heap.size, 0, none⟩ 1 1 [.int .i64 n] rfl rfl (by simpa using HN1.out w4) (by simp [Value.oneCell']) (by unfold maxLen; omega) (by omega) (by have := (HB4.out).size; (repeat rw [World.size_alloc]); omega) ?_; intro v5 w5 hown5 hgrow5 hnil5; have hB5 : Below w2.heap.size w2 w5 := (((HB4.out).alloc (by have := (HB4.out).size; (repeat rw [World.size_alloc]); omega) _).grown hgrow5 (by have := (HB4.out).size; (repeat rw [World.size_alloc]); omega) (fun q hq => (HO4.out.lt q hq).1)); have HB5 := Lib.hid hB5; have HO5 := Lib.hid hown5; obtain ⟨A5, c5, hv5, -, -⟩ := own_len hown5; subst hv5; have zz4 := (hB5.cell (p := ⟨q, i * 5 + 4, none⟩) HQL.out).trans z4; have yy4 := (hB5.frozen (p := ⟨q, i * 5 + 4, none⟩) HQL.out).trans y4; clear hown5 hgrow5 hnil5 hB5 z0 z1 z2 z3 z4 y0 y1 y2 y3 y4)))
        go_ret
        have hrow5 := HO5.out
        obtain ⟨A6, c6, hv6, hn6, hC6, hs6⟩ := crow_own (l := g.x.c ++ [n]) (show w5.ownsRow w2.heap.size 2 1 (.slice A5 (0 + g.x.c.length + 1) c5) (0 + g.x.c.length + 1) (numL (g.x.c ++ [n])) by rw [numL_snoc]; exact hrow5) (fun y hy => by
          rcases List.mem_append.1 hy with hy | hy
          · exact HGO.out.s.wf y hy
          · obtain rfl := List.mem_singleton.1 hy
            exact hn)
        simp only [Value.slice.injEq] at hv6
        obtain ⟨rfl, hlen6, rfl⟩ := hv6
        have s1 := (HG2.out.later HB5.out).setI (g' := ⟨{ g.x with c := g.x.c ++ [n] }, A5, c5⟩) HGI.out 4 (by omega) (.slice A5 (0 + g.x.c.length + 1) c5) (by simp only [fvL]; rw [hlen6]; rfl) ⟨⟨HGO.out.wf.t, HGO.out.wf.a, HGO.out.wf.r, HGO.out.wf.k⟩, hC6, fun hne a ha => by
          obtain ⟨_, cs, fr, ht⟩ := hs6 hne a ha
          exact .inr ⟨cs, _, fr, ht, by decide⟩⟩
        simp only [Nat.zero_add] at s1
        refine ⟨_, gs.set i ⟨{ g.x with c := g.x.c ++ [n] }, A5, c5⟩, rfl, s1, ?_, (HB2.out.trans (HB5.out.mono HB2.out.size)).setCell (p := ⟨q, i * 5 + 4, none⟩) HQB.out _⟩
        rw [HAI.out]
        exact modify_map _ ⟨{ g.x with c := g.x.c ++ [n] }, A5, c5⟩ HGI.out rfl
    · go_wp2_with (first
        | (go_at_call 21; (with_reducible refine (K1.out _).mono ?_); rintro e w3 ⟨rfl, rfl⟩)
        | (go_at_call 21; (with_reducible refine (K2.out _).mono ?_); rintro e w3 ⟨rfl, rfl⟩))
      go_ret
      have s1 := HG2.out.setI (g' := ⟨{ g.x with a := wrap64 (g.x.a + n) }, g.A, g.cap⟩) HGI.out 1 (by omega) (.int .i64 (wrap64 (g.x.a + n))) rfl ⟨⟨HGO.out.wf.t, in64_wrap _, HGO.out.wf.r, HGO.out.wf.k⟩, HGO.out.s, HGO.out.safe⟩
      have hi1 : (gs.set i ⟨{ g.x with a := wrap64 (g.x.a + n) }, g.A, g.cap⟩)[i]? = some ⟨{ g.x with a := wrap64 (g.x.a + n) }, g.A, g.cap⟩ := List.getElem?_set_self (List.getElem?_eq_some_iff.1 HGI.out).1
      have e1 := s1.each _ (List.mem_of_getElem? hi1)
      have s2 := s1.setI (g' := ⟨{ g.x with a := wrap64 (g.x.a + n), r := wrap64 (g.x.r + n) }, g.A, g.cap⟩) hi1 2 (by omega) (.int .i64 (wrap64 (g.x.r + n))) rfl ⟨⟨HGO.out.wf.t, in64_wrap _, in64_wrap _, HGO.out.wf.k⟩, e1.s, e1.safe⟩
      rw [List.set_set] at s2
      refine ⟨_, gs.set i ⟨{ g.x with a := wrap64 (g.x.a + n), r := wrap64 (g.x.r + n) }, g.A, g.cap⟩, rfl, s2, ?_, (HB2.out.setCell (p := ⟨q, i * 5 + 1, none⟩) HQB.out _).setCell (p := ⟨q, i * 5 + 2, none⟩) HQB.out _⟩
      rw [HAI.out]
      exact modify_map _ ⟨{ g.x with a := wrap64 (g.x.a + n), r := wrap64 (g.x.r + n) }, g.A, g.cap⟩ HGI.out rfl
end Go.Proofs.Ythfiodjhjhpiaaa
