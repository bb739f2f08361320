/- A row of bytes that a text was turned into: its mark lies behind its cells. What is appended to it. -/
import Derived.Test.YtlelnoalajeihaaDoorRd
import Derived.Test.YtlelnoalajeihaaDoorShelf
import Derived.Lib.ItoaMem
import Derived.Lib.ItoaWalk
import Derived.Laws.IdiomStrings
import Derived.Lib.AppendStr
import Derived.Lib.AppendIntMem
import Derived.Lib.Hide
namespace Go.Proofs.YtlelnoalajeihaaDoor
open Go.RowKit Go.Sort Go.Shelf
set_option linter.unusedVariables false
set_option linter.unusedSimpArgs false

/-- No one of the first k cells is marked. -/
def NF (fz : Nat × Nat) (k : Nat) : Prop := fz = (0, 0) ∨ k ≤ fz.1
theorem NF.cell {w : World} {g k j : Nat} {cur : Array Value} {t : TypeId} {fz : Nat × Nat} (h : NF fz k) (hg : w.heap[g]? = some (.cells cur t fz)) (hj : j < k) : w.frozen? ⟨g, j, none⟩ = false := by
  obtain ⟨lo, hi⟩ := fz
  simp only [World.frozen?, hg, Bool.and_eq_false_iff, decide_eq_false_iff_not]
  rcases h with h | h
  · right
    have := congrArg Prod.snd h
    simp only at this
    omega
  · left
    simp only at h
    omega
theorem store_marked (g o : Nat) (t : TypeId) (fz : Nat × Nat) : ∀ (vs : List Value) (i : Nat) (cur : Array Value) (w : World), w.heap[g]? = some (.cells cur t fz) → NF fz cur.size → o + i + vs.length ≤ cur.size → (∀ v ∈ vs, v.oneCell' = true) →
    (storeCells ⟨g, o, none⟩ vs i).run Tryd.prog w = .ok () (w.setRow g (cur.toList.take (o + i) ++ vs ++ cur.toList.drop (o + i + vs.length)).toArray)
  | [], i, cur, w, hg, _, _, _ => by
    simp only [storeCells, List.append_nil, List.length_nil, Nat.add_zero, List.take_append_drop, Array.toArray_toList]
    rw [setRow_self w g cur t fz hg]
    rfl
  | v :: rest, i, cur, w, hg, hf, hl, h1 => by
    have hl' : o + i + (rest.length + 1) ≤ cur.size := by simpa using hl
    have hi : o + i < cur.size := by omega
    have hadd : (⟨g, o, none⟩ : Addr).add i = ⟨g, o + i, none⟩ := by unfold Addr.add; split <;> simp_all
    have hcell : w.cell? ⟨g, o + i, none⟩ = some cur[o + i] := by simp [World.cell?, hg, hi]
    have hfro := hf.cell hg hi
    have hst : (store ((⟨g, o, none⟩ : Addr).add i) v).run Tryd.prog w = .ok () (w.setRow g (cur.setIfInBounds (o + i) v)) := by
      rw [hadd, run_store Tryd.prog w _ v _ (h1 v (by simp)), hcell]
      simp [hfro, setCell_eq_setRow w g (o + i) cur t fz v hg]
    have ih := store_marked g o t fz rest (i + 1) (cur.setIfInBounds (o + i) v) (w.setRow g (cur.setIfInBounds (o + i) v)) (setRow_heap w g cur _ t _ hg) (by simpa using hf) (by simp; omega) (fun x hx => h1 x (by simp [hx]))
    simp only [storeCells, Sem.run_bind, hst, Result.andThen_ok, ih, setRow_setRow]
    congr 3
    have e := list_seg_step cur.toList (o + i) v rest (by simp; omega)
    simpa [Array.toList_setIfInBounds, Nat.add_assoc] using e

/-- Block g, of cap bytes, begins with these. -/
structure OwnM (w : World) (g cap : Nat) (xs : List Value) : Prop where
  ex : ∃ cur fz, w.heap[g]? = some (.cells cur 5 fz) ∧ NF fz cap ∧ cur.size = cap ∧ cur.toList.take xs.length = xs
  le : xs.length ≤ cap
  mx : cap ≤ maxLen
theorem OwnM.lt {w : World} {g cap : Nat} {xs : List Value} (h : OwnM w g cap xs) : g < w.heap.size := by
  obtain ⟨cur, fz, hg, _⟩ := h.ex
  exact (Array.getElem?_eq_some_iff.1 hg).1
theorem OwnM.kept {X : List Nat} {w w' : World} {g cap : Nat} {xs : List Value} (h : OwnM w g cap xs) (hk : Kept X w w') (hx : g ∉ X) : OwnM w' g cap xs := by
  have hl := h.lt
  obtain ⟨cur, fz, hg, r⟩ := h.ex
  exact ⟨⟨cur, fz, (hk.block g hl hx).trans hg, r⟩, h.le, h.mx⟩
theorem OwnM.later {w w' : World} {g cap : Nat} {xs : List Value} (h : OwnM w g cap xs) (hb : Below w.heap.size w w') : OwnM w' g cap xs := h.kept (Kept.of [] hb) (by simp)
theorem OwnM.cells {w : World} {g cap : Nat} {xs : List Value} (h : OwnM w g cap xs) : ∀ j u, xs[j]? = some u → w.cell? ((⟨g, 0, none⟩ : Addr).add j) = some u := by
  intro j u hu
  obtain ⟨cur, fz, hg, _, _, ht⟩ := h.ex
  have hadd : (⟨g, 0, none⟩ : Addr).add j = ⟨g, j, none⟩ := by unfold Addr.add; split <;> simp_all
  rw [hadd, cell_of_row w g j cur _ fz hg]
  rw [← ht, List.getElem?_take] at hu
  split at hu
  · simpa using hu
  · cases hu
/-- What appending makes. -/
structure App (g : Nat) (xs news : List Value) (w : World) (g' cap' : Nat) (w' : World) : Prop where
  own : OwnM w' g' cap' (xs ++ news)
  kept : Kept [g] w w'
  or_ : g' = g ∨ w.heap.size ≤ g'
theorem App.trans {g g1 c1 g2 c2 : Nat} {xs l m : List Value} {w w1 w2 : World} (h : App g xs l w g1 c1 w1) (k : App g1 (xs ++ l) m w1 g2 c2 w2) : App g xs (l ++ m) w g2 c2 w2 := by
  refine ⟨by rw [← List.append_assoc]; exact k.own, ?_, ?_⟩
  · have h1 : Kept [g, g1] w w1 := h.kept.mono (by simp)
    have h2 : Kept [g, g1] w1 w2 := k.kept.mono (by simp)
    refine (h1.trans h2).less (fun x hx => ?_)
    simp only [List.mem_cons, List.not_mem_nil, or_false] at hx ⊢
    rcases hx with rfl | rfl
    · exact .inl rfl
    · exact h.or_
  · have hs := h.kept.size
    rcases k.or_ with e | e
    · rcases h.or_ with e' | e'
      · exact .inl (by omega)
      · exact .inr (by omega)
    · exact .inr (by omega)
theorem OwnM.room {w : World} {g cap : Nat} {xs : List Value} {cur : Array Value} {fz : Nat × Nat} (news : List Value) (hg : w.heap[g]? = some (.cells cur 5 fz)) (hf : NF fz cap) (hc : cur.size = cap) (ht : cur.toList.take xs.length = xs) (hm : cap ≤ maxLen) (hr : xs.length + news.length ≤ cap) :
    App g xs news w g cap (w.setRow g (cur.toList.take xs.length ++ news ++ cur.toList.drop (xs.length + news.length)).toArray) := by
  refine ⟨⟨⟨_, fz, setRow_heap w g cur _ _ _ hg, hf, ?_, ?_⟩, by simp; omega, hm⟩, ⟨rfl, rfl, rfl, by simp, fun k _ hk => setRow_other w g k _ (fun e => hk (by simp [e]))⟩, .inl rfl⟩
  · simp only [List.size_toArray, List.length_append, List.length_take, List.length_drop, Array.length_toList]
    omega
  · rw [ht]
    exact List.take_left
theorem OwnM.new {w : World} {g : Nat} {xs news : List Value} {old : Nat} {z : Array Value} (hz : z.size = 1) (hl : xs.length + news.length ≤ maxLen) :
    App g xs news w w.heap.size (grownCap w (xs.length + news.length) old 5) (w.drew.alloc (.cells (xs.toArray ++ news.toArray ++ Builtin.zeroCells z (grownCap w (xs.length + news.length) old 5 - (xs.length + news.length))) 5)) := by
  have hge := grownCap_ge w (xs.length + news.length) old 5
  have hcm := grownCap_le_maxLen w (xs.length + news.length) old 5 hl
  refine ⟨⟨⟨_, _, heap_alloc_new w.drew _, .inl rfl, ?_, ?_⟩, by simp; omega, hcm⟩, ⟨rfl, rfl, rfl, by simp, fun k hk _ => heap_alloc_old w.drew _ k hk⟩, .inr (Nat.le_refl _)⟩
  · simp only [Array.size_append, List.size_toArray, size_zeroCells, hz]
    omega
  · simp only [Array.toList_append, List.append_assoc]
    rw [← List.append_assoc]
    exact List.take_left
theorem infoB : (Tryd.prog.info? 5).map (fun i => (i.zero, i.size, i.bytes)) = some (some (.int .u8 0), 1, 1) := by kernel_rfl
theorem run_app_str {w : World} {g cap : Nat} {xs : List Value} (h : OwnM w g cap xs) (s : ByteArray) (ty : TypeId) (hlim : xs.length + s.size ≤ 140737488355328) :
    ∃ g' cap' w', (Builtin.append_ #[45, 9] ty #[.slice (some ⟨g, 0, none⟩) xs.length cap, .string s]).run Tryd.prog w = .ok (.slice (some ⟨g', 0, none⟩) (xs.length + s.size) cap') w' ∧ App g xs (Lib.strCells s) w g' cap' w' := by
  obtain ⟨i, hi, hz, hs1, hby⟩ := info_parts infoB
  obtain ⟨cur, fz, hg, hf, hc, ht⟩ := h.ex
  have hle := h.le
  by_cases hroom : xs.length + s.size ≤ cap
  · have hff := Lib.run_firstCells_string (P := Tryd.prog) w 1 s
    have hst := store_marked g xs.length 5 fz (Lib.strCells s) 0 cur w hg (by rw [hc]; exact hf) (by rw [Lib.strCells_length]; omega) (Lib.strCells_oneCell s)
    simp only [Nat.add_zero, Lib.strCells_length] at hst
    have hA := OwnM.room (news := Lib.strCells s) hg hf hc ht h.mx (by rw [Lib.strCells_length]; exact hroom)
    rw [Lib.strCells_length] at hA
    refine ⟨g, cap, _, ?_, hA⟩
    simp [Builtin.append_, run_underlying Tryd.underlying45, run_underlying Tryd.underlying9, sizeOf, typeInfo, hi, hs1, Builtin.lenOf, hroom, hff, Addr.add_lit, hst]
  · have hr := Lib.run_append_grow_string (P := Tryd.prog) w 45 9 ty 5 i (.int .u8 0) Tryd.underlying45 Tryd.underlying9 hi hz ⟨g, 0, none⟩ xs.length cap xs (by rw [hs1, Nat.mul_one]) h.cells s (by omega) (by omega) (by rw [hby]; exact growslice_fits (by omega) (by omega))
    have hA := OwnM.new (w := w) (g := g) (xs := xs) (news := Lib.strCells s) (old := cap) (z := (Value.int IntKind.u8 0).cells) rfl (by rw [Lib.strCells_length]; unfold maxLen; omega)
    rw [Lib.strCells_length] at hA
    exact ⟨_, _, _, hr, hA⟩
theorem run_app_row {w : World} {g cap : Nat} {xs : List Value} (h : OwnM w g cap xs) (a : Addr) (m c : Nat) (news : List Value) (ty : TypeId) (hl : news.length = m) (hnews : ∀ j u, news[j]? = some u → w.cell? (a.add j) = some u) (h1 : ∀ u ∈ news, u.oneCell' = true) (hlim : xs.length + m ≤ 140737488355328) :
    ∃ g' cap' w', (Builtin.append_ #[45, 45] ty #[.slice (some ⟨g, 0, none⟩) xs.length cap, .slice (some a) m c]).run Tryd.prog w = .ok (.slice (some ⟨g', 0, none⟩) (xs.length + m) cap') w' ∧ App g xs news w g' cap' w' := by
  subst hl
  obtain ⟨i, hi, hz, hs1, hby⟩ := info_parts infoB
  obtain ⟨cur, fz, hg, hf, hc, ht⟩ := h.ex
  have hle := h.le
  by_cases hroom : xs.length + news.length ≤ cap
  · have hff := run_firstCells_some (P := Tryd.prog) w 1 news.length a news.length c news (by omega) hnews
    have hst := store_marked g xs.length 5 fz news 0 cur w hg (by rw [hc]; exact hf) (by omega) h1
    simp only [Nat.add_zero] at hst
    have hA := OwnM.room (news := news) hg hf hc ht h.mx hroom
    refine ⟨g, cap, _, ?_, hA⟩
    simp [Builtin.append_, run_underlying Tryd.underlying45, sizeOf, typeInfo, hi, hs1, Builtin.lenOf, hroom, hff, Addr.add_lit, hst]
  · have hr := run_append_grow (P := Tryd.prog) w 45 ty 5 i (.int .u8 0) Tryd.underlying45 hi hz ⟨g, 0, none⟩ xs.length cap xs (by rw [hs1, Nat.mul_one]) h.cells a news.length c news (by rw [hs1, Nat.mul_one]) hnews (by omega) (by omega) (by rw [hby]; exact growslice_fits (by omega) (by omega))
    have hA := OwnM.new (w := w) (g := g) (xs := xs) (news := news) (old := cap) (z := (Value.int IntKind.u8 0).cells) rfl (by unfold maxLen; omega)
    exact ⟨_, _, _, hr, hA⟩
/-- The operations, for a walk; n is the length as the walk has it. -/
theorem wpList_app_str {ops : Array Oper} {rest : List Oper} {o : Oper} {a : Act} {w : World} {Q : Exit → Act → World → Prop} (hgd : o.guard = none) (sl x : Operand)
    (ho : o.op = .call { callee := .builtin .append, args := #[sl, x], argTypes := #[45, 9] }) {g cap n : Nat} {xs : List Value} (hn : n = xs.length) (hs : a.eval sl = .slice (some ⟨g, 0, none⟩) n cap) (hown : OwnM w g cap xs) (s : ByteArray) (hx : a.eval x = .string s) (hlim : n + s.size ≤ 140737488355328)
    (h : ∀ g' cap' w', App g xs (Lib.strCells s) w g' cap' w' → wpList Tryd.prog ops Q rest (a.put o.dst (.slice (some ⟨g', 0, none⟩) (n + s.size) cap')) w') : wpList Tryd.prog ops Q (o :: rest) a w := by
  subst hn
  refine wpList_plain hgd fun K hK => ?_
  obtain ⟨g', cap', w', hr, hA⟩ := run_app_str hown s o.type hlim
  unfold Oper.wp execOp
  simp only [ho, resolve, invoke, builtin, Sem.run_bind, Sem.run_pure, Result.andThen_ok, List.map_toArray, List.map_cons, List.map_nil, hs, hx, hr]
  exact hK _ _ (h g' cap' w' hA)
theorem wpList_app_row {ops : Array Oper} {rest : List Oper} {o : Oper} {a : Act} {w : World} {Q : Exit → Act → World → Prop} (hgd : o.guard = none) (sl x : Operand)
    (ho : o.op = .call { callee := .builtin .append, args := #[sl, x], argTypes := #[45, 45] }) {g cap n : Nat} {xs : List Value} (hn : n = xs.length) (hs : a.eval sl = .slice (some ⟨g, 0, none⟩) n cap) (hown : OwnM w g cap xs) (ad : Addr) (m c : Nat) (news : List Value) (hx : a.eval x = .slice (some ad) m c)
    (hl : news.length = m) (hnews : ∀ j u, news[j]? = some u → w.cell? (ad.add j) = some u) (h1 : ∀ u ∈ news, u.oneCell' = true) (hlim : n + m ≤ 140737488355328)
    (h : ∀ g' cap' w', App g xs news w g' cap' w' → wpList Tryd.prog ops Q rest (a.put o.dst (.slice (some ⟨g', 0, none⟩) (n + m) cap')) w') : wpList Tryd.prog ops Q (o :: rest) a w := by
  subst hn
  refine wpList_plain hgd fun K hK => ?_
  obtain ⟨g', cap', w', hr, hA⟩ := run_app_row hown ad m c news o.type hl hnews h1 hlim
  unfold Oper.wp execOp
  simp only [ho, resolve, invoke, builtin, Sem.run_bind, Sem.run_pure, Result.andThen_ok, List.map_toArray, List.map_cons, List.map_nil, hs, hx, hr]
  exact hK _ _ (h g' cap' w' hA)
/-- The same, as one step of a region that draws. -/
theorem step_app_str {ops : Array Oper} {o : Oper} {a : Act} {w : World} {K : Act → World → Prop} {Q : Exit → Act → World → Prop} {E : Prop} (hgd : o.guard = none) (sl x : Operand)
    (ho : o.op = .call { callee := .builtin .append, args := #[sl, x], argTypes := #[45, 9] }) {g cap n : Nat} {xs : List Value} (hn : n = xs.length) (hs : a.eval sl = .slice (some ⟨g, 0, none⟩) n cap) (hown : OwnM w g cap xs) (s : ByteArray) (hx : a.eval x = .string s) (hlim : n + s.size ≤ 140737488355328)
    (h : ∀ g' cap' w', App g xs (Lib.strCells s) w g' cap' w' → K (a.put o.dst (.slice (some ⟨g', 0, none⟩) (n + s.size) cap')) w') : if Region.wanted o (yielded ops a.tmps) = true then Oper.wp Tryd.prog o a w K Q else E := by
  subst hn
  have hw : Region.wanted o (yielded ops a.tmps) = true := by simp [Region.wanted, hgd]
  rw [if_pos hw]
  obtain ⟨g', cap', w', hr, hA⟩ := run_app_str hown s o.type hlim
  unfold Oper.wp
  simp [execOp, ho, resolve, invoke, builtin, hs, hx, hr, Result.andThen]
  exact h g' cap' w' hA

/-! ### Numbers -/
abbrev Pow (B : Nat) (w : World) : Prop := Lib.TabBelow Tryd.prog B w "internal/strconv.uint64pow10" .u64 Lib.pow10Tab
def AppPost (g : Nat) (xs : List Value) (l : List UInt8) (w : World) (e : Ending) (w' : World) : Prop := ∃ g' cap', e = .returned (.slice (some ⟨g', 0, none⟩) (xs.length + l.length) cap') ∧ App g xs (Lib.byteCells l) w g' cap' w'
theorem byteCells_app (a b : List UInt8) : Lib.byteCells (a ++ b) = Lib.byteCells a ++ Lib.byteCells b := by simp [Lib.byteCells]
theorem byteCells_one (l : List UInt8) : ∀ u ∈ Lib.byteCells l, u.oneCell' = true := by
  intro u hu
  simp only [Lib.byteCells, List.mem_map] at hu
  obtain ⟨b, _, rfl⟩ := hu
  rfl
theorem dec20 {u : Nat} (h1 : 1 ≤ u) (h : u < 18446744073709551616) : Lib.nDigits u ≤ 20 := by
  have := Lib.numDigits_eq u h1 h
  split at this <;> omega

set_option maxRecDepth 100000 in
set_option maxHeartbeats 4000000 in
theorem app_small (u g cap : Nat) (xs : List Value) (w : World) (hu : u < 100) (hown : OwnM w g cap xs) (hlim : xs.length + 30 ≤ 140737488355328) :
    Calls Tryd.prog 46 #[.slice (some ⟨g, 0, none⟩) xs.length cap, .int .u64 u, .int .i64 10] w (AppPost g xs (Lib.decDigits u) w) := by
  have hlen : (Lib.decDigits u).length ≤ 20 := by
    rw [Lib.decDigits_length]
    by_cases h10 : u < 10
    · rw [Lib.nDigits_small h10]; omega
    · rw [Lib.nDigits_big h10, Lib.nDigits_small (show u / 10 < 10 by omega)]; omega
  have hsz : (⟨(Lib.decDigits u).toArray⟩ : ByteArray).size = (Lib.decDigits u).length := by simp [ByteArray.size]
  have hE : ∀ (e : Ending) (w' : World), (∃ g' cap', e = .returned (.slice (some ⟨g', 0, none⟩) (xs.length + (⟨(Lib.decDigits u).toArray⟩ : ByteArray).size) cap') ∧ App g xs (Lib.strCells ⟨(Lib.decDigits u).toArray⟩) w g' cap' w') → AppPost g xs (Lib.decDigits u) w e w' := by
    rintro e w' ⟨g', cap', h1, h2⟩
    exact ⟨g', cap', by rw [h1, hsz], by rw [← Lib.strCells_toArray]; exact h2⟩
  have HE := Lib.hid hE
  have HS := Lib.hid hsz
  have HL := Lib.hid hlen
  have HO := Lib.hid hown
  have iu : (u : Int) < 100 := by omega
  obtain ⟨n, hn⟩ : ∃ n, xs.length = n := ⟨_, rfl⟩
  rw [hn] at hlim ⊢
  have HN := Lib.hid hn
  clear hsz hlen hown hE hn
  refine Calls.mono (R := fun e w' => ∃ g' cap', e = .returned (.slice (some ⟨g', 0, none⟩) (n + (⟨(Lib.decDigits u).toArray⟩ : ByteArray).size) cap') ∧ App g xs (Lib.strCells ⟨(Lib.decDigits u).toArray⟩) w g' cap' w') ?_ (fun e w' h => HE.out e w' (by rw [HN.out]; exact h))
  go_enter Tryd.func46, Tryd.ntmps46
  go_wp2_with (first
    | (go_at_call 61; refine (Tryd.internal_strconv_small u hu _).mono ?_; rintro e w' ⟨rfl, rfl⟩)
    | (at_builtin; refine wpList_app_str rfl _ _ rfl HN.out.symm rfl HO.out ⟨(Lib.decDigits u).toArray⟩ rfl (by have := HS.out; have := HL.out; omega) ?_))
  intro g' cap' w1 hA
  go_wp2
  go_ret
  exact ⟨g', cap', rfl, hA⟩

set_option maxRecDepth 100000 in
set_option maxHeartbeats 8000000 in
theorem app_big (u B g cap : Nat) (xs : List Value) (w : World) (hu : 100 ≤ u) (hu64 : u < 18446744073709551616) (hown : OwnM w g cap xs) (hlim : xs.length + 30 ≤ 140737488355328) (htab : Lib.TabIs Tryd.prog w "internal/strconv.uint64pow10" .u64 Lib.pow10Tab) :
    Calls Tryd.prog 46 #[.slice (some ⟨g, 0, none⟩) xs.length cap, .int .u64 u, .int .i64 10] w (AppPost g xs (Lib.decDigits u) w) := by
  have hu1 : 1 ≤ u := by omega
  have hnd := dec20 hu1 hu64
  have hal : Tryd.prog.arrayLen 104 = 24 := by simp [Program.arrayLen, Tryd.underlying104]
  have hsl : ∀ W, (Instr.sliceAt 104 (.pointer (some ⟨w.heap.size, 0, none⟩)) none (some (.int .i64 (Lib.nDigits u : Int))) none).run Tryd.prog W = .ok (.slice (some ⟨w.heap.size, 0, none⟩) (Lib.nDigits u) 24) W := fun W => by
    rw [run_sliceAt_array_h W 104 ⟨w.heap.size, 0, none⟩ (by simp [Program.arrayLen, Program.elem, Tryd.underlying104]) .i64 (Lib.nDigits u : Int) (by omega) (by rw [hal]; omega)]
    go_simp
  have hH0 := Lib.holds_zero0 w 104 (Lib.nDigits u) (by omega)
  have hfmt := Tryd.internal_strconv_formatBase10 w.heap.size 0 24 u (Array.replicate (Lib.nDigits u) 0) (w.alloc (.cells Lib.zeros24 104)) hH0 (by rw [Array.size_replicate]; exact Lib.lt_pow_nDigits u) hu64 (by rw [Array.size_replicate]; omega)
  rw [Array.size_replicate] at hfmt
  have HH0 := Lib.hid hH0
  have iu : (100 : Int) ≤ (u : Int) := by omega
  have HO := Lib.hid hown
  have htab2 := Lib.hid (Lib.tabIs_alloc htab (.cells Lib.zeros24 104))
  clear hH0 hal hown htab
  go_enter Tryd.func46, Tryd.ntmps46
  go_wp2_with (first
    | (go_at_call 62; refine (Tryd.internal_strconv_numDigits u hu1 hu64 _ htab2.out).mono ?_; rintro e w' ⟨rfl, rfl⟩))
  go_at_call 63
  refine hfmt.mono ?_
  rintro e w' ⟨rfl, k, v', dk, rfl, hF⟩
  obtain ⟨os, eo⟩ := Lib.fin_at w (.cells Lib.zeros24 104) dk k 0
  have hcells : ∀ j u', (Lib.byteCells (Lib.decDigits u))[j]? = some u' → ((putRow (fun (b : UInt8) => Value.int .u8 (b.toNat : Int)) (w.alloc (.cells Lib.zeros24 104)) w.heap.size 0 dk).drewN k).cell? ((⟨w.heap.size, 0, none⟩ : Addr).add j) = some u' := by
    intro j u' hj
    have hjl : j < (Lib.decDigits u).length := by
      have h5 := (List.getElem?_eq_some_iff.1 hj).1
      rwa [Lib.byteCells_length] at h5
    have e5 : (Lib.byteCells (Lib.decDigits u))[j]? = some (Value.int .u8 ((Lib.decDigits u)[j].toNat : Int)) := by simp [Lib.byteCells, hjl]
    rw [e5] at hj
    cases hj
    rw [Lib.row_is_numeral hF j hjl, Lib.add_plain, World.cell?_drewN]
    exact cell?_putRow (fun (b : UInt8) => Value.int .u8 (b.toNat : Int)) _ w.heap.size 0 _ dk HH0.out (by rw [hF.size, Array.size_replicate]) j (by rw [hF.size]; rw [Lib.decDigits_length] at hjl; exact hjl)
  have hb2 : Below w.heap.size w ((putRow (fun (b : UInt8) => Value.int .u8 (b.toNat : Int)) (w.alloc (.cells Lib.zeros24 104)) w.heap.size 0 dk).drewN k) := by rw [eo]; exact Lib.below_grow w.heap.size w (Nat.le_refl _) k os
  generalize (putRow (fun (b : UInt8) => Value.int .u8 (b.toNat : Int)) (w.alloc (.cells Lib.zeros24 104)) w.heap.size 0 dk).drewN k = W2 at hcells hb2 ⊢
  have HO2 := Lib.hid (HO.out.later hb2)
  have HC := Lib.hid hcells
  have HB2 := Lib.hid hb2
  have hln : (Lib.byteCells (Lib.decDigits u)).length = Lib.nDigits u := by rw [Lib.byteCells_length, Lib.decDigits_length]
  have HLN := Lib.hid hln
  obtain ⟨n, hn⟩ : ∃ n, xs.length = n := ⟨_, rfl⟩
  rw [hn] at hlim ⊢
  have HN := Lib.hid hn
  clear eo HH0 hfmt hcells hb2 hln hF hn
  go_wp2_with (at_builtin; refine wpList_app_row rfl _ _ rfl HN.out.symm rfl HO2.out ⟨w.heap.size, 0, none⟩ (Lib.nDigits u) 24 (Lib.byteCells (Lib.decDigits u)) rfl HLN.out HC.out (byteCells_one _) (by omega) ?_)
  intro g' cap' w3 hA
  go_wp2
  go_ret
  refine ⟨g', cap', by rw [HN.out, Lib.decDigits_length]; rfl, ⟨hA.own, ?_, ?_⟩⟩
  · exact (Kept.of [g] HB2.out).trans hA.kept
  · rcases hA.or_ with h | h
    · exact .inl h
    · exact .inr (Nat.le_trans HB2.out.size h)
theorem app_uint (u g cap : Nat) (xs : List Value) (w : World) (hu64 : u < 18446744073709551616) (hown : OwnM w g cap xs) (hlim : xs.length + 30 ≤ 140737488355328) (htab : Lib.TabIs Tryd.prog w "internal/strconv.uint64pow10" .u64 Lib.pow10Tab) :
    Calls Tryd.prog 46 #[.slice (some ⟨g, 0, none⟩) xs.length cap, .int .u64 u, .int .i64 10] w (AppPost g xs (Lib.decDigits u) w) := by
  by_cases h : u < 100
  · exact app_small u g cap xs w h hown hlim
  · exact app_big u 0 g cap xs w (by omega) hu64 hown hlim htab
theorem one_new (W : World) : ∀ j u', [Value.int .u8 45][j]? = some u' → (W.alloc (.cells #[.int .u8 45] 5)).cell? ((⟨W.heap.size, 0, none⟩ : Addr).add j) = some u' := by
  intro j u' hj
  match j, hj with
  | 0, hj => simp at hj; subst hj; simp [Addr.add]
set_option maxRecDepth 100000 in
set_option maxHeartbeats 8000000 in
theorem app_iint (B g cap : Nat) (xs : List Value) (i : Int) (w : World) (hi : in64 i) (hown : OwnM w g cap xs) (hB : B ≤ g) (hlim : xs.length + 40 ≤ 140737488355328) (htab : Pow B w) :
    Calls Tryd.prog 32 #[.slice (some ⟨g, 0, none⟩) xs.length cap, .int .i64 i, .int .i64 10] w (AppPost g xs (Lib.itoa i) w) := by
  obtain ⟨hi1, hi2⟩ := hi
  have hglt := hown.lt
  by_cases hneg : i < 0
  · obtain ⟨u, rfl⟩ : ∃ u : Nat, i = -(u : Int) := ⟨i.natAbs, by omega⟩
    have hu1 : 1 ≤ u := by omega
    have hu64 : u < 18446744073709551616 := by omega
    have hwr : IntKind.u64.wrap (-IntKind.u64.wrap (-(u : Int))) = (u : Int) := by rw [IntKind.wrap_u64, IntKind.wrap_u64]; omega
    rw [Lib.itoa_neg u hu1]
    obtain ⟨n, hn⟩ : ∃ n, xs.length = n := ⟨_, rfl⟩
    rw [hn] at hlim ⊢
    have HN := Lib.hid hn
    have HT := Lib.hid htab
    have HO := Lib.hid (hown.later ((Below.refl _ _).alloc (Nat.le_refl _) (.cells #[.int .u8 45] 5)))
    clear htab hown hn
    go_enter Tryd.func32, Tryd.ntmps32
    go_wp2_with (at_builtin; refine wpList_app_row rfl _ _ rfl HN.out.symm rfl HO.out ⟨w.heap.size, 0, none⟩ 1 1 [Value.int .u8 45] rfl rfl (one_new w) (by intro u' hu'; simp at hu'; subst hu'; rfl) (by omega) ?_)
    intro g1 c1 w1 hA
    have hA0 : App g xs [Value.int .u8 45] w g1 c1 w1 := by
      have hb : Below w.heap.size w (w.alloc (.cells #[.int .u8 45] 5)) := (Below.refl _ _).alloc (Nat.le_refl _) _
      refine ⟨hA.own, (Kept.of [g] hb).trans hA.kept, ?_⟩
      rcases hA.or_ with h | h
      · exact .inl h
      · exact .inr (Nat.le_trans hb.size h)
    have hT1 : Lib.TabIs Tryd.prog w1 "internal/strconv.uint64pow10" .u64 Lib.pow10Tab := (HT.out.on (hA0.kept.below (by omega) (by simp; omega))).here
    have K := app_uint u g1 c1 (xs ++ [Value.int .u8 45]) w1 hu64 hA0.own (by simp; have := HN.out; omega) hT1
    rw [show (xs ++ [Value.int .u8 45]).length = n + 1 by simp [HN.out]] at K
    have KH := Lib.hid K
    have HA := Lib.hid hA0
    clear K hA hA0 hT1
    go_wp2_with (go_at_call 46; refine KH.out.mono ?_; rintro e w2 ⟨g2, c2, rfl, hA2⟩)
    go_wp2
    go_ret
    refine ⟨g2, c2, ?_, HA.out.trans hA2⟩
    simp [HN.out]
    omega
  · obtain ⟨u, rfl⟩ : ∃ u : Nat, i = u := ⟨i.toNat, by omega⟩
    have hu64 : u < 18446744073709551616 := by omega
    rw [Lib.itoa_nonneg]
    have KH := Lib.hid (app_uint u g cap xs w hu64 hown (by omega) htab.here)
    clear htab hown
    go_enter Tryd.func32, Tryd.ntmps32
    go_wp2_with (go_at_call 46; refine KH.out.mono ?_; rintro e w2 ⟨g2, c2, rfl, hA2⟩)
    go_wp2
    go_ret
    exact ⟨g2, c2, rfl, hA2⟩
set_option maxRecDepth 100000 in
theorem app_int (B g cap : Nat) (xs : List Value) (i : Int) (w : World) (hi : in64 i) (hown : OwnM w g cap xs) (hB : B ≤ g) (hlim : xs.length + 40 ≤ 140737488355328) (htab : Pow B w) :
    Calls Tryd.prog 24 #[.slice (some ⟨g, 0, none⟩) xs.length cap, .int .i64 i, .int .i64 10] w (AppPost g xs (Lib.itoa i) w) := by
  have KH := Lib.hid (app_iint B g cap xs i w hi hown hB hlim htab)
  clear htab hown
  go_enter Tryd.func24, Tryd.ntmps24
  go_wp2_with (go_at_call 32; refine KH.out.mono ?_; rintro e w2 ⟨g2, c2, rfl, hA2⟩)
  go_wp2
  go_ret
  exact ⟨g2, c2, rfl, hA2⟩
end Go.Proofs.YtlelnoalajeihaaDoor
