/- The map of closures by fields' words; a line that is being read. -/
import Derived.Test.YtlelnoalajeihaaDoorRd
import Derived.Test.YtlelnoalajeihaaDoorMaps
import Derived.Maps.OwnSet
namespace Go.Proofs.YtlelnoalajeihaaDoor
open Go.RowKit
set_option linter.unusedVariables false
set_option linter.unusedSimpArgs false

/-- The fields that were not there yet. -/
def restK (F : Fl) : List Nat := [0, 1, 2, 3, 4, 5].filter fun k => (F k).isNone
theorem mem_restK {F : Fl} {k : Nat} : k ∈ restK F ↔ k < 6 ∧ F k = none := by
  unfold restK
  rw [List.mem_filter]
  simp only [List.mem_cons, List.not_mem_nil, or_false, Option.isNone_iff_eq_none]
  constructor
  · rintro ⟨h, h2⟩; exact ⟨by omega, h2⟩
  · rintro ⟨h, h2⟩; exact ⟨by omega, h2⟩
theorem restK_fset (F : Fl) (k n : Nat) : restK (fset F k n) = (restK F).filter fun i => decide (i ≠ k) := by
  unfold restK
  rw [List.filter_filter]
  congr 1
  funext i
  by_cases h : i = k
  · subst h; simp [fset]
  · simp [fset, h]
theorem erase_at : ∀ (ks : List Nat) (j k : Nat), ks.Nodup → ks[j]? = some k → ks.eraseIdx j = ks.filter fun i => decide (i ≠ k)
  | [], j, k, _, h => by simp at h
  | a :: r, 0, k, hn, h => by
    obtain rfl : a = k := by simpa using h
    rw [List.eraseIdx_cons_zero, List.filter_cons_of_neg (by simp), List.filter_eq_self.2]
    intro i hi
    have := (List.nodup_cons.1 hn).1
    simp only [ne_eq, decide_not, Bool.not_eq_eq_eq_not, Bool.not_true, decide_eq_false_iff_not]
    rintro rfl
    exact this hi
  | a :: r, j + 1, k, hn, h => by
    have h' : r[j]? = some k := by simpa using h
    have ih := erase_at r j k (List.nodup_cons.1 hn).2 h'
    have : a ≠ k := by
      rintro rfl
      exact (List.nodup_cons.1 hn).1 (List.mem_of_getElem? h')
    rw [List.eraseIdx_cons_succ, ih, List.filter_cons_of_pos (by simpa using this)]

/-- Which function sets a field. -/
def fid (k : Nat) : FuncId := match k with
  | 0 => 52
  | 1 => 53
  | 2 => 54
  | 3 => 55
  | 4 => 56
  | _ => 57
/-- What sets a field's number: bx holds where the task is. -/
def closV (bx k : Nat) : Value := .func (.func (fid k)) #[] #[.pointer (some ⟨bx, 0, none⟩)]
def entries (bx : Nat) (ks : List Nat) : List (Value × Value) := ks.map fun k => (.string (bs (wordAt k)), closV bx k)
/-- Block bm is the map of what sets the fields that were not there yet. -/
def MapF (w : World) (bm bx : Nat) (F : Fl) : Prop := ∃ es c, w.heap[bm]? = some (.map es c) ∧ es.toList.map (fun e => (e.key, e.val)) = entries bx (restK F)
theorem MapF.lt {w : World} {bm bx : Nat} {F : Fl} (h : MapF w bm bx F) : bm < w.heap.size := by
  obtain ⟨es, c, h1, _⟩ := h
  exact (Array.getElem?_eq_some_iff.1 h1).1
theorem MapF.kept {X : List Nat} {w w' : World} {bm bx : Nat} {F : Fl} (h : MapF w bm bx F) (hk : Kept X w w') (hb : bm ∉ X) : MapF w' bm bx F := by
  have hl := h.lt
  obtain ⟨es, c, h1, h2⟩ := h
  exact ⟨es, c, (hk.block bm hl hb).trans h1, h2⟩

theorem bs_ne {a b : List UInt8} (h : a ≠ b) : (bs a == bs b) = false := by
  rw [ba_beq]
  exact decide_eq_false (fun e => h (by rw [← bs_toList a, e, bs_toList]))
theorem find_word (t : List UInt8) (bx : Nat) : ∀ (es : List MapEntry) (ks : List Nat) (i : Nat), es.map (fun e => (e.key, e.val)) = entries bx ks → (∀ k ∈ ks, k < 6) →
    (∀ k ∈ ks, t = wordAt k → ∃ j, ks[j]? = some k ∧ Instr.findNow .string (.string (bs t)) es i = some (some (i + j, closV bx k))) ∧ ((∀ k ∈ ks, t ≠ wordAt k) → Instr.findNow .string (.string (bs t)) es i = some none)
  | [], ks, i, h, _ => by
    cases ks with
    | nil => exact ⟨fun k h => by simp at h, fun _ => rfl⟩
    | cons a r => simp [entries] at h
  | e :: es, ks, i, h, h6 => by
    cases ks with
    | nil => simp [entries] at h
    | cons a r =>
      simp only [List.map_cons, entries, List.cons.injEq, Prod.mk.injEq] at h
      obtain ⟨⟨h1, h1'⟩, h2⟩ := h
      have ih := find_word t bx es r (i + 1) h2 (fun k hk => h6 k (List.mem_cons_of_mem _ hk))
      unfold Instr.findNow
      rw [h1]
      simp only [Instr.sameNow]
      by_cases hs : t = wordAt a
      · have hb : (bs t == bs (wordAt a)) = true := by rw [ba_beq, hs]; simp
        simp only [hb]
        refine ⟨fun k hk ht => ?_, fun hn => absurd hs (hn a (by simp))⟩
        obtain rfl : a = k := wordAt_inj a (h6 a (by simp)) k (h6 k hk) (hs.symm.trans ht)
        exact ⟨0, by simp, by rw [h1']; rfl⟩
      · simp only [bs_ne hs]
        refine ⟨fun k hk ht => ?_, fun hn => ih.2 (fun k hk => hn k (List.mem_cons_of_mem _ hk))⟩
        rcases List.mem_cons.1 hk with rfl | hk
        · exact absurd ht hs
        · obtain ⟨j, hj, hf⟩ := ih.1 k hk ht
          exact ⟨j + 1, by simpa using hj, by rw [hf]; congr 3; omega⟩
theorem restK_nodup (F : Fl) : (restK F).Nodup := List.Nodup.sublist List.filter_sublist (by decide)

theorem map_erase {α β : Type} (f : α → β) : ∀ (l : List α) (j : Nat), (l.eraseIdx j).map f = (l.map f).eraseIdx j
  | [], j => by simp
  | a :: r, 0 => by simp
  | a :: r, j + 1 => by simp [map_erase f r j]
theorem look_yes {w : World} {bm bx : Nat} {F : Fl} (h : MapF w bm bx F) {t : List UInt8} {k : Nat} (hf : fieldIx t = some k) (hk : (F k).isSome = false) :
    (Instr.lookup 82 (.map (some bm)) (.string (bs t)) true).run Tryd.prog w = .ok (.tuple #[closV bx k, .bool true]) w := by
  obtain ⟨es, c, h1, h2⟩ := h
  obtain ⟨hk6, ht⟩ := fieldIx_some hf
  have hg := getObj_map h1
  obtain ⟨j, _, hfe⟩ := (find_word t bx es.toList (restK F) 0 h2 (fun k hk => (mem_restK.1 hk).1)).1 k (mem_restK.2 ⟨hk6, by cases e : F k <;> simp [e] at hk ⊢⟩) ht
  simp [Instr.lookup, hg, checkKey_str, Instr.findKey, hfe]
theorem look_not {w : World} {bm bx : Nat} {F : Fl} (h : MapF w bm bx F) {t : List UInt8} (hf : ∀ k, fieldIx t = some k → (F k).isSome = true) :
    (Instr.lookup 82 (.map (some bm)) (.string (bs t)) true).run Tryd.prog w = .ok (.tuple #[.nilFunc, .bool false]) w := by
  obtain ⟨es, c, h1, h2⟩ := h
  have hg := getObj_map h1
  have hz : (zeroValue 99).run Tryd.prog w = .ok .nilFunc w := by kernel_rfl
  have hfe := (find_word t bx es.toList (restK F) 0 h2 (fun k hk => (mem_restK.1 hk).1)).2 (fun k hk e => by
    obtain ⟨hk6, hn⟩ := mem_restK.1 hk
    have := hf k (by rw [e]; exact fieldIx_word k hk6)
    rw [hn] at this
    cases this)
  simp [Instr.lookup, hg, checkKey_str, Instr.findKey, hfe, hz]
theorem drop_word {w : World} {bm bx : Nat} {F : Fl} (h : MapF w bm bx F) {t : List UInt8} {k : Nat} (hf : fieldIx t = some k) (hk : (F k).isSome = false) (n : Nat) :
    ∃ o, (∀ ty, (Builtin.delete_ #[82, 9] ty #[.map (some bm), .string (bs t)]).run Tryd.prog w = .ok (.tuple #[]) (w.putObj bm o)) ∧ MapF (w.putObj bm o) bm bx (fset F k n) := by
  have hlt := h.lt
  obtain ⟨es, c, h1, h2⟩ := h
  obtain ⟨hk6, ht⟩ := fieldIx_some hf
  have hg := getObj_map h1
  have hs := setObj_map h1
  obtain ⟨j, hj, hfe⟩ := (find_word t bx es.toList (restK F) 0 h2 (fun k hk => (mem_restK.1 hk).1)).1 k (mem_restK.2 ⟨hk6, by cases e : F k <;> simp [e] at hk ⊢⟩) ht
  rw [Nat.zero_add] at hfe
  refine ⟨.map (es.eraseIdxIfInBounds j) c, fun ty => by simp [Builtin.delete_, hg, checkKey_str, Instr.findKey, hfe, hs], _, _, World.putObj_heap_same hlt, ?_⟩
  rw [restK_fset, ← erase_at _ j k (restK_nodup F) hj, entries, map_erase, ← entries, ← h2, Array.toList_eraseIdxIfInBounds, map_erase]

/-- A line that is being read. -/
structure LineSt (w : World) (bt bx bm : Nat) (nm : List UInt8) (F : Fl) : Prop where
  task : w.heap[bt]? = some (.cells (tsL (partT nm F)).toArray 29 (0, 0))
  box : w.heap[bx]? = some (.cells #[.pointer (some ⟨bt, 0, none⟩)] 84 (0, 0))
  map : MapF w bm bx F
theorem LineSt.kept {X : List Nat} {w w' : World} {bt bx bm : Nat} {nm : List UInt8} {F : Fl} (h : LineSt w bt bx bm nm F) (hk : Kept X w w') (h1 : bt ∉ X) (h2 : bx ∉ X) (h3 : bm ∉ X) : LineSt w' bt bx bm nm F :=
  ⟨(hk.block bt (Array.getElem?_eq_some_iff.1 h.task).1 h1).trans h.task, (hk.block bx (Array.getElem?_eq_some_iff.1 h.box).1 h2).trans h.box, h.map.kept hk h3⟩
theorem LineSt.later {w w' : World} {bt bx bm : Nat} {nm : List UInt8} {F : Fl} (h : LineSt w bt bx bm nm F) (hb : Below w.heap.size w w') : LineSt w' bt bx bm nm F := h.kept (Kept.of [] hb) (by simp) (by simp) (by simp)
theorem LineSt.tlt {w : World} {bt bx bm : Nat} {nm : List UInt8} {F : Fl} (h : LineSt w bt bx bm nm F) : bt < w.heap.size := (Array.getElem?_eq_some_iff.1 h.task).1
theorem LineSt.xlt {w : World} {bt bx bm : Nat} {nm : List UInt8} {F : Fl} (h : LineSt w bt bx bm nm F) : bx < w.heap.size := (Array.getElem?_eq_some_iff.1 h.box).1
theorem LineSt.bcell {w : World} {bt bx bm : Nat} {nm : List UInt8} {F : Fl} (h : LineSt w bt bx bm nm F) : w.cell? ⟨bx, 0, none⟩ = some (.pointer (some ⟨bt, 0, none⟩)) := by rw [cell_of_row w bx 0 _ _ _ h.box]; rfl
theorem LineSt.tcell {w : World} {bt bx bm : Nat} {nm : List UInt8} {F : Fl} (h : LineSt w bt bx bm nm F) (i : Nat) : w.cell? ⟨bt, i, none⟩ = (tsL (partT nm F))[i]? := by rw [cell_of_row w bt i _ _ _ h.task]; simp
theorem LineSt.tfr {w : World} {bt bx bm : Nat} {nm : List UInt8} {F : Fl} (h : LineSt w bt bx bm nm F) (i : Nat) : w.frozen? ⟨bt, i, none⟩ = false := frozen_of_row w bt i _ _ h.task

/-! ### The closures -/
def closPost (bt k : Nat) (n : Int) (w : World) (e : Ending) (w' : World) : Prop := e = .returned (.tuple #[]) ∧ w' = w.setCell ⟨bt, k + 1, none⟩ (.int .i64 n)
set_option maxRecDepth 100000 in
theorem clos0_any {bt bx : Nat} {v : Value} (n : Int) {w : World} (hb : w.cell? ⟨bx, 0, none⟩ = some (.pointer (some ⟨bt, 0, none⟩))) (hc : w.cell? ⟨bt, 1, none⟩ = some v) (hf : w.frozen? ⟨bt, 1, none⟩ = false) :
    Calls Tryd.prog 52 #[.int .i64 n, .pointer (some ⟨bx, 0, none⟩)] w (closPost bt 0 n w) := by
  go_enter Tryd.func52, Tryd.ntmps52
  go_wp2
  exact bodyPost_ret (v := .tuple #[]) (by simp [results, Tryd.results52, go_sem]) rfl ⟨rfl, rfl⟩
set_option maxRecDepth 100000 in
theorem clos1_any {bt bx : Nat} {v : Value} (n : Int) {w : World} (hb : w.cell? ⟨bx, 0, none⟩ = some (.pointer (some ⟨bt, 0, none⟩))) (hc : w.cell? ⟨bt, 2, none⟩ = some v) (hf : w.frozen? ⟨bt, 2, none⟩ = false) :
    Calls Tryd.prog 53 #[.int .i64 n, .pointer (some ⟨bx, 0, none⟩)] w (closPost bt 1 n w) := by
  go_enter Tryd.func53, Tryd.ntmps53
  go_wp2
  exact bodyPost_ret (v := .tuple #[]) (by simp [results, Tryd.results53, go_sem]) rfl ⟨rfl, rfl⟩
set_option maxRecDepth 100000 in
theorem clos2_any {bt bx : Nat} {v : Value} (n : Int) {w : World} (hb : w.cell? ⟨bx, 0, none⟩ = some (.pointer (some ⟨bt, 0, none⟩))) (hc : w.cell? ⟨bt, 3, none⟩ = some v) (hf : w.frozen? ⟨bt, 3, none⟩ = false) :
    Calls Tryd.prog 54 #[.int .i64 n, .pointer (some ⟨bx, 0, none⟩)] w (closPost bt 2 n w) := by
  go_enter Tryd.func54, Tryd.ntmps54
  go_wp2
  exact bodyPost_ret (v := .tuple #[]) (by simp [results, Tryd.results54, go_sem]) rfl ⟨rfl, rfl⟩
set_option maxRecDepth 100000 in
theorem clos3_any {bt bx : Nat} {v : Value} (n : Int) {w : World} (hb : w.cell? ⟨bx, 0, none⟩ = some (.pointer (some ⟨bt, 0, none⟩))) (hc : w.cell? ⟨bt, 4, none⟩ = some v) (hf : w.frozen? ⟨bt, 4, none⟩ = false) :
    Calls Tryd.prog 55 #[.int .i64 n, .pointer (some ⟨bx, 0, none⟩)] w (closPost bt 3 n w) := by
  go_enter Tryd.func55, Tryd.ntmps55
  go_wp2
  exact bodyPost_ret (v := .tuple #[]) (by simp [results, Tryd.results55, go_sem]) rfl ⟨rfl, rfl⟩
set_option maxRecDepth 100000 in
theorem clos4_any {bt bx : Nat} {v : Value} (n : Int) {w : World} (hb : w.cell? ⟨bx, 0, none⟩ = some (.pointer (some ⟨bt, 0, none⟩))) (hc : w.cell? ⟨bt, 5, none⟩ = some v) (hf : w.frozen? ⟨bt, 5, none⟩ = false) :
    Calls Tryd.prog 56 #[.int .i64 n, .pointer (some ⟨bx, 0, none⟩)] w (closPost bt 4 n w) := by
  go_enter Tryd.func56, Tryd.ntmps56
  go_wp2
  exact bodyPost_ret (v := .tuple #[]) (by simp [results, Tryd.results56, go_sem]) rfl ⟨rfl, rfl⟩
set_option maxRecDepth 100000 in
theorem clos5_any {bt bx : Nat} {v : Value} (n : Int) {w : World} (hb : w.cell? ⟨bx, 0, none⟩ = some (.pointer (some ⟨bt, 0, none⟩))) (hc : w.cell? ⟨bt, 6, none⟩ = some v) (hf : w.frozen? ⟨bt, 6, none⟩ = false) :
    Calls Tryd.prog 57 #[.int .i64 n, .pointer (some ⟨bx, 0, none⟩)] w (closPost bt 5 n w) := by
  go_enter Tryd.func57, Tryd.ntmps57
  go_wp2
  exact bodyPost_ret (v := .tuple #[]) (by simp [results, Tryd.results57, go_sem]) rfl ⟨rfl, rfl⟩
theorem clos_any {bt bx bm k : Nat} {nm : List UInt8} {F : Fl} (n : Int) {w : World} (h : LineSt w bt bx bm nm F) (hk : k < 6) :
    Calls Tryd.prog (fid k) #[.int .i64 n, .pointer (some ⟨bx, 0, none⟩)] w (closPost bt k n w) := by
  rcases (by omega : k = 0 ∨ k = 1 ∨ k = 2 ∨ k = 3 ∨ k = 4 ∨ k = 5) with rfl | rfl | rfl | rfl | rfl | rfl
  · exact clos0_any n h.bcell (h.tcell 1) (h.tfr 1)
  · exact clos1_any n h.bcell (h.tcell 2) (h.tfr 2)
  · exact clos2_any n h.bcell (h.tcell 3) (h.tfr 3)
  · exact clos3_any n h.bcell (h.tcell 4) (h.tfr 4)
  · exact clos4_any n h.bcell (h.tcell 5) (h.tfr 5)
  · exact clos5_any n h.bcell (h.tcell 6) (h.tfr 6)
/-- Behind a closure's store, and the drop of its word. -/
theorem LineSt.next {w : World} {bt bx bm k n : Nat} {nm : List UInt8} {F : Fl} {o : Obj} (h : LineSt w bt bx bm nm F) (hk : k < 6) (htx : bt ≠ bx) (htm : bt ≠ bm) (hxm : bx ≠ bm)
    (hm : MapF ((w.setCell ⟨bt, k + 1, none⟩ (.int .i64 (n : Int))).putObj bm o) bm bx (fset F k n)) : LineSt ((w.setCell ⟨bt, k + 1, none⟩ (.int .i64 (n : Int))).putObj bm o) bt bx bm nm (fset F k n) := by
  refine ⟨?_, ?_, hm⟩
  · rw [World.putObj_heap_other htm, heap_setCell_same _ bt (k + 1) _ _ _ h.task]
    rcases (by omega : k = 0 ∨ k = 1 ∨ k = 2 ∨ k = 3 ∨ k = 4 ∨ k = 5) with rfl | rfl | rfl | rfl | rfl | rfl <;> simp [tsL, partT, fv, fset]
  · rw [World.putObj_heap_other hxm, heap_setCell_other _ _ bx _ (by simp only; omega)]
    exact h.box

/-! ### The map, made -/
def mapN (bx n : Nat) : Array MapEntry := ((List.range n).map fun k => { key := .string (bs (wordAt k)), val := closV bx k, born := k }).toArray
theorem ins_word {w : World} {bm bx n : Nat} (h : w.heap[bm]? = some (.map (mapN bx n) n)) (hn : n < 6) :
    (Instr.mapUpdate 82 (.map (some bm)) (.string (bs (wordAt n))) (closV bx n)).run Tryd.prog w = .ok () (w.putObj bm (.map (mapN bx (n + 1)) (n + 1))) := by
  have hg := getObj_map h
  have hs := setObj_map h
  have he : (mapN bx n).toList.map (fun e => (e.key, e.val)) = entries bx (List.range n) := by simp [mapN, entries]
  have hfe := (find_word (wordAt n) bx (mapN bx n).toList (List.range n) 0 he (fun k hk => by simp at hk; omega)).2 (fun k hk e => by
    simp at hk
    have := wordAt_inj n hn k (by omega) e
    omega)
  have e : mapN bx (n + 1) = (mapN bx n).push { key := .string (bs (wordAt n)), val := closV bx n, born := n } := by simp [mapN, List.range_succ]
  rw [e]
  clear e he h
  generalize mapN bx n = es at *
  simp [Instr.mapUpdate, hg, checkKey_str, Instr.findKey, hfe, hs]
theorem put_put (w : World) (b : Nat) (o o' : Obj) : (w.putObj b o).putObj b o' = w.putObj b o' := by
  simp [World.putObj]
def FieldsPost (bt : Nat) (w : World) (e : Ending) (w' : World) : Prop := e = .returned (.map (some (w.heap.size + 1))) ∧ MapF w' (w.heap.size + 1) w.heap.size fnone ∧ w'.heap[w.heap.size]? = some (.cells #[.pointer (some ⟨bt, 0, none⟩)] 84 (0, 0)) ∧ Below w.heap.size w w'
theorem mapN_fields {w : World} {bm bx : Nat} (h : w.heap[bm]? = some (.map (mapN bx 6) 6)) : MapF w bm bx fnone :=
  ⟨_, _, h, by simp [mapN, entries, restK, fnone]; rfl⟩
set_option maxRecDepth 100000 in
set_option maxHeartbeats 2000000 in
theorem fields_any (bt : Nat) (w : World) : Calls Tryd.prog 37 #[.pointer (some ⟨bt, 0, none⟩)] w (FieldsPost bt w) := by
  obtain ⟨W0, hW0, m0, x0, b0, hs0⟩ : ∃ W0, (w.alloc (.cells #[.pointer (some ⟨bt, 0, none⟩)] 84)).alloc (.map #[] 0) = W0 ∧ W0.heap[w.heap.size + 1]? = some (.map (mapN w.heap.size 0) 0) ∧ W0.heap[w.heap.size]? = some (.cells #[.pointer (some ⟨bt, 0, none⟩)] 84 (0, 0)) ∧ Below w.heap.size w W0 ∧ w.heap.size + 1 < W0.heap.size := by
    refine ⟨_, rfl, ?_, ?_, ((Below.refl _ _).alloc (Nat.le_refl _) _).alloc (by simp) _, by simp⟩
    · have := heap_alloc_new (w.alloc (.cells #[.pointer (some ⟨bt, 0, none⟩)] 84)) (.map #[] 0)
      rw [World.size_alloc] at this
      exact this
    · rw [Below.heap_alloc _ _ _ (by simp)]
      exact heap_alloc_new w _
  have hmm := @run_makeMap Tryd.prog
  have i0 : (Instr.mapUpdate 82 (.map (some (w.heap.size + 1))) (.string { data := #[99] }) (.func (.func 52) #[] #[.pointer (some ⟨w.heap.size, 0, none⟩)])).run Tryd.prog W0 = .ok () (W0.putObj (w.heap.size + 1) (.map (mapN w.heap.size 1) 1)) := ins_word m0 (by omega)
  have hp : ∀ (k : Nat), ((W0.putObj (w.heap.size + 1) (.map (mapN w.heap.size k) k)).heap[w.heap.size + 1]? = some (.map (mapN w.heap.size k) k)) := fun k => World.putObj_heap_same hs0
  have i1 : (Instr.mapUpdate 82 (.map (some (w.heap.size + 1))) (.string { data := #[116] }) (.func (.func 53) #[] #[.pointer (some ⟨w.heap.size, 0, none⟩)])).run Tryd.prog (W0.putObj (w.heap.size + 1) (.map (mapN w.heap.size 1) 1)) = .ok () ((W0.putObj (w.heap.size + 1) (.map (mapN w.heap.size 1) 1)).putObj (w.heap.size + 1) (.map (mapN w.heap.size 2) 2)) := ins_word (hp 1) (by omega)
  have i2 : (Instr.mapUpdate 82 (.map (some (w.heap.size + 1))) (.string { data := #[100] }) (.func (.func 54) #[] #[.pointer (some ⟨w.heap.size, 0, none⟩)])).run Tryd.prog (W0.putObj (w.heap.size + 1) (.map (mapN w.heap.size 2) 2)) = .ok () ((W0.putObj (w.heap.size + 1) (.map (mapN w.heap.size 2) 2)).putObj (w.heap.size + 1) (.map (mapN w.heap.size 3) 3)) := ins_word (hp 2) (by omega)
  have i3 : (Instr.mapUpdate 82 (.map (some (w.heap.size + 1))) (.string { data := #[106] }) (.func (.func 55) #[] #[.pointer (some ⟨w.heap.size, 0, none⟩)])).run Tryd.prog (W0.putObj (w.heap.size + 1) (.map (mapN w.heap.size 3) 3)) = .ok () ((W0.putObj (w.heap.size + 1) (.map (mapN w.heap.size 3) 3)).putObj (w.heap.size + 1) (.map (mapN w.heap.size 4) 4)) := ins_word (hp 3) (by omega)
  have i4 : (Instr.mapUpdate 82 (.map (some (w.heap.size + 1))) (.string { data := #[113] }) (.func (.func 56) #[] #[.pointer (some ⟨w.heap.size, 0, none⟩)])).run Tryd.prog (W0.putObj (w.heap.size + 1) (.map (mapN w.heap.size 4) 4)) = .ok () ((W0.putObj (w.heap.size + 1) (.map (mapN w.heap.size 4) 4)).putObj (w.heap.size + 1) (.map (mapN w.heap.size 5) 5)) := ins_word (hp 4) (by omega)
  have i5 : (Instr.mapUpdate 82 (.map (some (w.heap.size + 1))) (.string { data := #[112] }) (.func (.func 57) #[] #[.pointer (some ⟨w.heap.size, 0, none⟩)])).run Tryd.prog (W0.putObj (w.heap.size + 1) (.map (mapN w.heap.size 5) 5)) = .ok () ((W0.putObj (w.heap.size + 1) (.map (mapN w.heap.size 5) 5)).putObj (w.heap.size + 1) (.map (mapN w.heap.size 6) 6)) := ins_word (hp 5) (by omega)
  rw [put_put] at i1 i2 i3 i4 i5
  have M := mapN_fields (hp 6)
  have HX : (W0.putObj (w.heap.size + 1) (.map (mapN w.heap.size 6) 6)).heap[w.heap.size]? = some (.cells #[.pointer (some ⟨bt, 0, none⟩)] 84 (0, 0)) := (World.putObj_heap_other (by omega)).trans x0
  have HB : Below w.heap.size w (W0.putObj (w.heap.size + 1) (.map (mapN w.heap.size 6) 6)) := b0.trans ⟨rfl, rfl, rfl, by simp, fun k hk => World.putObj_heap_other (by omega)⟩
  have HM := Lib.hid M
  have HX := Lib.hid HX
  have HB := Lib.hid HB
  clear m0 x0 b0 hp M hs0
  subst hW0
  generalize mapN w.heap.size 1 = e1 at *
  generalize mapN w.heap.size 2 = e2 at *
  generalize mapN w.heap.size 3 = e3 at *
  generalize mapN w.heap.size 4 = e4 at *
  generalize mapN w.heap.size 5 = e5 at *
  generalize mapN w.heap.size 6 = e6 at *
  go_enter Tryd.func37, Tryd.ntmps37
  go_wp2
  go_ret
  exact ⟨rfl, HM.out, HX.out, HB.out⟩
end Go.Proofs.YtlelnoalajeihaaDoor
