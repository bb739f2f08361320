/- Texts about the program, one after the other: Ord, Awk, Rm, RgU, Rnd. -/
import Derived.Test.YtnplbmbbocffbaaG8
import Derived.Laws.MakeOwn
import Derived.Shelf.SlSortCmp.NoneTotal
import Derived.RangeFuncKeeps
import Derived.Test.YtnplbmbbocffbaaG6
import Derived.BigQuiet
import Derived.Deep.QuietTactic
import Derived.OrdersIn
import Derived.Deep.Quiet
/- The order of jobs. -/
namespace Go.Proofs.Ytnplbmbbocffbaa
open Go.RowKit Go.Shelf Go.Lib Go.Sort
set_option linter.unusedVariables false
set_option linter.unusedSimpArgs false
attribute [local go_sem ↓] Go.wp_at_zero Go.wp_at_succ
theorem make_ints (n : Nat) (hn : n ≤ 1000) (W : World) : ∃ c : Array Value, c.size = n ∧ ∀ W : World, (Instr.makeSlice 34 (.int .i64 (n : Int)) (.int .i64 (n : Int))).run Try.prog W = .ok (.slice (some ⟨W.heap.size, 0, none⟩) n n) (W.alloc (.cells c 3)) := by
  obtain ⟨i0, hi, hz0, hz1, hz2⟩ := info_parts infoI
  refine ⟨madeCells (Value.cells (.int .i64 0)) (n * i0.size), by rw [size_madeCells, hz1, Nat.mul_one], fun W => ?_⟩
  have h := run_make (P := Try.prog) W 34 3 i0 _ Try.underlying34 hi hz0 .i64 .i64 n n (by omega) (Int.le_refl _) (by rw [hz2]; omega) (by omega)
  simpa only [Int.toNat_natCast] using h
/-- What is being made. -/
def IRow (w : World) (g n k : Nat) : Prop := ∃ cur : Array Value, w.heap[g]? = some (.cells cur 3 (0, 0)) ∧ cur.size = n ∧ ∀ j, j < k → cur[j]? = some (.int .i64 (j : Int))
theorem IRow.cell {w : World} {g n k : Nat} (h : IRow w g n k) {i : Nat} (hi : i < n) : (∃ v, w.cell? ⟨g, i, none⟩ = some v) ∧ w.frozen? ⟨g, i, none⟩ = false := by
  obtain ⟨cur, h1, h2, h3⟩ := h
  exact ⟨⟨cur[i], by rw [cell_of_row w g i _ _ _ h1]; exact Array.getElem?_eq_getElem (by omega)⟩, frozen_of_row w g i _ _ h1⟩
theorem IRow.step {w : World} {g n k : Nat} (h : IRow w g n k) (hk : k < n) : IRow (w.setCell ⟨g, k, none⟩ (.int .i64 (k : Int))) g n (k + 1) := by
  obtain ⟨cur, h1, h2, h3⟩ := h
  refine ⟨cur.setIfInBounds k (.int .i64 (k : Int)), heap_setCell_same _ _ _ _ _ _ h1, by simp [h2], fun j hj => ?_⟩
  by_cases e : k = j
  · subst e; simp [h2, hk]
  · rw [Array.getElem?_setIfInBounds_ne e]; exact h3 j (by omega)
abbrev encN (m : Nat) : Fin (m + 1) → Value := fun x => .int .i64 (x.val : Int)
def ids (m : Nat) : Array (Fin (m + 1)) := Array.ofFn id
theorem ids_size (m : Nat) : (ids m).size = m + 1 := by simp [ids]
theorem ids_get {m k : Nat} (h : k < m + 1) : (ids m)[k]!.val = k := by
  rw [getElem!_pos (ids m) k (by rw [ids_size]; exact h)]
  simp [ids]
theorem ids_toList (m : Nat) : (ids m).toList.map Fin.val = List.range (m + 1) := by
  apply List.ext_getElem
  · simp [ids]
  · intro i h1 h2
    have hi : i < (ids m).size := by rw [ids_size]; simpa using h2
    have := ids_get (m := m) (k := i) (by simpa using h2)
    rw [getElem!_pos (ids m) i hi] at this
    rw [List.getElem_map, List.getElem_range]
    exact this
theorem IRow.holds {w : World} {g m : Nat} (h : IRow w g (m + 1) (m + 1)) : Holds (encN m) w g 0 (ids m) := by
  intro j hj
  rw [ids_size] at hj
  obtain ⟨cur, h1, h2, h3⟩ := h
  rw [Nat.zero_add, cell_of_row w g j _ _ _ h1, h3 j hj, encN, ids_get hj]
  exact ⟨rfl, frozen_of_row w g j _ _ h1⟩
theorem below_putRow {α : Type} [Inhabited α] {B : Nat} {w0 w : World} (h : RowKit.Below B w0 w) (enc : α → Value) (g off : Nat) (d : Array α) (hg : B ≤ g) : RowKit.Below B w0 (putRow enc w g off d) :=
  h.trans ⟨rfl, rfl, rfl, by simp, fun k hk => by
    unfold putRow mapBlock
    simp only [Array.getElem?_modify]
    rw [if_neg (by omega)]⟩
theorem below_grow {B : Nat} {w0 w : World} (h : RowKit.Below B w0 w) (os : Array Obj) (hB : B ≤ w.heap.size) : RowKit.Below B w0 (grow w os) :=
  h.trans ⟨rfl, rfl, rfl, by simp, fun k hk => heap_grow_old w os (by omega)⟩
theorem cell_sortWorld {α : Type} [Inhabited α] (enc : α → Value) (w : World) (g off m : Nat) (d : Array α) (os : Array Obj) (b i : Nat) (hb : b ≠ g) (hl : b < w.heap.size) : (sortWorld enc w g off m d os).cell? ⟨b, i, none⟩ = w.cell? ⟨b, i, none⟩ := by
  unfold sortWorld
  rw [cell?_grow _ _ _ (by simp; exact hl), cell?_putRow_other _ _ _ _ _ _ (Or.inl hb)]
  rfl
section
variable {m : Nat} (ks : List Int)
def cfK (x y : Fin (m + 1)) : Int := cf2 (kO ks x.val) (kO ks y.val) x.val y.val
theorem ltOf_cfK (x y : Fin (m + 1)) : ltOf (cfK ks) x y = decide (Ahead ks x.val y.val) := by
  unfold ltOf
  rw [Bool.eq_iff_iff, decide_eq_true_eq, decide_eq_true_eq]
  unfold cfK cf2 Ahead Lib.compareInt
  generalize kO ks x.val = a
  generalize kO ks y.val = b
  by_cases h1 : a < b
  · simp [h1]
  · by_cases h2 : a > b
    · have h3 : ¬ a = b := by omega
      simp [h1, h2, h3]
    · have h3 : a = b := by omega
      subst h3
      by_cases h4 : x.val < y.val
      · simp [h4]
      · by_cases h5 : y.val < x.val
        · simp [h4, h5]
        · simp [h4, h5]
theorem swoK : SWO (ltOf (cfK (m := m) ks)) where
  irrefl x := by
    rw [ltOf_cfK, decide_eq_false_iff_not]
    unfold Ahead
    omega
  trans x y z h1 h2 := by
    rw [ltOf_cfK, decide_eq_true_eq] at h1 h2 ⊢
    unfold Ahead at h1 h2 ⊢
    omega
  ntrans x y z h1 h2 := by
    rw [ltOf_cfK, decide_eq_false_iff_not] at h1 h2 ⊢
    unfold Ahead at h1 h2 ⊢
    omega
end
theorem ord_of {m : Nat} {ks : List Int} (hl : ks.length = m + 1) {d : Array (Fin (m + 1))} (h1 : PermIn 0 (ids m).size (ids m) d) (h2 : SortedIn (ltOf (cfK ks)) 0 (ids m).size d) : IsOrd ks (d.toList.map Fin.val) := by
  rw [ids_size] at h1 h2
  have hs : d.size = m + 1 := by rw [h1.1, ids_size]
  have hp : (d.toList.map Fin.val).Perm (List.range ks.length) := by
    have := h1.2.2
    have e1 : d.extract 0 (m + 1) = d := Array.extract_eq_self_of_le (by omega)
    have e2 : (ids m).extract 0 (m + 1) = ids m := Array.extract_eq_self_of_le (by rw [ids_size]; omega)
    rw [e1, e2] at this
    have h3 := this.map Fin.val
    rw [ids_toList] at h3
    rw [hl]
    exact h3
  refine ⟨hp, List.pairwise_iff_getElem.2 fun j k hj hk hjk => ?_⟩
  have hk2 : k < m + 1 := by rw [List.length_map, Array.length_toList, hs] at hk; exact hk
  have hn := h2 j k (Nat.zero_le _) hjk hk2
  rw [getElem!_pos d k (by omega), getElem!_pos d j (by omega), ltOf_cfK] at hn
  have hnd : (d.toList.map Fin.val).Nodup := hp.nodup_iff.2 List.nodup_range
  have hne := List.pairwise_iff_getElem.1 hnd j k hj hk hjk
  simp only [List.getElem_map, Array.getElem_toList] at hne ⊢
  simp only [decide_eq_false_iff_not] at hn
  unfold Ahead at hn ⊢
  omega
def nL (o : List Nat) : List Int := o.map (fun i : Nat => (i : Int))
/-- What Order tells. -/
def OrdPost (ks : List Int) (w : World) (e : Ending) (w' : World) : Prop := ∃ v o, e = .returned v ∧ IsOrd ks o ∧ w'.ownsRow w.heap.size 3 1 v ks.length (numL (nL o)) ∧ Below w.heap.size w w'
/-- What Order's closure reads. -/
structure Asks (W : World) (bx g : Nat) (js : List Fv) : Prop where
  ex : ∃ b o cap, W.cell? ⟨bx, 0, none⟩ = some (.slice (some ⟨b, o, none⟩) js.length cap) ∧ b ≠ g ∧ b < W.heap.size ∧ ∀ (k : Nat) (x : Fv), js[k]? = some x → W.cell? ⟨b, o + k * 5 + 2, none⟩ = some (.int .i64 x.r)
  ne : bx ≠ g
  lt : bx < W.heap.size
abbrev rls (js : List Fv) : List Int := js.map (·.r)
theorem Asks.reads {W : World} {bx g m : Nat} {js : List Fv} (h : Asks W bx g js) (hl : js.length = m + 1) (size : Nat) :
    CmpLays1 Try.prog 53 #[.pointer (some ⟨bx, 0, none⟩)] (encN m) (cfK (rls js)) g 0 size W := by
  intro q os dk hdk x y
  obtain ⟨b, o, cap, hc, hne, hlt, ht⟩ := h.ex
  have hx : x.val < js.length := by rw [hl]; exact x.isLt
  have hy : y.val < js.length := by rw [hl]; exact y.isLt
  have ex : js[x.val]? = some js[x.val] := List.getElem?_eq_getElem hx
  have ey : js[y.val]? = some js[y.val] := List.getElem?_eq_getElem hy
  have px : kO (rls js) x.val = js[x.val].r := by simp [kO, rls, ex]
  have py : kO (rls js) y.val = js[y.val].r := by simp [kO, rls, ey]
  show Calls _ _ _ _ fun e w' => e = .returned (.int .i64 (cf2 (kO (rls js) x.val) (kO (rls js) y.val) x.val y.val)) ∧ _
  rw [px, py]
  have hcell : ∀ b' i, b' ≠ g → b' < W.heap.size → (sortWorld (encN m) W g 0 q dk os).cell? ⟨b', i, none⟩ = W.cell? ⟨b', i, none⟩ := fun b' i h1 h2 => cell_sortWorld _ _ _ _ _ _ _ _ _ h1 h2
  exact ord1_any bx b o js.length cap x.val y.val _ _ _ ((hcell _ _ h.ne h.lt).trans hc) ((hcell _ _ hne hlt).trans (ht _ _ ex)) ((hcell _ _ hne hlt).trans (ht _ _ ey)) hx hy
theorem own_sorted {m : Nat} {w : World} {g n B : Nat} {d : Array (Fin (m + 1))} {os : Array Obj} (hI : IRow w g (m + 1) (m + 1)) (hB : B ≤ g) (hd : d.size = m + 1) (hm : m + 1 ≤ 1000) (o : List Nat) (ho : d.toList.map Fin.val = o) :
    (sortWorld (encN m) w g 0 n d os).ownsRow B 3 1 (.slice (some ⟨g, 0, none⟩) (m + 1) (m + 1)) (m + 1) (numL (nL o)) := by
  have hH := hI.holds
  obtain ⟨cur, h1, h2, h3⟩ := hI
  have hgl := (Array.getElem?_eq_some_iff.1 h1).1
  have hblk : (sortWorld (encN m) w g 0 n d os).heap[g]? = some (.cells (putCells (encN m) 0 d cur) 3 (0, 0)) := by
    unfold sortWorld
    rw [heap_grow_old _ _ (by simp; exact hgl)]
    unfold putRow mapBlock
    simp only [Array.getElem?_modify, if_true]
    show (w.heap[g]?).map _ = _
    rw [h1]; rfl
  have hol : o.length = m + 1 := by rw [← ho, List.length_map, Array.length_toList, hd]
  refine ⟨by simp [numL, nL, hol], .inr ⟨g, m + 1, _, rfl, hB, hblk, by omega, by unfold maxLen; omega, by simp [putCells, h2], ?_⟩⟩
  refine List.ext_getElem? fun j => ?_
  rw [List.getElem?_take]
  by_cases hj : j < m + 1
  · rw [if_pos (by omega), Array.getElem?_toList]
    have h4 : (sortWorld (encN m) w g 0 n d os).cell? ⟨g, j, none⟩ = some (encN m d[j]!) := by
      unfold sortWorld
      rw [cell?_grow _ _ _ (by simp; exact hgl)]
      have h5 := (holds_putRow (encN m) (Sort.ahead w n) g 0 (ids m) d (holds_ahead (encN m) w n g 0 (ids m) hH) (by rw [hd, ids_size]) j (by omega)).1
      rwa [Nat.zero_add] at h5
    rw [cell_of_row _ g j _ _ _ hblk] at h4
    rw [h4, ← ho]
    simp only [numL, nL, List.getElem?_map, Array.getElem?_toList]
    rw [Array.getElem?_eq_getElem (by omega), getElem!_pos d j (by omega)]
    rfl
  · rw [if_neg (by omega), List.getElem?_eq_none]
    simp [numL, nL, hol]; omega
set_option maxRecDepth 100000 in
set_option maxHeartbeats 4000000 in
theorem order_any (A : Option Addr) (cap : Nat) (js : List Fv) (w : World) (hR : FRow w A cap js) (hn : js.length ≤ 1000) :
    Calls Try.prog 25 #[.slice A js.length cap] w (OrdPost (rls js) w) := by
  obtain ⟨c, hc, hmk⟩ := make_ints js.length (by omega) w
  obtain ⟨W0, hW0, hbx, hI0, hB0, hs0⟩ : ∃ W0, (w.alloc (.cells #[.slice A js.length cap] 29)).alloc (.cells c 3) = W0 ∧ W0.cell? ⟨w.heap.size, 0, none⟩ = some (.slice A js.length cap) ∧ IRow W0 (w.heap.size + 1) js.length 0 ∧ RowKit.Below w.heap.size w W0 ∧ W0.heap.size = w.heap.size + 1 + 1 := by
    refine ⟨_, rfl, ?_, ⟨c, ?_, hc, fun j hj => absurd hj (by omega)⟩, ((Below.refl w.heap.size w).alloc (Nat.le_refl _) _).alloc (by simp) _, by simp⟩
    · rw [World.cell?_alloc_lt _ _ _ (by simp), cell_of_row _ _ 0 _ _ _ (heap_alloc_new w _)]; rfl
    · have := heap_alloc_new (w.alloc (.cells #[.slice A js.length cap] 29)) (.cells c 3)
      rwa [World.size_alloc] at this
  have HW0 := Lib.hid hW0
  have ROW := Lib.hid hR
  have HB0 := Lib.hid hB0
  have HBX := Lib.hid hbx
  clear hW0 hR hc hB0
  go_enter Try.func25, Try.ntmps25
  go_upto_region 2 with (fail)
  rw [HW0.out]
  clear HW0 hmk
  go_wp2
  go_loopw [10] (fun i wr => ∃ k : Nat, k ≤ js.length ∧ i = .int .i64 k ∧ IRow wr (w.heap.size + 1) js.length k ∧ (∀ b i, b ≠ w.heap.size + 1 → b < W0.heap.size → wr.cell? ⟨b, i, none⟩ = W0.cell? ⟨b, i, none⟩) ∧ wr.heap.size = W0.heap.size ∧ RowKit.Below w.heap.size w wr) (fun i _ => js.length - (intOf i).toNat)
  case atStart => exact ⟨0, Nat.zero_le _, rfl, hI0, fun _ _ _ _ => rfl, rfl, HB0.out⟩
  case round =>
    obtain ⟨k, hk, rfl, hI, hkeep, hsz, hB⟩ := hrel
    clear hI0
    by_cases hlt : k < js.length
    · obtain ⟨⟨v, cv⟩, fv⟩ := hI.cell hlt
      have hi0 : (0 : Int) ≤ (k : Int) := by omega
      have hi1 : (k : Int) < (js.length : Int) := by omega
      have HI := Lib.hid hI
      have HK := Lib.hid hkeep
      have HB := Lib.hid hB
      have HS := Lib.hid hsz
      clear hI hkeep hB hsz hs0
      go_wp2
      go_roundw
      case rel => exact ⟨k + 1, by omega, by go_num, HI.out.step hlt, fun b i h1 h2 => by rw [World.cell?_setCell_other _ _ _ _ (by intro e; exact h1 (congrArg Addr.block e).symm)]; exact HK.out b i h1 h2, by simp [HS.out], HB.out.setCell (p := ⟨w.heap.size + 1, k, none⟩) (by simp) _⟩
      case measure => simp [intOf]; omega
    · obtain rfl : k = js.length := by omega
      have hbox : wr.cell? ⟨w.heap.size, 0, none⟩ = some (.slice A js.length cap) := (hkeep _ _ (by omega) (by omega)).trans HBX.out
      have HB := Lib.hid hB
      have HS : Hid (wr.heap.size = w.heap.size + 1 + 1) := Lib.hid (hsz.trans hs0)
      by_cases h0 : js = []
      · subst h0
        have S := AnyF.slices_SortFunc_none { Try.sortL with } (some ⟨w.heap.size + 1, 0, none⟩) 0 (.func (.func 53) #[] #[.pointer (some ⟨w.heap.size, 0, none⟩)]) wr
        change Calls Try.prog 52 _ _ _ at S
        have HSS := Lib.hid S
        have HI := Lib.hid hI
        clear hI hkeep hsz hs0 S
        simp only [List.length_nil] at *
        go_wp2_with (go_at_call 52; (with_reducible refine HSS.out.mono ?_); rintro e w2 ⟨rfl, rfl⟩)
        go_ret
        obtain ⟨cur, h1, h2, _⟩ := HI.out
        exact ⟨_, [], rfl, ⟨by simp, by simp⟩, ⟨rfl, .inr ⟨w.heap.size + 1, 0, cur, rfl, by omega, h1, Nat.le_refl _, by unfold maxLen; omega, by simpa using h2, by simp [numL, nL]⟩⟩, HB.out⟩
      · obtain ⟨m, hm⟩ : ∃ m, js.length = m + 1 := ⟨js.length - 1, by have : js.length ≠ 0 := fun h => h0 (List.eq_nil_of_length_eq_zero h); omega⟩
        obtain ⟨b, o, x0, C0, cc0, rfl, hx0, hbl, hT0⟩ := ROW.out.get (k := 0) (by omega)
        have hA : Asks wr w.heap.size (w.heap.size + 1) js := ⟨⟨b, o, cap, hbox, by omega, by omega, fun k x hx => by
          obtain ⟨b', o', C, cc, e, hF⟩ := ROW.out.at_ k x hx
          cases e
          exact (hF.later HB.out).c2⟩, by omega, by omega⟩
        have hI2 := hI
        rw [hm] at hI2
        have hH := hI2.holds
        have eg : ∀ args w, (callFunc 53 args).run Try.prog w = .ok (.enter 53 args) w := enters_of Try.func53 (by kernel_rfl) rfl
        have S := Any.slices_SortFunc Try.sortL (encN m) (fun _ => rfl) (cfK (rls js)) (swoK _) 53 #[.pointer (some ⟨w.heap.size, 0, none⟩)] (w.heap.size + 1) 0 js.length (ids m) wr eg (hA.reads hm _) hH (by omega) (by rw [ids_size]; omega)
        change Calls Try.prog 52 _ _ _ at S
        have e0 : (ids m).size = js.length := by rw [ids_size, hm]
        have S2 := S
        rw [e0] at S2
        have HSS := Lib.hid S2
        have HM := Lib.hid hm
        have HI2 := Lib.hid hI2
        have HE := Lib.hid e0
        clear hI hkeep hsz hs0 hA hI2 hH h0 hx0 hT0 hm S S2 eg e0
        go_wp2_with (go_at_call 52; (with_reducible refine HSS.out.mono ?_); rintro e w2 ⟨rfl, d', nq, os, hp, hs, rfl⟩; have HP := Lib.hid hp; have HQ := Lib.hid hs; clear hp hs)
        go_ret
        have hks : (rls js).length = m + 1 := by rw [List.length_map, HM.out]
        have hO := ord_of hks (by rw [HE.out]; exact HP.out) (by rw [HE.out]; exact HQ.out)
        have hds : d'.size = m + 1 := by have := HP.out.1; rw [this, ids_size]
        refine ⟨_, _, rfl, hO, ?_, ?_⟩
        · rw [hks, HM.out]
          exact own_sorted HI2.out (by omega) hds (by have := HM.out; omega) _ rfl
        · unfold sortWorld
          have hb1 : RowKit.Below w.heap.size w (Sort.ahead wr nq) := HB.out.trans ⟨rfl, rfl, rfl, Nat.le_refl _, fun _ _ => rfl⟩
          exact below_grow (below_putRow hb1 (encN m) (w.heap.size + 1) 0 d' (by omega)) os (by have := HS.out; simp [Sort.ahead]; omega)
end Go.Proofs.Ytnplbmbbocffbaa
/- The chapter's example. -/
namespace Go.Proofs.Ytnplbmbbocffbaa
open Go.RowKit Go.Shelf
set_option linter.unusedVariables false
set_option linter.unusedSimpArgs false
attribute [local go_sem] Oper.semAt_some
theorem run_eql_nilI (fn : Fn) (a b : Array Value) (w : World) : (binOp .eql 60 (.func fn a b) .nilFunc).run Try.prog w = .ok (.bool false) w := by
  have h : ∀ d, (Op.equalIn (d + 1) 60 (.func fn a b) .nilFunc).run Try.prog w = .ok false w := fun d => by simp [Op.equalIn, run_underlying Try.underlying60]
  simp only [binOp]
  simp [Op.equal, Op.maxDepth, h 9999]
def dv (l : List Int) : Int := l.foldl (fun n x => 10 * n + x) 0
theorem dv_snoc (l : List Int) (x : Int) : dv (l ++ [x]) = 10 * dv l + x := by simp [dv]
theorem ex_bd {pre r : List Int} {x : Int} (h : [1, 2, 3, 4] = pre ++ x :: r) : 0 ≤ dv pre ∧ dv pre ≤ 123 ∧ 1 ≤ x ∧ x ≤ 4 := by
  match pre, h with
  | [], h => simp at h; obtain ⟨rfl, _⟩ := h; simp [dv]
  | [a], h => simp at h; obtain ⟨rfl, rfl, _⟩ := h; simp [dv]
  | [a, b], h => simp at h; obtain ⟨rfl, rfl, rfl, _⟩ := h; simp [dv]
  | [a, b, c], h => simp at h; obtain ⟨rfl, rfl, rfl, rfl, _⟩ := h; simp [dv]
  | a :: b :: c :: d :: e, h => simp at h
def exW (w : World) : World := ((w.alloc (.cells #[.int .i64 1, .int .i64 4] 3)).alloc (.cells #[.int .i64 2, .int .i64 3] 3)).alloc (.cells #[.slice (some ⟨w.heap.size, 0, none⟩) 2 2, .slice (some ⟨w.heap.size + 1, 0, none⟩) 2 2] 34)
theorem ex_rin (w : World) : RInI (exW w).heap.size (exW w) (some ⟨w.heap.size + 1 + 1, 0, none⟩) 2 [[1, 4], [2, 3]] ∧ Below w.heap.size w (exW w) := by
  have o1 := World.ownsRow_lit (e := 3) (size := 1) (base := 0) w #[.int .i64 1, .int .i64 4] 2 (Nat.zero_le _) (by unfold maxLen; omega) rfl
  have o2 := World.ownsRow_lit (e := 3) (size := 1) (base := 0) (w.alloc (.cells #[.int .i64 1, .int .i64 4] 3)) #[.int .i64 2, .int .i64 3] 2 (Nat.zero_le _) (by unfold maxLen; omega) rfl
  have o3 := World.ownsRow_lit (e := 34) (size := 1) (base := 0) ((w.alloc (.cells #[.int .i64 1, .int .i64 4] 3)).alloc (.cells #[.int .i64 2, .int .i64 3] 3)) #[.slice (some ⟨w.heap.size, 0, none⟩) 2 2, .slice (some ⟨w.heap.size + 1, 0, none⟩) 2 2] 2 (Nat.zero_le _) (by unfold maxLen; omega) rfl
  have b1 : Below (w.alloc (.cells #[.int .i64 1, .int .i64 4] 3)).heap.size (w.alloc (.cells #[.int .i64 1, .int .i64 4] 3)) (exW w) := ((Below.refl _ _).alloc (Nat.le_refl _) _).alloc (by simp) _
  have b2 : Below ((w.alloc (.cells #[.int .i64 1, .int .i64 4] 3)).alloc (.cells #[.int .i64 2, .int .i64 3] 3)).heap.size ((w.alloc (.cells #[.int .i64 1, .int .i64 4] 3)).alloc (.cells #[.int .i64 2, .int .i64 3] 3)) (exW w) := (Below.refl _ _).alloc (Nat.le_refl _) _
  simp only [World.size_alloc] at o2 o3
  have hO : Own2I 0 (exW w) (.slice (some ⟨w.heap.size + 1 + 1, 0, none⟩) 2 2) [.slice (some ⟨w.heap.size, 0, none⟩) 2 2, .slice (some ⟨w.heap.size + 1, 0, none⟩) 2 2] [[1, 4], [2, 3]] := by
    refine ⟨o3, rfl, fun i u l hu hl => ?_⟩
    match i, hu, hl with
    | 0, hu, hl => simp at hu hl; subst hu; subst hl; exact (Kept.of [] b1).row o1 (by simp)
    | 1, hu, hl => simp at hu hl; subst hu; subst hl; exact (Kept.of [] b2).row o2 (by simp)
    | n + 2, hu, hl => simp at hu
  obtain ⟨A, cap, e, h⟩ := hO.rin
  simp only [Value.slice.injEq] at e
  obtain ⟨rfl, _, rfl⟩ := e
  exact ⟨h, ((((Below.refl w.heap.size w).alloc (Nat.le_refl _) _).alloc (by simp) _).alloc (by simp; omega) _)⟩
theorem in0 : in64 0 := ⟨by decide, by decide⟩
def exJ : List Fv := [⟨0, 0, 5, 0, []⟩, ⟨0, 0, 2, 0, []⟩]
theorem ex_jobs (w : World) : FRow (w.alloc (.cells #[.int .i64 0, .int .i64 0, .int .i64 5, .int .i64 0, .slice none 0 0, .int .i64 0, .int .i64 0, .int .i64 2, .int .i64 0, .slice none 0 0] 37)) (some ⟨w.heap.size, 0, none⟩) 2 exJ := by
  have hw : ∀ r, in64 r → FvW ⟨0, 0, r, 0, []⟩ := fun r hr => ⟨in0, in0, hr, in0⟩
  refine ⟨by simp [exJ], by omega, fun i x hx => ?_⟩
  match i, hx with
  | 0, hx =>
    simp [exJ] at hx; subst hx
    refine ⟨_, _, none, 0, rfl, ⟨fun j v hv => ?_, hw _ ⟨by decide, by decide⟩, CRow.nil _ _ (by omega)⟩⟩
    rw [cell_of_row _ _ _ _ _ _ (heap_alloc_new w _)]
    match j, hv with
    | 0, hv => simpa [fvL] using hv
    | 1, hv => simpa [fvL] using hv
    | 2, hv => simpa [fvL] using hv
    | 3, hv => simpa [fvL] using hv
    | 4, hv => simpa [fvL] using hv
    | n + 5, hv => simp [fvL] at hv
  | 1, hx =>
    simp [exJ] at hx; subst hx
    refine ⟨_, _, none, 0, rfl, ⟨fun j v hv => ?_, hw _ ⟨by decide, by decide⟩, CRow.nil _ _ (by omega)⟩⟩
    rw [cell_of_row _ _ _ _ _ _ (heap_alloc_new w _)]
    match j, hv with
    | 0, hv => simpa [fvL] using hv
    | 1, hv => simpa [fvL] using hv
    | 2, hv => simpa [fvL] using hv
    | 3, hv => simpa [fvL] using hv
    | 4, hv => simpa [fvL] using hv
    | n + 5, hv => simp [fvL] at hv
  | n + 2, hx => simp [exJ] at hx
theorem ex_ord {o : List Nat} (h : IsOrd (rls exJ) o) : o = [1, 0] := h.eq ⟨by decide, by decide⟩
def OkB (w : World) (e : Ending) (w' : World) : Prop := e = .returned (.bool true) ∧ Below w.heap.size w w'
set_option maxRecDepth 100000 in
set_option maxHeartbeats 8000000 in
theorem awake_any (w : World) : Calls Try.prog 9 #[] w (OkB w) := by
  have hfn := run_eql_nilI
  obtain ⟨hR, hB0⟩ := ex_rin w
  have MM := mergeI (exW w) hR (by simp) (by simp)
  have MM := Lib.hid MM
  have HB0 := Lib.hid hB0
  have HXW := Lib.hid (show exW w = _ from rfl)
  clear hR hB0
  refine (callsIn_wide (n := 9)).1 ?_
  refine callsIn_of_wp_marks Try.func9 rfl trivial ?_ rfl
  simp only [Try.ntmps9, List.size_toArray, List.length_cons, List.length_nil, Nat.reduceAdd, Nat.reduceSub, Array.replicate_succ, Array.replicate_zero, List.push_toArray, List.append_toArray, List.nil_append, List.cons_append]
  gi_wp2_with (refine ⟨trivial, ?_⟩; gi_at_call 23; go_loud (refine (callsIn_wide.2 MM.out).mono ?_; rintro e w1 ⟨b1, b2, rfl, hM, hB1⟩; have HM := Lib.hid hM; have HB1 := Lib.hid (HB0.out.trans (hB1.mono HB0.out.size)); clear hM hB1))
  clear hfn MM
  obtain ⟨W2, hW2, L2, hbb, hB2⟩ : ∃ W2, w1.alloc (.cells #[.int .i64 0] 3) = W2 ∧ Boxed W2 w1.heap.size 3 (.int .i64 0) ∧ Below w1.heap.size w1 W2 ∧ Below w.heap.size w W2 := by
    have hbb : Below w1.heap.size w1 (w1.alloc (.cells #[.int .i64 0] 3)) := (Below.refl _ _).alloc (Nat.le_refl _) _
    exact ⟨_, rfl, Boxed.new _ _ _, hbb, HB1.out.trans (hbb.mono HB1.out.size)⟩
  rw [hW2]
  have hM2 := HM.out.later hbb
  have hsz := HB1.out.size
  have hs1 := L2.lt
  generalize w1.heap.size = nb at *
  have hmrg : mrg keyI (fil [[1, 4], [2, 3]]) = [1, 2, 3, 4] := (mrg_fil keyI _).trans mrg_awake
  have SQ := seqI (9 - 1) (by omega) (X := [nb]) hM2 (fun k hk => by simp only [List.mem_singleton] at hk; subst hk; exact ⟨Nat.le_refl _, hs1⟩)
  rw [hmrg] at SQ
  have hw2 := hB2.size
  clear hW2 hbb hmrg hM2 HM HXW HB0
  refine wpIn_named fun fr hfr => ?_
  refine rangeT (vals := fun x : Int => #[.int .i64 x]) (gf := 48) (lb := #[.pointer (some ⟨b1, 0, none⟩), .pointer (some ⟨b2, 0, none⟩)]) (by rw [hfr]; rfl) (enters_of Try.func48 (by kernel_rfl) rfl) SQ (Below.refl _ _) (fun x => rfl)
    (fun pre V => Boxed V nb 3 (.int .i64 (dv pre)) ∧ Below w.heap.size w V) (fun _ _ _ => False)
    ?own (fun _ _ _ _ _ h _ _ => h) ?IT ⟨L2, hB2⟩
    (fun x => { tmps := ((fr.tmps.setIfInBounds 11 (.int .i64 x)).setIfInBounds 3 (.int .i64 x)), defers := [] })
    ?assign ?body ?done ?stop
  case own => exact OwnFrom.and (fun pre X Y row h hg hr => boxed_kept h hg (fun r e => (hr r e).2)) (ownFrom_below (Nat.le_refl _) hw2)
  case IT =>
    rintro pre W1 W3 ⟨h1, h2⟩ hk
    exact ⟨hk.box h1 (by decide), h2.trans ((hk.mono hw2).bel h2.size)⟩
  case assign =>
    intro l2 x V K hK
    subst hfr
    gi_wp2
    exact hK
  case body =>
    rintro l2 pre x r V ⟨hb, hB⟩ hL
    subst hfr
    have hbd := ex_bd hL
    have c0 := hb.cell
    have f0 := hb.frozen
    have hn := hb.lt
    gi_wp2
    refine ⟨(KeepsOthers.setCell _ _ _).from _, KeepC.kept ((Kept.refl [nb] V).set nb 0 _ (by simp)), ?_, hB.setCell (by simp; omega) _⟩
    rw [dv_snoc]; exact Boxed.set _ hb
  case done =>
    rintro D V hD ⟨hb, hB⟩ hK
    subst hfr
    have cv := hb.cell
    have e4 : dv [1, 2, 3, 4] = 1234 := by decide
    rw [e4] at cv
    have hJ := ex_jobs V
    have OO := order_any _ _ exJ _ hJ (by simp [exJ])
    have HOO := Lib.hid OO
    clear OO hJ e4
    gi_wp2_with (refine ⟨trivial, ?_⟩; gi_at_call 25; go_loud (refine (callsIn_wide.2 HOO.out).mono ?_; rintro e w4 ⟨v, o, rfl, ho, hown, hB4⟩; obtain rfl := ex_ord ho; obtain ⟨g, cp, rfl, hg1, hg2, _, _, _⟩ := own_form hown (by simp [rls, exJ]); have cg : w4.cell? ⟨g, 0, none⟩ = some (.int .i64 1) := (own_cell hown (g := g) rfl (by simp [numL, nL])); have HB4 := Lib.hid hB4; clear hown hB4))
    have b4 : Below w.heap.size V w4 := (show Below w.heap.size V _ from (Below.refl _ _).alloc hB.size _).trans (HB4.out.mono (by have := hB.size; simp; omega))
    have hD2 := (Array.getElem?_eq_some_iff.1 hK).1
    have hK4 : w4.heap[D]? = some (.deferred (some [])) := (HB4.out.block D (by simp; omega)).trans ((Below.heap_alloc V _ D hD2).trans hK)
    refine ⟨by simp, .inl ⟨_, _, rfl, run_takeDeferred hK4, ?_⟩⟩
    exact ⟨.bool true, by simp [results, Try.f9, go_sem], rfl, (hB.trans b4).trans (belowK_b (w := w) (Nat.le_refl _) w4 D _ _ (by omega) hK4 rfl rfl)⟩
  case stop =>
    rintro D c pre x r V hD hL h hK
    exact h.elim
end Go.Proofs.Ytnplbmbbocffbaa
/- Rows merged as the document says. -/
namespace Go.Proofs.Ytnplbmbbocffbaa
open Go.RowKit Go.Shelf
set_option linter.unusedVariables false
set_option linter.unusedSimpArgs false
attribute [local go_sem ↓] Go.wp_at_zero Go.wp_at_succ
theorem make_zero (n : Nat) (hn : n ≤ 1000) (W : World) : (Instr.makeSlice 34 (.int .i64 (n : Int)) (.int .i64 (n : Int))).run Try.prog W = .ok (.slice (some ⟨W.heap.size, 0, none⟩) n n) (W.alloc (.cells (madeCells #[.int .i64 0] n) 3)) := by
  obtain ⟨i0, hi, hz0, hz1, hz2⟩ := info_parts infoI
  have h := run_make (P := Try.prog) W 34 3 i0 _ Try.underlying34 hi hz0 .i64 .i64 n n (by omega) (Int.le_refl _) (by rw [hz2]; omega) (by omega)
  rw [hz1, Nat.mul_one] at h
  simp only [Int.toNat_natCast] at h
  exact h
theorem zero_own (W : World) (n B : Nat) (hB : B ≤ W.heap.size) (hn : n ≤ 1000) : (W.alloc (.cells (madeCells #[.int .i64 0] n) 3)).ownsRow B 3 1 (.slice (some ⟨W.heap.size, 0, none⟩) n n) n (numL (List.replicate n 0)) := by
  have h := World.ownsRow_lit (e := 3) (size := 1) (base := B) W (madeCells #[.int .i64 0] n) n hB (by unfold maxLen; omega) (by rw [size_madeCells, Nat.mul_one])
  rw [toList_madeCells_one] at h
  rwa [numL, List.map_replicate]
def rem {α : Type} (rs : List (List α)) (ats : List Nat) : List (List α) := List.zipWith (fun l a => l.drop a) rs ats
theorem rem_get {α : Type} {rs : List (List α)} {ats : List Nat} {i : Nat} {l : List α} {a : Nat} (hl : rs[i]? = some l) (ha : ats[i]? = some a) : (rem rs ats)[i]? = some (l.drop a) := by
  simp [rem, List.getElem?_zipWith, hl, ha]
theorem rem_len {α : Type} (rs : List (List α)) (ats : List Nat) (h : ats.length = rs.length) : (rem rs ats).length = rs.length := by simp [rem, h]
theorem rem_zero {α : Type} : ∀ rs : List (List α), rem rs (List.replicate rs.length 0) = rs
  | [] => rfl
  | l :: rs => by
    have := rem_zero rs
    rw [List.length_cons, List.replicate_succ, rem, List.zipWith_cons_cons, ← rem, this]; rfl
theorem rem_set {α : Type} : ∀ (rs : List (List α)) (ats : List Nat) (i a : Nat) (l : List α), rs[i]? = some l → ats[i]? = some a → rem rs (ats.set i (a + 1)) = (rem rs ats).set i (l.drop (a + 1))
  | [], ats, i, a, l, h, _ => by simp at h
  | r :: rs, [], i, a, l, _, h => by simp at h
  | r :: rs, b :: ats, 0, a, l, h1, h2 => by
    simp at h1 h2
    subst h1; subst h2
    simp [rem]
  | r :: rs, b :: ats, i + 1, a, l, h1, h2 => by
    have := rem_set rs ats i a l (by simpa using h1) (by simpa using h2)
    simp only [rem, List.set_cons_succ, List.zipWith_cons_cons] at this ⊢
    rw [this]
theorem tot_le {α : Type} : ∀ rs : List (List α), (∀ l ∈ rs, l.length ≤ 100) → tot rs ≤ 100 * rs.length
  | [], _ => by simp [tot]
  | l :: t, h => by
    have h3 := tot_le t (fun l hl => h l (List.mem_cons_of_mem _ hl))
    have h4 := h l (by simp)
    rw [tot_cons, List.length_cons]; omega
theorem step_append_item {ops : Array Oper} {o : Oper} {a : Act} {w : World} {K : Act → World → Prop} {Q : Exit → Act → World → Prop} {E : Prop}
    (hg : o.guard = none) (s x : Operand) (hop : o.op = Op.call { callee := Callee.builtin Builtin.append, args := #[s, x], argTypes := #[56, 56] })
    (base : Nat) (v : Value) (n : Nat) (xs : List Value) (hs : a.eval s = v) (hown : w.ownsRow base 54 2 v n xs)
    (ad : Addr) (m c : Nat) (news : List Value) (hx : a.eval x = .slice (some ad) m c) (hn : news.length = m * 2) (hc : ∀ j u, news[j]? = some u → w.cell? (ad.add j) = some u) (h1c : ∀ u ∈ news, u.oneCell' = true)
    (b1 : n + m ≤ 3000000000) (hbase : base ≤ w.heap.size)
    (hK : ∀ v' w', w'.ownsRow base 54 2 v' (n + m) (xs ++ news) → w.grownBy w' v.ownBlock → K (a.put o.dst v') w') :
    if Region.wanted o (yielded ops a.tmps) = true then Oper.wp Try.prog o a w K Q else E := by
  have hw : Region.wanted o (yielded ops a.tmps) = true := by simp [Region.wanted, hg]
  obtain ⟨i0, hi, hz0, hz1, hz2⟩ := info_parts infoEM
  rw [if_pos hw]
  obtain ⟨v', w', hrun, r1, r2, _⟩ := run_append_own (P := Try.prog) w base 56 o.type 54 i0 _ 2 16 Try.underlying56 hi hz0 hz1 hz2 rfl (by omega) v n xs hown ad m c news (by omega) hc h1c (by unfold maxLen; omega) (by omega) hbase
  unfold Oper.wp
  simp [execOp, hop, resolve, invoke, builtin, hs, hx, hrun, Result.andThen]
  exact hK v' w' r1 r2
theorem pair_new_drew (W : World) (T : TypeId) (a b : Value) : ∀ jj u, ([a, b] : List Value)[jj]? = some u → (W.alloc (.cells #[a, b] T)).drew.cell? ((⟨W.heap.size, 0, none⟩ : Addr).add jj) = some u := fun jj u hu => pair_new W T a b jj u hu
/-- The least of the first k. -/
def Bst (rm : List (List (Int × Int))) (k : Nat) : Option Nat → Prop
  | none => ∀ (j : Nat) y ys, j < k → rm[j]? ≠ some (y :: ys)
  | some i => ∃ x xs, i < k ∧ rm[i]? = some (x :: xs) ∧ ∀ (j : Nat) y ys, j < k → rm[j]? = some (y :: ys) → keyM x ≤ keyM y ∧ (j < i → keyM x < keyM y)
def bI : Option Nat → Int
  | none => -1
  | some i => (i : Int)
theorem bst_none {rm : List (List (Int × Int))} (h : ∀ (j : Nat) y ys, j < rm.length → rm[j]? ≠ some (y :: ys)) : mrg keyM rm = [] := by
  cases hp : pick keyM rm with
  | none => exact mrg_none keyM hp
  | some p =>
    obtain ⟨i, xs, hi⟩ := pick_of keyM rm p.1 p.2 hp
    exact absurd hi (h i _ xs (List.getElem?_eq_some_iff.1 hi).1)
structure RmIn (w wr : World) (ga n : Nat) (v : Value) (ats : List Nat) (pre : List (Int × Int)) : Prop where
  at_ : wr.ownsRow w.heap.size 3 1 (.slice (some ⟨ga, 0, none⟩) n n) n (numL (nL ats))
  out : wr.ownsRow w.heap.size 54 2 v pre.length (cLM pre)
  bel : Below w.heap.size w wr
theorem RmIn.atc {w wr : World} {ga n i a : Nat} {v : Value} {ats : List Nat} {pre : List (Int × Int)} (h : RmIn w wr ga n v ats pre) (ha : ats[i]? = some a) : wr.cell? ⟨ga, i, none⟩ = some (.int .i64 (a : Int)) := own_cell h.at_ (g := ga) rfl (by simp [numL, nL, ha])
def MgPost (rs : List (List (Int × Int))) (w : World) (e : Ending) (w' : World) : Prop := ∃ v, e = .returned v ∧ w'.ownsRow w.heap.size 54 2 v (mrg keyM rs).length (cLM (mrg keyM rs)) ∧ Below w.heap.size w w'
set_option maxRecDepth 100000 in
set_option maxHeartbeats 8000000 in
theorem rmerge_any {N cap : Nat} {A : Option Addr} {rs : List (List (Int × Int))} (w : World) (hR : RInM N w A cap rs) (hn : rs.length ≤ 100) (hl : ∀ l ∈ rs, l.length ≤ 100) :
    Calls Try.prog 41 #[.slice A rs.length cap] w (MgPost rs w) := by
  obtain ⟨i0, hi, hz0, hz1, hz2⟩ := info_parts infoEM
  have hmk := make_zero rs.length (by omega) w
  have hZ := zero_own w rs.length w.heap.size (Nat.le_refl _) (by omega)
  have hB0 : Below w.heap.size w (w.alloc (.cells (madeCells #[.int .i64 0] rs.length) 3)) := (Below.refl _ _).alloc (Nat.le_refl _) _
  have HR := Lib.hid hR
  have HLL := Lib.hid hl
  have HT := Lib.hid (rem_zero rs)
  have HZ := Lib.hid hZ
  have HB0 := Lib.hid hB0
  obtain ⟨n, hn0⟩ : ∃ n, rs.length = n := ⟨_, rfl⟩
  have HN := Lib.hid hn0
  rw [hn0] at hn hmk HZ HB0 HT ⊢
  clear hR hl hn0 hZ hB0
  go_enter Try.func41, Try.ntmps41
  go_upto_region 2 with (fail)
  obtain ⟨ga, hga⟩ : ∃ ga, ga = w.heap.size := ⟨_, rfl⟩
  rw [← hga] at HZ ⊢
  generalize w.alloc (.cells (madeCells #[.int .i64 0] n) 3) = W0 at *
  clear hmk
  have HGA := Lib.hid hga
  clear hga
  go_wp2
  go_loopg [4] (tot rs + 1) (fun m v wr => ∃ (ats : List Nat) (pre : List (Int × Int)), tot (rem rs ats) < m ∧ Hid (ats.length = n) ∧ Hid (mrg keyM rs = pre ++ mrg keyM (rem rs ats)) ∧ Hid (RmIn w wr ga n v ats pre))
  case atStart =>
    refine ⟨List.replicate n 0, [], by rw [HT.out]; omega, Lib.hid (by simp), Lib.hid (by rw [HT.out]; rfl), Lib.hid ⟨?_, World.ownsRow_nil _ _ _ _, HB0.out⟩⟩
    have h1 := HZ.out
    have e : nL (List.replicate n 0) = List.replicate n 0 := by simp [nL]
    rw [e, HGA.out]
    rw [HGA.out] at h1
    exact h1
  case round =>
    generalize wr = W1 at *
    obtain ⟨ats, pre, hm, hAL, hL, hI⟩ := hrel
    clear HZ HB0
    obtain ⟨Av, cv, rfl, _, _⟩ := own_len hI.out.out
    have HCM := Lib.hid (show pre.length ≤ 10000 by
      have h1 := congrArg List.length hL.out
      rw [List.length_append, mrg_len keyM _ _ (Nat.le_refl _)] at h1
      have h2 := tot_le rs HLL.out
      rw [HN.out] at h2
      omega)
    go_wp2
    go_loopw [5, 6] (fun b i wr => ∃ (k q : Nat) (bo : Option Nat), k ≤ n ∧ i = .int .i64 (k : Int) ∧ b = .int .i64 (bI bo) ∧ Hid (Bst (rem rs ats) k bo) ∧ wr = W1.drewN q) (fun _ i _ => n - (intOf i).toNat)
    case atStart => exact ⟨0, 0, none, Nat.zero_le _, rfl, rfl, Lib.hid (fun j y ys h => by omega), rfl⟩
    case round =>
      obtain ⟨k, q, bo, hk, rfl, rfl, hBst, rfl⟩ := hrel
      by_cases hkn : k < n
      · obtain ⟨l, hx⟩ : ∃ l, rs[k]? = some l := ⟨rs[k]'(by rw [HN.out]; exact hkn), List.getElem?_eq_getElem _⟩
        obtain ⟨a, hxa⟩ : ∃ a, ats[k]? = some a := ⟨ats[k]'(by rw [hAL.out]; exact hkn), List.getElem?_eq_getElem _⟩
        obtain ⟨b, o, u, rfl, e1, hRow⟩ := HR.out.at_ k l hx
        obtain ⟨A2, c2, rfl, a1, a2, a3⟩ := hRow.ex
        have ca := hI.out.atc hxa
        have e2 := (hI.out.bel.cell (p := ⟨b, o + k, none⟩) (World.block_lt_of_cell? w _ e1)).trans e1
        have ik0 : (0 : Int) ≤ (k : Int) := by omega
        have ik1 : (k : Int) < (n : Int) := by omega
        have HRG := Lib.hid (rem_get hx hxa)
        by_cases hal : a < l.length
        · obtain ⟨x, hxx⟩ : ∃ x, l[a]? = some x := ⟨l[a], List.getElem?_eq_getElem _⟩
          obtain ⟨g, p, rfl, p1, p2, p3⟩ := a3 a x hxx
          have x0 : W1.cell? ⟨g, p + a * 2, none⟩ = some (.int .i64 x.1) := (hI.out.bel.cell (p := ⟨g, p + a * 2, none⟩) p2).trans (p3 0 _ rfl)
          have HD : Hid ((rem rs ats)[k]? = some (x :: l.drop (a + 1))) := Lib.hid (by rw [HRG.out, List.drop_eq_getElem_cons hal]; congr 2; have := List.getElem?_eq_getElem hal; rw [hxx] at this; exact (Option.some.inj this).symm)
          have t1 : decide ((a : Int) < (l.length : Int)) = true := decide_eq_true (by omega)
          have ia0 : (0 : Int) ≤ (a : Int) := by omega
          have ia1 : (a : Int) < (l.length : Int) := by omega
          generalize l.length = ll at *
          cases bo with
          | none =>
            clear hx hxa hRow a3 hxx p3 e1
            simp only [bI]
            go_wp2
            go_quiet (fail)
            go_wp2
            refine ⟨⟨k + 1, q + nq, some k, by omega, by go_num, rfl, Lib.hid ⟨x, _, by omega, HD.out, fun j y ys hj hy => ?_⟩, rfl⟩, by first | (simp [intOf]; done) | (simp [intOf]; omega)⟩
            rcases Nat.lt_or_ge j k with h | h
            · exact absurd hy (hBst.out j y ys h)
            · obtain rfl : j = k := by omega
              rw [HD.out] at hy
              simp only [Option.some.injEq, List.cons.injEq] at hy
              rw [hy.1]
              exact ⟨Int.le_refl _, fun h => by omega⟩
          | some j =>
            obtain ⟨y, ys, hjk, hyj, hall⟩ := hBst.out
            obtain ⟨l2, hx2⟩ : ∃ l, rs[j]? = some l := ⟨rs[j]'(by rw [HN.out]; omega), List.getElem?_eq_getElem _⟩
            obtain ⟨d2, hxa2⟩ : ∃ a, ats[j]? = some a := ⟨ats[j]'(by rw [hAL.out]; omega), List.getElem?_eq_getElem _⟩
            obtain ⟨b', o', u', eA, e5, hRow2⟩ := HR.out.at_ j l2 hx2
            simp only [Option.some.injEq, Addr.mk.injEq] at eA
            obtain ⟨rfl, rfl, _⟩ := eA
            obtain ⟨A5, c5, rfl, _, _, a5⟩ := hRow2.ex
            have hdr := (rem_get hx2 hxa2).symm.trans hyj
            simp only [Option.some.injEq] at hdr
            have hd2 : d2 < l2.length := by
              rcases Nat.lt_or_ge d2 l2.length with h | h
              · exact h
              · rw [List.drop_eq_nil_of_le h] at hdr; cases hdr
            have hyy : l2[d2]? = some y := by
              rw [List.drop_eq_getElem_cons hd2] at hdr
              simp only [List.cons.injEq] at hdr
              rw [List.getElem?_eq_getElem hd2, hdr.1]
            obtain ⟨g2, p5, rfl, p6, p7, p8⟩ := a5 d2 y hyy
            have y0 : W1.cell? ⟨g2, p5 + d2 * 2, none⟩ = some (.int .i64 y.1) := (hI.out.bel.cell (p := ⟨g2, p5 + d2 * 2, none⟩) p7).trans (p8 0 _ rfl)
            have e6 := (hI.out.bel.cell (p := ⟨b, o + j, none⟩) (World.block_lt_of_cell? w _ e5)).trans e5
            have ca2 := hI.out.atc hxa2
            have ij0 : (0 : Int) ≤ (j : Int) := by omega
            have ij1 : (j : Int) < (n : Int) := by omega
            have id0 : (0 : Int) ≤ (d2 : Int) := by omega
            have id1 : (d2 : Int) < (l2.length : Int) := by omega
            have tj : decide ((j : Int) < 0) = false := decide_eq_false (by omega)
            have HYJ := Lib.hid hyj
            have HALL := Lib.hid hall
            have HJK := Lib.hid hjk
            obtain ⟨t, ht⟩ : ∃ t, decide (x.1 < y.1) = t := ⟨_, rfl⟩
            have HTT := Lib.hid ht
            generalize l2.length = ll2 at *
            clear hx hxa hRow a3 hxx p3 e1 hx2 hxa2 e5 hRow2 a5 hdr hyy p8 hyj hall
            simp only [bI]
            rcases (Bool.eq_false_or_eq_true t).symm with rfl | rfl
            · go_wp2
              go_quiet (fail)
              go_wp2
              refine ⟨⟨k + 1, q + nq, some j, by omega, by go_num, rfl, Lib.hid ⟨y, ys, by omega, HYJ.out, fun i z zs hi hz => ?_⟩, rfl⟩, by first | (simp [intOf]; done) | (simp [intOf]; omega)⟩
              rcases Nat.lt_or_ge i k with h | h
              · exact HALL.out i z zs h hz
              · obtain rfl : i = k := by omega
                rw [HD.out] at hz
                simp only [Option.some.injEq, List.cons.injEq] at hz
                obtain ⟨rfl, _⟩ := hz
                have := of_decide_eq_false HTT.out
                exact ⟨by show y.1 ≤ x.1; omega, fun h => by omega⟩
            · go_wp2
              go_quiet (fail)
              go_wp2
              refine ⟨⟨k + 1, q + nq, some k, by omega, by go_num, rfl, Lib.hid ⟨x, _, by omega, HD.out, fun i z zs hi hz => ?_⟩, rfl⟩, by first | (simp [intOf]; done) | (simp [intOf]; omega)⟩
              have hxy := of_decide_eq_true HTT.out
              rcases Nat.lt_or_ge i k with h | h
              · have h9 : y.1 ≤ z.1 := (HALL.out i z zs h hz).1
                exact ⟨by show x.1 ≤ z.1; omega, fun _ => by show x.1 < z.1; omega⟩
              · obtain rfl : i = k := by omega
                rw [HD.out] at hz
                simp only [Option.some.injEq, List.cons.injEq] at hz
                obtain ⟨rfl, _⟩ := hz
                exact ⟨Int.le_refl _, fun h => by omega⟩
        · have t1 : decide ((a : Int) < (l.length : Int)) = false := decide_eq_false (by omega)
          have HD : Hid ((rem rs ats)[k]? = some []) := Lib.hid (by rw [HRG.out, List.drop_eq_nil_of_le (by omega)])
          generalize l.length = ll at *
          clear hx hxa hRow a3 e1
          have ha9 : decide (a < ll) = false := decide_eq_false hal
          go_wp2
          go_quiet (fail)
          go_wp2
          refine ⟨⟨k + 1, q + nq, bo, by omega, by go_num, rfl, Lib.hid ?_, rfl⟩, by first | (simp [intOf]; done) | (simp [intOf]; omega)⟩
          have hB := hBst.out
          cases bo with
          | none =>
            intro j y ys hj hy
            rcases Nat.lt_or_ge j k with h | h
            · exact hB j y ys h hy
            · obtain rfl : j = k := by omega
              rw [HD.out] at hy; cases hy
          | some i =>
            obtain ⟨x, xs, h1, h2, h3⟩ := hB
            refine ⟨x, xs, by omega, h2, fun j y ys hj hy => ?_⟩
            rcases Nat.lt_or_ge j k with h | h
            · exact h3 j y ys h hy
            · obtain rfl : j = k := by omega
              rw [HD.out] at hy; cases hy
      · obtain rfl : k = n := by omega
        have hI2 : RmIn w (W1.drewN q) ga k (.slice Av pre.length cv) ats pre := ⟨(Kept.of [] (below_drewN (Below.refl _ _) q)).row hI.out.at_ (by simp), (Kept.of [] (below_drewN (Below.refl _ _) q)).row hI.out.out (by simp), below_drewN hI.out.bel q⟩
        generalize W1.drewN q = W2 at *
        have HI2 := Lib.hid hI2
        have HRL := Lib.hid (show (rem rs ats).length = k by rw [rem_len _ _ (by rw [hAL.out, HN.out]), HN.out])
        clear hI2 hI
        cases bo with
        | none =>
          simp only [bI]
          have hem : mrg keyM rs = pre := by
            rw [hL.out, bst_none (fun j y ys hj => hBst.out j y ys (by rw [HRL.out] at hj; exact hj)), List.append_nil]
          have HEM := Lib.hid hem
          clear hem
          go_wp2
          go_ret
          exact ⟨_, rfl, by rw [HEM.out]; exact HI2.out.out, HI2.out.bel⟩
        | some i =>
          obtain ⟨x, xs, hik, hxi, hall⟩ := hBst.out
          have hF : Fst keyM (rem rs ats) i x xs := ⟨hxi, fun j y ys hj => (hall j y ys (by have := (List.getElem?_eq_some_iff.1 hj).1; rw [HRL.out] at this; exact this) hj).1, fun j y ys hji hj => (hall j y ys (by omega) hj).2 hji⟩
          obtain ⟨l, hx⟩ : ∃ l, rs[i]? = some l := ⟨rs[i]'(by rw [HN.out]; exact hik), List.getElem?_eq_getElem _⟩
          obtain ⟨a, hxa⟩ : ∃ a, ats[i]? = some a := ⟨ats[i]'(by rw [hAL.out]; exact hik), List.getElem?_eq_getElem _⟩
          obtain ⟨b, o, u, rfl, e1, hRow⟩ := HR.out.at_ i l hx
          obtain ⟨A2, c2, rfl, a1, a2, a3⟩ := hRow.ex
          have hdr := (rem_get hx hxa).symm.trans hxi
          simp only [Option.some.injEq] at hdr
          have hd2 : a < l.length := by
            rcases Nat.lt_or_ge a l.length with h | h
            · exact h
            · rw [List.drop_eq_nil_of_le h] at hdr; cases hdr
          have hxx : l[a]? = some x := by
            rw [List.drop_eq_getElem_cons hd2] at hdr
            simp only [List.cons.injEq] at hdr
            rw [List.getElem?_eq_getElem hd2, hdr.1]
          have hxs : l.drop (a + 1) = xs := by
            rw [List.drop_eq_getElem_cons hd2] at hdr
            simp only [List.cons.injEq] at hdr
            exact hdr.2
          obtain ⟨g, p, rfl, p1, p2, p3⟩ := a3 a x hxx
          have x0 : W2.cell? ⟨g, p + a * 2, none⟩ = some (.int .i64 x.1) := (HI2.out.bel.cell (p := ⟨g, p + a * 2, none⟩) p2).trans (p3 0 _ rfl)
          have x1 : W2.cell? ⟨g, p + a * 2 + 1, none⟩ = some (.int .i64 x.2) := (HI2.out.bel.cell (p := ⟨g, p + a * 2 + 1, none⟩) p2).trans (p3 1 _ rfl)
          have e2 := (HI2.out.bel.cell (p := ⟨b, o + i, none⟩) (World.block_lt_of_cell? w _ e1)).trans e1
          have ca := HI2.out.atc hxa
          have ii0 : (0 : Int) ≤ (i : Int) := by omega
          have ii1 : (i : Int) < (k : Int) := by omega
          have ia0 : (0 : Int) ≤ (a : Int) := by omega
          have ia1 : (a : Int) < (l.length : Int) := by omega
          have ti : decide ((i : Int) < 0) = false := decide_eq_false (by omega)
          have HNX := Lib.hid (mrg_next keyM hF)
          have HTOT := Lib.hid (pick_tot keyM _ x _ (pick_at keyM _ i x xs hF))
          have HSET : Hid (rem rs (ats.set i (a + 1)) = (rem rs ats).set i xs) := Lib.hid (by rw [rem_set rs ats i a l hx hxa, hxs])
          have HAL2 := Lib.hid (show a ≤ 100 by have := HLL.out l (List.mem_of_getElem? hx); omega)
          have hal2 := HAL2.out
          have HXA := Lib.hid hxa
          clear hx hxa hRow a3 hxx hxs hdr p3 e1 hF hall hxi
          generalize l.length = ll at *
          simp only [bI]
          go_upto_region 11 with (fail)
          have HB3 : Hid (Below w.heap.size w ((W2.alloc (.cells #[.int .i64 x.1, .int .i64 x.2] 54)).drew)) := Lib.hid (HI2.out.bel.trans (((Below.refl _ _).alloc HI2.out.bel.size _).trans (below_drewN (Below.refl _ _) 1)))
          have hb4 : Below W2.heap.size W2 ((W2.alloc (.cells #[.int .i64 x.1, .int .i64 x.2] 54)).drew) := ((Below.refl _ _).alloc (Nat.le_refl _) _).trans (below_drewN (Below.refl _ _) 1)
          have HO3 := Lib.hid ((Kept.of [] hb4).row HI2.out.out (by simp))
          have HA3 := Lib.hid ((Kept.of [] hb4).row HI2.out.at_ (by simp))
          have HSZ3 := Lib.hid (show w.heap.size ≤ ((W2.alloc (.cells #[.int .i64 x.1, .int .i64 x.2] 54)).drew).heap.size from HB3.out.size)
          clear hb4
          go_region_law (first
            | (refine step_append_item rfl (.tmp 59) (.tmp 70) rfl w.heap.size _ pre.length (cLM pre) rfl HO3.out _ 1 1 [.int .i64 x.1, .int .i64 x.2] rfl rfl (pair_new_drew _ _ _ _) (pair_one _ _) (by have := HCM.out; omega) HSZ3.out ?_
               intro v' w4 o1 g1
               obtain ⟨A', cap', hv', -, -⟩ := own_len o1
               subst hv'))
          all_goals
            have HO4 := Lib.hid o1
            have HA4 : Hid (w4.ownsRow w.heap.size 3 1 (.slice (some ⟨ga, 0, none⟩) k k) k (numL (nL ats))) := Lib.hid ((kept_grown (X := (Value.slice Av pre.length cv).ownBlock.toList) g1 (fun q e => by rw [Option.mem_toList]; exact e)).row HA3.out (fun q hq hm => by
              rw [Option.mem_toList] at hm
              simp only [Value.ownBlock, Option.some.injEq] at hq
              subst hq
              rcases HA3.out.2 with ⟨h0, _⟩ | ⟨g', cp', cur, e, _, hh, _⟩
              · cases h0
              · simp only [Value.slice.injEq, Option.some.injEq, Addr.mk.injEq] at e
                obtain ⟨⟨rfl, _⟩, _, _⟩ := e
                exact own_ne HO3.out hh (by decide) hm))
            have HB4 := Lib.hid (HB3.out.grown g1 HSZ3.out (fun q hq => (HO3.out.lt q hq).1))
            have ca4 : w4.cell? ⟨ga, i, none⟩ = some (.int .i64 (a : Int)) := own_cell HA4.out (g := ga) rfl (by simp [numL, nL, HXA.out])
            obtain ⟨gg, cpp, hgg, _, hgl4, _, _, hfz⟩ := own_form HA4.out (by omega)
            simp only [Value.slice.injEq, Option.some.injEq, Addr.mk.injEq] at hgg
            obtain ⟨⟨rfl, _⟩, _, rfl⟩ := hgg
            have fa4 := hfz i
            have HGN : Hid (∀ q, (Value.slice A' (pre.length + 1) cap').ownBlock = some q → q ∉ [ga]) := Lib.hid (fun q hq hm => by
              simp only [List.mem_singleton] at hm
              subst hm
              rcases HA4.out.2 with ⟨h0, _⟩ | ⟨g', cp', cur, e, _, hh, _⟩
              · cases h0
              · simp only [Value.slice.injEq, Option.some.injEq, Addr.mk.injEq] at e
                obtain ⟨⟨rfl, _⟩, _, _⟩ := e
                exact own_ne HO4.out hh (by decide) hq)
            clear o1 g1 e2 x0 x1 ca hfz
            go_wp2
            go_roundg (tot (rem rs (ats.set i (a + 1))) + 1)
            case measure => have h1 := HTOT.out; rw [HSET.out]; omega
            case rel =>
              refine ⟨ats.set i (a + 1), pre ++ [x], by omega, Lib.hid (by rw [List.length_set]; exact hAL.out), Lib.hid (by rw [hL.out, HNX.out, HSET.out]; simp), Lib.hid ⟨?_, ?_, HB4.out.setCell (p := ⟨ga, i, none⟩) (by have := (HA4.out.lt ga rfl).1; exact this) _⟩⟩
              · have h1 := own_set HA4.out (g := ga) rfl (i := i) (by omega) (.int .i64 ((a : Int) + 1))
                have e9 : numL (nL (ats.set i (a + 1))) = (numL (nL ats)).set i (.int .i64 ((a : Int) + 1)) := by
                  simp only [numL, nL, List.map_set, List.map_map]
                  congr 1
                rw [e9]
                exact h1
              · have h2 := ((Kept.refl [ga] w4).set ga i (.int .i64 ((a : Int) + 1)) (by simp)).row HO4.out HGN.out
                rw [List.length_append, cLM_snoc]
                exact h2
end Go.Proofs.Ytnplbmbbocffbaa
/- The law for a range over a function, where the assignment to the loop's variables lays a block. -/
namespace Go.Proofs.Ytnplbmbbocffbaa
open Go.RowKit Go.Shelf
set_option linter.unusedVariables false
set_option maxHeartbeats 1000000 in
/-- The law for a caller. fr: what the assignment to the loop's variables leaves. -/
theorem rangeU {E : Type} {T : TypeId} {vals : E → Array Value} {g : Operand} {ps : Array Tmp} {assign body : Code} {Q : Exit → Act → World → Prop} {a : Act} {w : World} {n gf : Nat} {lb : Array Value} {X : List Nat} {L : List E} {w0 : World}
    (hg : a.eval g = .func (.func gf) #[] lb) (eg : ∀ args w, (callFunc gf args).run Try.prog w = .ok (.enter gf args) w)
    (hseq : SeqT T vals (n - 1) gf lb X L w0) (hb0 : Below w0.heap.size w0 w) (hps : ∀ x, (vals x).size = ps.size)
    (I : List E → World → Prop) (Ix : Code → List E → World → Prop) (hI : OwnFrom w.heap.size I) (hIx : ∀ c, OwnFrom w.heap.size (Ix c)) (hIT : ∀ pre W1 W2, I pre W1 → KeptT T w.heap.size W1 W2 → I pre W2) (h0 : I [] w)
    (fr : E → Act → World → Prop) (hfr : OwnFrom w.heap.size (fun (p : E × Act) W => fr p.1 p.2 W))
    (hassign : ∀ (l : Nat) (pre : List E) (x : E) (W : World) (K : Act → World → Prop), I pre W → (∀ a' W', KeepsFrom w.heap.size W W' → KeepC X W W' → I pre W' → fr x a' W' → K a' W') →
      assign.wpIn (Fence.wide.inRound l) (n - 1 - 1) Try.prog (Exit.then K (fun _ _ _ => False)) { tmps := (ps.zip (vals x)).foldl (fun t (p, v) => t.setIfInBounds p v) a.tmps, defers := [] } W)
    (hbody : ∀ (l : Nat) (pre : List E) (x : E) (r : List E) (a' : Act) (W : World), I pre W → fr x a' W → L = pre ++ x :: r →
      body.wpIn (Fence.wide.inRound l) (n - 1 - 1) Try.prog (postA w.heap.size X I Ix (pre ++ [x]) W) a' W)
    (hdone : ∀ (D : Nat) (W : World), w.heap.size ≤ D → I L W → W.heap[D]? = some (.deferred (some [])) → Q .normal { a with defers := { target := .collected D, args := #[] } :: a.defers } W)
    (hstop : ∀ (D : Nat) (c : Code) (pre : List E) (x : E) (r : List E) (W : World), w.heap.size ≤ D → L = pre ++ x :: r → Ix c (pre ++ [x]) W → W.heap[D]? = some (.deferred (some [])) → c.wpIn Fence.wide n Try.prog Q { a with defers := { target := .collected D, args := #[] } :: a.defers } W) :
    (Code.rangeFunc g ps assign body).wpIn Fence.wide n Try.prog Q a w := by
  refine wpIn_rangeFunc fun fn hfn => ?_
  obtain ⟨D, hD⟩ : ∃ D, D = w.heap.size := ⟨_, rfl⟩
  obtain ⟨rc, hrc⟩ : ∃ rc : LoopState → Option Code → Loop, rc = fun st pe => { state := st, pending := pe, fn, tmps := a.tmps, params := ps, assign, body, defers := D } := ⟨_, rfl⟩
  obtain ⟨V, hV⟩ : ∃ V, (w.alloc (.deferred (some []))).alloc (.loop (rc .ready none)) = V := ⟨_, rfl⟩
  have hV2 : Two D (rc .ready none) V := by
    rw [← hV, hD]
    refine ⟨(Below.heap_alloc _ _ _ (by simp)).trans (World.alloc_heap_new w _), ?_⟩
    have := World.alloc_heap_new (w.alloc (.deferred (some []))) (.loop (rc .ready none))
    rwa [World.size_alloc] at this
  have hVI : I [] V := by rw [← hV]; exact hI.alloc _ (hI.alloc _ h0)
  have hVb : Below w.heap.size w V := by
    rw [← hV]
    exact (((Below.refl _ w).alloc (Nat.le_refl _) _).alloc (by simp) _)
  have put : ∀ {pre : List E} {W : World} {r : Loop} (r' : Loop), I pre W → Two D r W → I pre (W.putObj (D + 1) (.loop r')) := fun r' hi h2 => hI.putObj _ hi (by omega) h2.l rfl
  have putx : ∀ {c : Code} {pre : List E} {W : World} {r : Loop} (r' : Loop), Ix c pre W → Two D r W → Ix c pre (W.putObj (D + 1) (.loop r')) := fun r' hi h2 => (hIx _).putObj _ hi (by omega) h2.l rfl
  refine ⟨D + 1, [{ target := .collected D, args := #[] }], V, { target := .fn (.func gf) lb, args := #[.func (.yield (D + 1)) #[] #[]] }, V, gf, #[.func (.yield (D + 1)) #[] #[]] ++ lb, V, ?_, ?_, ?_, ?_, ?_, ?_⟩
  · rw [← hV, hrc, hD]; exact run_enterLoop_outer _ _ _ _ _
  · simp only [resolve, hg]
    simp [go_sem]
  · intro f' _; trivial
  · simp [invoke, go_sem, eg]
  · intro h; cases h
  · refine (hseq (D + 1) (fun pre W => I pre W ∧ Two D (rc .ready none) W) (fun pre W => ∃ c, Ix c pre W ∧ Two D (rc .done (some c)) W) V (hb0.trans (hVb.mono hb0.size))
      (fun s X Z hs hk => ⟨hIT s X Z hs.1 (hk.mono hVb.size), hs.2.keptT hk⟩)
      ?_ ⟨hVI, hV2⟩).mono ?_
    · rintro pre x r W ⟨hi, h2⟩ hL
      have hy := run_yield (P := Try.prog) (args := vals x) h2.l (by rw [hrc]; exact hps x)
      rw [hrc] at hy
      refine ⟨fn, _, assign, body, hy, roundIn_of_wpIn trivial (hassign _ pre x W _ hi fun a2 W2 hk2 hc2 hi2 hf2 => ?_)⟩
      clear hy
      have h22 := h2.from (by rw [hD]; exact hk2)
      refine ⟨_, run_beginRound h22.l (by rw [hrc]), ?_⟩
      have h2b := h22.put { rc .ready none with state := .busy }
      have kc := hc2.trans (KeepC.put (X := X) (.loop { rc .ready none with state := .busy }) h22.l rfl)
      have hf3 : fr x a2 (W2.putObj (D + 1) (.loop { rc .ready none with state := .busy })) := hfr.putObj (s := (x, a2)) _ hf2 (by omega) h22.l rfl
      refine wpIn_mono (hbody _ pre x r a2 _ (put _ hi2 h22) hf3 hL) ?_
      generalize W2.putObj (D + 1) (.loop { rc .ready none with state := .busy }) = Wb at *
      rw [← hD]
      have fin : ∀ (jump : Option Code) (W3 : World), KeepsFrom D Wb W3 →
          (Instr.endRound (D + 1) jump).run Try.prog W3 = .ok (.bool jump.isNone) (W3.putObj (D + 1) (.loop (rc (if jump.isNone then .ready else .done) jump))) ∧ Two D { rc .ready none with state := .busy } W3 := fun jump W3 hk3 => by
        have h3 := h2b.from hk3
        have := run_endRound (P := Try.prog) jump h3.l
        rw [hrc] at this h3 ⊢
        exact ⟨this, h3⟩
      rintro e a3 W3 hp
      cases e with
      | normal =>
        obtain ⟨hk3, hc3, hi3⟩ := hp
        obtain ⟨hr, h3⟩ := fin none W3 hk3
        exact ⟨_, _, hr, .inl ⟨rfl, ⟨put _ hi3 h3, h3.put _⟩, (kc.trans hc3).trans (KeepC.put _ h3.l rfl)⟩⟩
      | ret =>
        obtain ⟨hk3, hi3⟩ := hp
        obtain ⟨hr, h3⟩ := fin (some .ret) W3 hk3
        exact ⟨_, _, hr, .inr ⟨rfl, ⟨.ret, putx _ hi3 h3, h3.put _⟩⟩⟩
      | exit id =>
        obtain ⟨hk3, hi3⟩ := hp
        obtain ⟨hr, h3⟩ := fin (some (.exit id)) W3 hk3
        exact ⟨_, _, hr, .inr ⟨rfl, ⟨.exit id, putx _ hi3 h3, h3.put _⟩⟩⟩
      | goto t =>
        obtain ⟨hk3, hi3⟩ := hp
        obtain ⟨hr, h3⟩ := fin (some (.goto t)) W3 hk3
        exact ⟨_, _, hr, .inr ⟨rfl, ⟨.goto t, putx _ hi3 h3, h3.put _⟩⟩⟩
      | panic ch => exact hp.elim
      | outgrown => exact hp.elim
    · rintro e W2 ⟨⟨v, rfl⟩, (⟨hi, h2⟩ | ⟨pre, x, r, hL, ⟨c, hi, h2⟩⟩)⟩
      · have he := run_endLoop (P := Try.prog) h2.l (by rw [hrc]; simp)
        rw [hrc] at he
        exact ⟨none, _, he, hdone D _ (Nat.le_of_eq hD.symm) (put _ hi h2) ((World.putObj_heap_other (by omega)).trans h2.d)⟩
      · have he := run_endLoop (P := Try.prog) h2.l (by rw [hrc]; simp)
        rw [hrc] at he
        exact ⟨some c, _, he, hstop D c pre x r _ (Nat.le_of_eq hD.symm) hL (putx _ hi h2) ((World.putObj_heap_other (by omega)).trans h2.d)⟩
end Go.Proofs.Ytnplbmbbocffbaa
/- A region that draws its order, in a round: as everywhere, where it only reads. -/
namespace Go.Proofs.Ytnplbmbbocffbaa
open Go.RowKit Go.Shelf
set_option linter.unusedVariables false

/-- An operation that is no defer statement goes in a round as everywhere. -/
theorem op_round {P : Program} {o : Oper} {a : Act} {w : World} {K : Act → World → Prop} {Q : Exit → Act → World → Prop} (l n : Nat) (hd : ∀ c, o.op ≠ .defer c) (h : o.wp P a w K Q) : o.wpIn (Fence.wide.inRound l) n P a w K Q := by
  refine ⟨fun _ _ => trivial, ?_⟩
  rw [Oper.semAt_plain _ _ _ hd]
  unfold Oper.wp at h
  generalize (execOp a.eval o).run P w = r at *
  cases r with
  | ok x w' =>
    cases x with
    | value v => exact h
    | skip => exact h
    | defer d => exact h
    | enter f args => exact ⟨fun h => by simp [Fence.inRound, Fence.wide] at h, CallsIn.inRound l ((callsIn_wide.2 h).mono fun e w'' he => by cases e <;> exact he)⟩
    | row row args => exact ⟨fun h => by simp [Fence.inRound, Fence.wide] at h, fun c cs _ => let ⟨v, w', r, s⟩ := h c cs; ⟨v, w', r, stepsIn_wide.2 s⟩⟩
    | _ => exact h.elim
  | halt x w' => cases x <;> exact h
theorem any_round {P : Program} {md : Region.Mode} {ops : Array Oper} {Q : Exit → Act → World → Prop} (l n : Nat) (hlo : ¬ LetsOut Q) (hd : ∀ (i : Nat) (o : Oper), ops[i]? = some o → ∀ c, o.op ≠ .defer c) :
    ∀ (fuel : Nat) (listed : Array Bool) (a : Act) (w : World), wpAny P md ops Q fuel listed a w → wpAnyIn (Fence.wide.inRound l) n P md ops Q fuel listed a w := by
  intro fuel
  induction fuel with
  | zero => intro listed a w h; exact h
  | succ fuel ih =>
    intro listed a w h
    refine ⟨h.1, fun i hi => ?_⟩
    have h2 := h.2 i hi
    unfold wpOp at h2
    unfold wpOpIn
    cases ho : ops[i]? with
    | none => rw [ho] at h2; exact ih _ _ _ h2
    | some o =>
      rw [ho] at h2
      simp only at h2 ⊢
      split
      · rename_i hw
        rw [if_pos hw] at h2
        exact Oper.wpIn_mono (fun a w h => ih _ a w h) (op_round l n (hd i o ho) (h2.resolve_right fun h => hlo h.2))
      · rename_i hw
        rw [if_neg hw] at h2
        exact ⟨fun _ _ => trivial, ih _ _ _ h2⟩
theorem region_round {P : Program} {id : Nat} {Q : Exit → Act → World → Prop} {a : Act} {w : World} {ops : List Oper} {l n : Nat} (hlo : ¬ LetsOut Q) (hd : ops.all (fun o => match o.op with | .defer _ => false | _ => true) = true) (hm : P.follows .mixedOrders = true) (hB : Region.lexB .any ops.toArray = true)
    (h : wpQuiet P ops.toArray (fun w' => ∃ n, w' = w.drewN n) (fun a' => ∀ w', (∃ n, w' = w.drewN n) → Q .normal a' w') ops a) : (Code.region id ops.toArray true).wpIn (Fence.wide.inRound l) n P Q a w := by
  simp only [Region.lexB, Bool.and_eq_true] at hB
  refine wpIn_region_any hm (any_round l n hlo (fun i o ho c e => ?_) _ _ _ _ ?_)
  · have := List.all_eq_true.1 hd o (List.mem_of_getElem? (by simpa using ho))
    rw [e] at this
    cases this
  · refine wpAny_of_quiet (C := fun w' => ∃ n, w' = w.drewN n) (Q := fun a' => ∀ w', (∃ n, w' = w.drewN n) → Q .normal a' w') (fun _ w' hw' h => h w' hw') _ _ _ _ ⟨1, rfl⟩ ?_
    have := wpAnyQ_lex (C := fun w' => ∃ n, w' = w.drewN n) (md := .any) hB.1 ops 0 (Array.replicate ops.toArray.size false) a (by simp) (by simpa using hB.2) h
    simpa using this

end Go.Proofs.Ytnplbmbbocffbaa
