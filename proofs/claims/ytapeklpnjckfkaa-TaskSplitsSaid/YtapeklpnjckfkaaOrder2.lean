/- Order itself. -/
import Derived.Test.YtapeklpnjckfkaaOrder
import Derived.Test.YtapeklpnjckfkaaFinds
namespace Go.Proofs.Ytapeklpnjckfkaa
open Go.RowKit Go.Sort
set_option linter.unusedVariables false
set_option linter.unusedSimpArgs false

theorem infoI : (Try.prog.info? 3).map (fun i => (i.zero, i.size, i.bytes)) = some (some (.int .i64 0), 1, 8) := by kernel_rfl
theorem make_ints (n : Nat) (hn : n ≤ 1000) (W : World) : ∃ c : Array Value, c.size = n ∧ ∀ W : World, (Instr.makeSlice 43 (.int .i64 (n : Int)) (.int .i64 (n : Int))).run Try.prog W = .ok (.slice (some ⟨W.heap.size, 0, none⟩) n n) (W.alloc (.cells c 3)) := by
  obtain ⟨i0, hi, hz0, hz1, hz2⟩ := info_parts infoI
  refine ⟨madeCells (Value.cells (.int .i64 0)) (n * i0.size), by rw [size_madeCells, hz1, Nat.mul_one], fun W => ?_⟩
  have h := run_make (P := Try.prog) W 43 3 i0 _ Try.underlying43 hi hz0 .i64 .i64 n n (by omega) (Int.le_refl _) (by rw [hz2]; omega) (by omega)
  simpa only [Int.toNat_natCast] using h
/-- A block of n numbers; the first k of them tell their own place. -/
def IRow (w : World) (g n k : Nat) : Prop := ∃ cur : Array Value, w.heap[g]? = some (.cells cur 3 (0, 0)) ∧ cur.size = n ∧ ∀ j, j < k → cur[j]? = some (.int .i64 (j : Int))
theorem IRow.cell {w : World} {g n k : Nat} (h : IRow w g n k) {i : Nat} (hi : i < n) : (∃ v, w.cell? ⟨g, i, none⟩ = some v) ∧ w.frozen? ⟨g, i, none⟩ = false := by
  obtain ⟨cur, h1, h2, h3⟩ := h
  exact ⟨⟨cur[i], by rw [cell_of_row w g i _ _ _ h1]; exact Array.getElem?_eq_getElem (by omega)⟩, frozen_of_row w g i _ _ h1⟩
theorem IRow.step {w : World} {g n k : Nat} (h : IRow w g n k) (hk : k < n) : IRow (w.setCell ⟨g, k, none⟩ (.int .i64 (k : Int))) g n (k + 1) := by
  obtain ⟨cur, h1, h2, h3⟩ := h
  refine ⟨cur.setIfInBounds k (.int .i64 (k : Int)), heap_setCell_same _ _ _ _ _ _ h1, by simp [h2], fun j hj => ?_⟩
  by_cases e : k = j
  · subst e; simp [h2, hk]
  · rw [Array.getElem?_setIfInBounds_ne e]; exact h3 j (by omega)
theorem IRow.holds {w : World} {g m : Nat} (h : IRow w g (m + 1) (m + 1)) : Holds (encF m) w g 0 (ids m) := by
  intro j hj
  rw [ids_size] at hj
  obtain ⟨cur, h1, h2, h3⟩ := h
  rw [Nat.zero_add, cell_of_row w g j _ _ _ h1, h3 j hj, encF, ids_get hj]
  exact ⟨rfl, frozen_of_row w g j _ _ h1⟩
theorem below_putRow {α : Type} [Inhabited α] {B : Nat} {w0 w : World} (h : RowKit.Below B w0 w) (enc : α → Value) (g off : Nat) (d : Array α) (hg : B ≤ g) : RowKit.Below B w0 (putRow enc w g off d) :=
  h.trans ⟨rfl, rfl, rfl, by simp, fun k hk => by
    unfold putRow mapBlock
    simp only [Array.getElem?_modify]
    rw [if_neg (by omega)]⟩

/-- What Order tells. -/
def OrdPost (l : List Ts) (w : World) (e : Ending) (w' : World) : Prop :=
  ∃ g o, e = .returned (.slice (some ⟨g, 0, none⟩) l.length l.length) ∧ IsOrd l o ∧ (∀ (k i : Nat), o[k]? = some i → w'.cell? ⟨g, k, none⟩ = some (.int .i64 (i : Int))) ∧ g < w'.heap.size ∧ RowKit.Below w.heap.size w w'

set_option maxRecDepth 100000 in
set_option maxHeartbeats 4000000 in
theorem order_any (A : Option Addr) (cap : Nat) (l : List Ts) (w : World) (hR : Row w A cap l) (hn : l.length ≤ 16) :
    Calls Try.prog 18 #[.slice A l.length cap] w (OrdPost l w) := by
  obtain ⟨c, hc, hmk⟩ := make_ints l.length (by omega) w
  obtain ⟨W0, hW0, hbx, hI0, hB0, hs0⟩ : ∃ W0, (w.alloc (.cells #[.slice A l.length cap] 22)).alloc (.cells c 3) = W0 ∧ W0.cell? ⟨w.heap.size, 0, none⟩ = some (.slice A l.length cap) ∧ IRow W0 (w.heap.size + 1) l.length 0 ∧ RowKit.Below w.heap.size w W0 ∧ W0.heap.size = w.heap.size + 1 + 1 := by
    refine ⟨_, rfl, ?_, ⟨c, ?_, hc, fun j hj => absurd hj (by omega)⟩, ((Below.refl w.heap.size w).alloc (Nat.le_refl _) _).alloc (by simp) _, by simp⟩
    · rw [World.cell?_alloc_lt _ _ _ (by simp), cell_of_row _ _ 0 _ _ _ (heap_alloc_new w _)]; rfl
    · have := heap_alloc_new (w.alloc (.cells #[.slice A l.length cap] 22)) (.cells c 3)
      rwa [World.size_alloc] at this
  have HW0 := Lib.hid hW0
  have ROW := Lib.hid hR
  have HB0 := Lib.hid hB0
  have HBX := Lib.hid hbx
  clear hW0 hR hc hB0
  go_enter Try.func18, Try.ntmps18
  go_upto_region 2 with (fail)
  rw [HW0.out]
  clear HW0 hmk
  go_wp2
  go_loopw [10] (fun i wr => ∃ k : Nat, k ≤ l.length ∧ i = .int .i64 k ∧ IRow wr (w.heap.size + 1) l.length k ∧ (∀ b i, b ≠ w.heap.size + 1 → b < W0.heap.size → wr.cell? ⟨b, i, none⟩ = W0.cell? ⟨b, i, none⟩) ∧ wr.heap.size = W0.heap.size ∧ RowKit.Below w.heap.size w wr) (fun i _ => l.length - (intOf i).toNat)
  case atStart => exact ⟨0, Nat.zero_le _, rfl, hI0, fun _ _ _ _ => rfl, rfl, HB0.out⟩
  case round =>
    obtain ⟨k, hk, rfl, hI, hkeep, hsz, hB⟩ := hrel
    clear hI0
    by_cases hlt : k < l.length
    · obtain ⟨⟨v, cv⟩, fv⟩ := hI.cell hlt
      have hi0 : (0 : Int) ≤ (k : Int) := by omega
      have hi1 : (k : Int) < (l.length : Int) := by omega
      have HI := Lib.hid hI
      have HK := Lib.hid hkeep
      have HB := Lib.hid hB
      have HS := Lib.hid hsz
      clear hI hkeep hB hsz hs0
      go_wp2
      go_roundw
      case rel => exact ⟨k + 1, by omega, by go_num, HI.out.step hlt, fun b i h1 h2 => by rw [World.cell?_setCell_other _ _ _ _ (by intro e; exact h1 (congrArg Addr.block e).symm)]; exact HK.out b i h1 h2, by simp [HS.out], HB.out.setCell (p := ⟨w.heap.size + 1, k, none⟩) (by simp) _⟩
      case measure => simp [intOf]; omega
    · obtain rfl : k = l.length := by omega
      have hbox : wr.cell? ⟨w.heap.size, 0, none⟩ = some (.slice A l.length cap) := (hkeep _ _ (by omega) (by omega)).trans HBX.out
      have HB := Lib.hid hB
      by_cases h0 : l = []
      · subst h0
        have HS : Hid (wr.heap.size = w.heap.size + 1 + 1) := Lib.hid (hsz.trans hs0)
        have S := Lib.hid (sort_any (fun W w' => W = w') (some ⟨w.heap.size + 1, 0, none⟩) 0 0 (.func 36) #[.pointer (some ⟨w.heap.size, 0, none⟩)] wr (by omega) (ins_zero _ _ _ _))
        clear hI hkeep hsz hs0
        simp only [List.length_nil] at *
        go_wp2_with (go_at_call 35; (with_reducible refine S.out.mono ?_); rintro e w2 ⟨rfl, rfl⟩)
        go_ret
        exact ⟨_, [], rfl, ⟨by simp, by simp⟩, by simp, by rw [HS.out]; omega, HB.out⟩
      · obtain ⟨m, hm⟩ : ∃ m, l.length = m + 1 := ⟨l.length - 1, by have : l.length ≠ 0 := fun h => h0 (List.eq_nil_of_length_eq_zero h); omega⟩
        obtain ⟨b, o, x0, rfl, hx0, hw0, hbl, hT0⟩ := ROW.out.get (k := 0) (by omega)
        have hA : Asks wr w.heap.size (w.heap.size + 1) l := ⟨⟨b, o, cap, hbox, by omega, by omega, fun k x hx => (ROW.out.at2 hx).later HB.out⟩, by omega, by omega⟩
        have hI2 := hI
        rw [hm] at hI2
        have hH := hI2.holds
        have hin := ins_any (cap := l.length) hA hm (by omega) hH
        have S := Lib.hid (sort_any (fun W w' => ∃ q, w' = (putRow (encF m) W (w.heap.size + 1) 0 (ordF (m := m) fun x => pOf l x.val)).drewN q) (some ⟨w.heap.size + 1, 0, none⟩) l.length l.length (.func 36) #[.pointer (some ⟨w.heap.size, 0, none⟩)] wr (by omega) hin)
        have HH := Lib.hid hH
        have HS : Hid (wr.heap.size = w.heap.size + 1 + 1) := Lib.hid (hsz.trans hs0)
        have HM := Lib.hid hm
        clear hI hkeep hsz hs0 hA hI2 hH hin h0 hx0 hw0 hT0 hm
        go_wp2_with (go_at_call 35; (with_reducible refine S.out.mono ?_); rintro e w2 ⟨rfl, q, rfl⟩)
        go_ret
        refine ⟨_, _, rfl, ordF_isOrd HM.out, fun k i hi => ?_, by have := HS.out; simp; omega, drewN_below (below_putRow HB.out _ _ _ _ (by omega)) _⟩
        have hsz := ordF_size (m := m) fun x => pOf l x.val
        have hk : k < m + 1 := by
          have := (List.getElem?_eq_some_iff.1 hi).1
          rw [List.length_map, Array.length_toList, hsz] at this
          exact this
        have hc := cell?_putRow (encF m) wr (w.heap.size + 1) 0 (ids m) (ordF (m := m) fun x => pOf l x.val) HH.out (by rw [hsz, ids_size]) k (by rw [hsz]; exact hk)
        rw [Nat.zero_add] at hc
        refine Eq.trans (show _ = (putRow (encF m) wr (w.heap.size + 1) 0 (ordF (m := m) fun x => pOf l x.val)).cell? ⟨w.heap.size + 1, k, none⟩ from rfl) (hc.trans ?_)
        rw [List.getElem?_map, Array.getElem?_toList, Array.getElem?_eq_getElem (by rw [hsz]; exact hk)] at hi
        rw [getElem!_pos _ k (by rw [hsz]; exact hk)]
        simp only [Option.map_some, Option.some.injEq] at hi
        rw [← hi]
end Go.Proofs.Ytapeklpnjckfkaa
