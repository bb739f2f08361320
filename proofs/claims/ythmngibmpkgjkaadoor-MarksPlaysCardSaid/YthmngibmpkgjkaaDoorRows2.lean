/- Rows of numbers; the contracts of Of and of the law's own some. -/
import Derived.Test.YthmngibmpkgjkaaDoorNext
import Derived.Maps.AppendAt
import Derived.Deep.RegionLaw
namespace Go.Proofs.YthmngibmpkgjkaaDoor
open Go.RowKit
set_option linter.unusedVariables false

/-! ### A slice that reads as a row of numbers; nil too -/
def Nums (w : World) (v : Value) (zs : List Int) : Prop :=
  (v = .slice none 0 0 ∧ zs = []) ∨ ∃ x cap, v = .slice (some x) zs.length cap ∧ zs.length ≤ cap ∧ cap ≤ maxLen ∧ ∀ i, i < zs.length → w.cell? (x.add i) = some (.int .i64 (zs.getD i 0))
def InI (zs : List Int) : Prop := ∀ n ∈ zs, -9223372036854775808 ≤ n ∧ n ≤ 9223372036854775807
theorem Nums.later {w w1 : World} {v : Value} {zs : List Int} (h : Nums w v zs) (hb : Below w.heap.size w w1) : Nums w1 v zs := by
  rcases h with h | ⟨x, cap, hv, hle, hmax, hc⟩
  · exact .inl h
  · exact .inr ⟨x, cap, hv, hle, hmax, fun i hi => by rw [hb.cell (World.block_lt_of_cell? w _ (hc i hi))]; exact hc i hi⟩
theorem InI.getD {zs : List Int} (h : InI zs) (k : Nat) (hk : k < zs.length) : -9223372036854775808 ≤ zs.getD k 0 ∧ zs.getD k 0 ≤ 9223372036854775807 :=
  h _ (by rw [List.getD_eq_getElem?_getD, List.getElem?_eq_getElem hk]; exact List.getElem_mem _)

/-! ### Of -/
def insL (f : Nat → Bool) (zs : List Int) : Nat → Bool := zs.foldl ins f
theorem insL_snoc (f : Nat → Bool) (zs : List Int) (k : Nat) (hk : k < zs.length) : insL f (zs.take (k + 1)) = ins (insL f (zs.take k)) (zs.getD k 0) := by
  unfold insL
  rw [List.take_succ_eq_append_getElem hk, List.foldl_append]
  simp [List.getD_eq_getElem?_getD, hk]
theorem insL_has (zs : List Int) : ∀ (f : Nat → Bool) (k : Nat), insL f zs k = (f k || decide ((k : Int) ∈ zs)) := by
  induction zs with
  | nil => intro f k; simp [insL]
  | cons z zs ih =>
    intro f k
    show insL (ins f z) zs k = _
    rw [ih]
    simp [ins, Bool.or_assoc]

set_option maxHeartbeats 1000000 in
theorem of_nums (v : Value) (zs : List Int) (w : World) (hv : Nums w v zs) (hz : InI zs) :
    Calls Tryd.prog 10 #[v] w fun e w' => e = .returned (setV (insL noneF zs)) ∧ Below w.heap.size w w' := by
  obtain ⟨W, hW, b1, b2, hb⟩ := zero_entry w
  have HW := Lib.hid hW
  clear hW
  rcases hv with ⟨rfl, rfl⟩ | ⟨x, cap, rfl, hle, hmax, hc⟩
  · go_enter Tryd.func10, Tryd.ntmps10
    go_wp2
    rw [HW.out]
    clear HW
    go_loopw [8] (fun i wr => i = .int .i64 0 ∧ Box wr (w.heap.size + 1) noneF ∧ Box wr w.heap.size noneF ∧ Below w.heap.size w wr) (fun i _ => 0)
    case atStart => exact ⟨rfl, b2, b1, hb⟩
    case round =>
      obtain ⟨rfl, c1, c3, hb1⟩ := hrel
      clear b1 b2 hb
      go_wp2_with (first
          | ((with_reducible show wpList _ _ _ (⟨some 16, _, _, _, _, _⟩ :: _) _ _); refine wpList_load_mid rfl 26 _ rfl _ _ rfl _ _ c1.range Tryd.underlying26 rfl (info26 _) ?_)
          | ((with_reducible show wpList _ _ _ (⟨none, Op.store 26 _ _, _, _, _, _⟩ :: _) _ _); refine wpList_store_mid rfl 26 _ _ rfl _ _ (cellsL noneF).toArray rfl rfl (c3.there _) (info26' _) (cellsL_all _) ?_)
          | ((with_reducible show bodyPost _ _ _ _ _ _); exact bodyPost_ret (results_box rfl _ _ _ _ rfl (c3.setCells _)) rfl ⟨rfl, below_setCells hb1 c3 _ (Nat.le_refl _)⟩))
  · unfold maxLen at hmax
    have HC := Lib.hid hc
    have HZ := Lib.hid hz
    clear hc hz
    generalize hl : zs.length = len at *
    have HL := Lib.hid hl
    clear hl
    go_enter Tryd.func10, Tryd.ntmps10
    go_wp2
    rw [HW.out]
    clear HW
    go_loopw [8] (fun i wr => ∃ k : Nat, k ≤ len ∧ i = .int .i64 k ∧ Box wr (w.heap.size + 1) (insL noneF (zs.take k)) ∧ Box wr w.heap.size noneF ∧ Below w.heap.size w wr) (fun i _ => len - (intOf i).toNat)
    case atStart => exact ⟨0, Nat.zero_le _, rfl, b2, b1, hb⟩
    case round =>
      obtain ⟨k, hk, rfl, c1, c3, hb1⟩ := hrel
      clear b1 b2 hb
      by_cases hlt : k < len
      · have hkz : k < zs.length := by rw [HL.out]; exact hlt
        have hcell : wr.cell? (x.add k) = some (.int .i64 (zs.getD k 0)) := by
          have h := HC.out k hlt
          rw [Below.cell hb1 (World.block_lt_of_cell? w _ h)]; exact h
        have hzb := HZ.out.getD k hkz
        have HS := Lib.hid (insL_snoc noneF zs k hkz)
        have W1 := Lib.hid (fun w => with_any (insL noneF (zs.take k)) (zs.getD k 0) w hzb.1 hzb.2)
        clear hkz
        generalize insL noneF (zs.take k) = g at *
        generalize hg2 : ins g (zs.getD k 0) = g2 at *
        clear hg2
        generalize zs.getD k 0 = z at *
        go_wp2_with (first
          | ((with_reducible show wpList _ _ _ (⟨some 12, _, _, _, _, _⟩ :: _) _ _); refine wpList_load_mid rfl 26 _ rfl _ _ rfl _ _ c1.range Tryd.underlying26 rfl (info26 _) ?_)
          | (go_at_call 15; refine (W1.out _).mono ?_; rintro e w1 ⟨rfl, hw1⟩; have d1 := c1.below hw1 c1.lt; have d3 := c3.below hw1 c3.lt; have hb2 := hb1.trans (hw1.mono hb1.size))
          | ((with_reducible show wpList _ _ _ (⟨none, Op.store 26 _ _, _, _, _, _⟩ :: _) _ _); refine wpList_store_mid rfl 26 _ _ rfl _ _ (cellsL g2).toArray rfl rfl (d1.there _) (info26' _) (cellsL_all _) ?_))
        go_roundw
        case rel => exact ⟨k + 1, by omega, by go_num, (d1.setCells g2).of_eq (by rw [HS.out]), d3.setCells_other d1 _ (by omega), below_setCells hb2 d1 _ (by omega)⟩
        case measure => simp [intOf]; omega
      · have e : zs.take k = zs := List.take_of_length_le (by rw [HL.out]; omega)
        rw [e] at c1
        clear e
        obtain rfl : k = len := by omega
        go_wp2_with (first
          | ((with_reducible show wpList _ _ _ (⟨some 16, _, _, _, _, _⟩ :: _) _ _); refine wpList_load_mid rfl 26 _ rfl _ _ rfl _ _ c1.range Tryd.underlying26 rfl (info26 _) ?_)
          | ((with_reducible show wpList _ _ _ (⟨none, Op.store 26 _ _, _, _, _, _⟩ :: _) _ _); refine wpList_store_mid rfl 26 _ _ rfl _ _ (cellsL (insL noneF zs)).toArray rfl rfl (c3.there _) (info26' _) (cellsL_all _) ?_)
          | ((with_reducible show bodyPost _ _ _ _ _ _); exact bodyPost_ret (results_box rfl _ _ _ _ rfl (c3.setCells _)) rfl ⟨rfl, below_setCells hb1 c3 _ (Nat.le_refl _)⟩))
end Go.Proofs.YthmngibmpkgjkaaDoor
