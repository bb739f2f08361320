/- Sums of many: plain facts, and contracts of the document's own Sum, and of Sum at a row of the call's own. -/
import Derived.Test.YtilhgpjaadeplaaAwake
import Derived.Maps.AppendAt
import Derived.Laws.AppendOwnNone
namespace Go.Proofs.Ytilhgpjaadeplaa
open Go.RowKit
set_option linter.unusedVariables false

/-! ### Plain facts -/
def sumI : List Int → Int
  | [] => 0
  | n :: l => n + sumI l
theorem sumI_append : ∀ (l m : List Int), sumI (l ++ m) = sumI l + sumI m
  | [], m => by simp [sumI]
  | n :: l, m => by simp only [List.cons_append, sumI, sumI_append l m]; omega
theorem sumI_reverse : ∀ l : List Int, sumI l.reverse = sumI l
  | [] => rfl
  | n :: l => by rw [List.reverse_cons, sumI_append, sumI_reverse l]; simp only [sumI]; omega
theorem sumI_nonneg : ∀ l : List Int, (∀ n ∈ l, 0 ≤ n) → 0 ≤ sumI l
  | [], _ => by simp [sumI]
  | n :: l, h => by
    have h0 := h n (by simp)
    have h1 := sumI_nonneg l fun m hm => h m (by simp [hm])
    simp only [sumI]; omega
theorem satSum_eq : ∀ (l : List Int) (s : Int), s ≤ 18446744073709551615 → (∀ n ∈ l, 0 ≤ n) → satSum s l = if s + sumI l ≤ 18446744073709551615 then s + sumI l else 18446744073709551615
  | [], s, hs, _ => by simp [satSum, sumI, hs]
  | n :: l, s, hs, h => by
    have h0 := h n (by simp)
    have hl : ∀ m ∈ l, 0 ≤ m := fun m hm => h m (by simp [hm])
    have h1 := sumI_nonneg l hl
    rw [satSum, List.foldl_cons]
    show satSum (satAdd s n) l = _
    by_cases hle : s + n ≤ 18446744073709551615
    · rw [show satAdd s n = s + n from if_pos hle, satSum_eq l _ hle hl]
      rw [show sumI (n :: l) = n + sumI l from rfl, Int.add_assoc]
    · rw [show satAdd s n = 18446744073709551615 from if_neg hle, satSum_top l hl, if_neg (by simp only [sumI]; omega)]
theorem satSum_reverse (l : List Int) (h : ∀ n ∈ l, 0 ≤ n) : satSum 0 l.reverse = satSum 0 l := by
  rw [satSum_eq _ 0 (by omega) (fun n hn => h n (List.mem_reverse.1 hn)), satSum_eq _ 0 (by omega) h, sumI_reverse]
theorem satSum_head (n : Int) (l : List Int) (h1 : n ≤ 18446744073709551615) : satSum 0 (n :: l) = satSum n l := by
  rw [satSum, List.foldl_cons, show satAdd 0 n = n from by simp [satAdd, h1]]; rfl
theorem endN_sat (s z : Int) : endN (addB s z) (addN s z) = satAdd s z := by
  simp only [satAdd, endN, addB, addN]
  by_cases hle : s + z ≤ 18446744073709551615 <;> simp [hle]

/-! ### A slice that reads as a row of numbers; nil too -/
/-- Below the first new block all is as it was. -/
def KeptW (w w' : World) : Prop := Below w.heap.size w w'
def Nums (w : World) (v : Value) (zs : List Int) : Prop :=
  (v = .slice none 0 0 ∧ zs = []) ∨ ∃ x cap, v = .slice (some x) zs.length cap ∧ zs.length ≤ cap ∧ cap ≤ maxLen ∧ ∀ i, i < zs.length → w.cell? (x.add i) = some (.int .u64 (zs.getD i 0))

theorem Nums.later {w w1 : World} {v : Value} {zs : List Int} (h : Nums w v zs) (hb : Below w.heap.size w w1) : Nums w1 v zs := by
  rcases h with h | ⟨x, cap, hv, hle, hmax, hc⟩
  · exact .inl h
  · exact .inr ⟨x, cap, hv, hle, hmax, fun i hi => by rw [hb.cell (World.block_lt_of_cell? w _ (hc i hi))]; exact hc i hi⟩
theorem add_add (x : Addr) (i j : Nat) : (x.add i).add j = x.add (i + j) := by
  unfold Addr.add
  by_cases hi : i = 0 <;> by_cases hj : j = 0 <;> simp [hi, hj, Nat.add_assoc]
theorem Nums.tail {w : World} {x : Addr} {cap : Nat} {m : Int} {zs : List Int} (hle : zs.length + 1 ≤ cap) (hmax : cap ≤ maxLen) (hc : ∀ i, i < zs.length + 1 → w.cell? (x.add i) = some (.int .u64 ((m :: zs).getD i 0))) :
    Nums w (.slice (some (x.add 1)) zs.length (cap - 1)) zs :=
  .inr ⟨x.add 1, cap - 1, rfl, by omega, by omega, fun i hi => by rw [add_add, Nat.add_comm]; simpa using hc (i + 1) (by omega)⟩
theorem sum_nil (first : Int) (w : World) : Calls Try.prog 18 #[.int .u64 first, .slice none 0 0] w fun e w' => e = .returned (.int .u64 first) ∧ w = w' := by
  go_enter Try.func18, Try.ntmps18
  go_wp2
  go_rounds 1
  go_ret
  exact ⟨rfl, rfl⟩

theorem sum_nums (first : Int) (v : Value) (zs : List Int) (h0 : 0 ≤ first) (h1 : first ≤ 18446744073709551615) (w : World) (hv : Nums w v zs) (hz : ∀ n ∈ zs, 0 ≤ n ∧ n ≤ 18446744073709551615) :
    Calls Try.prog 18 #[.int .u64 first, v] w fun e w' => e = .returned (.int .u64 (satSum first zs)) ∧ w = w' := by
  rcases hv with ⟨rfl, rfl⟩ | ⟨x, cap, rfl, hle, hmax, hc⟩
  · exact sum_nil first w
  · exact sum_any first x zs.length cap zs h0 h1 rfl hle hmax w hc hz

set_option maxHeartbeats 1000000 in
theorem refSum_nums (v : Value) (zs : List Int) (w : World) (hv : Nums w v zs) (hz : ∀ n ∈ zs, 0 ≤ n ∧ n ≤ 18446744073709551615) :
    Calls Try.prog 19 #[v] w fun e w' => e = .returned (.int .u64 (satSum 0 zs)) ∧ Below w.heap.size w w' := by
  rcases hv with ⟨rfl, rfl⟩ | ⟨x, cap, rfl, hle, hmax, hc⟩
  · go_enter Try.func19, Try.ntmps19
    go_wp2
    go_rounds 1
    go_ret
    exact ⟨rfl, Below.refl _ _⟩
  · unfold maxLen at hmax
    have HC := Lib.hid hc
    have HZ := Lib.hid hz
    clear hc hz
    generalize hl : zs.length = len at *
    have HL := Lib.hid hl
    clear hl
    go_enter Try.func19, Try.ntmps19
    go_wp2
    go_loopw [3, 4] (fun s i wr => ∃ k : Nat, k ≤ len ∧ i = .int .i64 k ∧ s = .int .u64 (satSum 0 (zs.take k)) ∧ KeptW w wr) (fun _ i _ => len - (intOf i).toNat)
    case atStart => exact ⟨0, Nat.zero_le _, rfl, rfl, Below.refl _ _⟩
    case round =>
      obtain ⟨k, hk, rfl, rfl, hbw⟩ := hrel
      have hnn : ∀ n ∈ zs.take k, 0 ≤ n := fun n hn => (HZ.out n (List.mem_of_mem_take hn)).1
      have hb := satSum_bd (zs.take k) 0 (by omega) (by omega) hnn
      clear hnn
      by_cases hlt : k < len
      · have hkz : k < zs.length := by rw [HL.out]; exact hlt
        have hcell : wr.cell? (x.add k) = some (.int .u64 (zs.getD k 0)) := by
          have h := HC.out k hlt
          rw [Below.cell hbw (World.block_lt_of_cell? w _ h)]; exact h
        have hzb : 0 ≤ zs.getD k 0 ∧ zs.getD k 0 ≤ 18446744073709551615 := HZ.out _ (by rw [List.getD_eq_getElem?_getD, List.getElem?_eq_getElem hkz]; exact List.getElem_mem _)
        have HS := Lib.hid (satSum_snoc 0 zs k hkz)
        clear hkz
        generalize zs.getD k 0 = z at *
        generalize satSum 0 (zs.take k) = s at *
        have HA := Lib.hid (refAdd_any s z hb.1 hb.2 hzb.1 hzb.2)
        have HE := Lib.hid (endN_sat s z)
        have HB : Hid (Below w.heap.size w wr) := Lib.hid hbw
        clear hbw
        generalize addN s z = n1 at *
        generalize addB s z = k1 at *
        go_wp2_with (first
          | (go_at_call 26; refine (HA.out _).mono ?_; rintro e w1 ⟨rfl, hb1⟩)
          | (go_at_call 29; refine (end_any _ _ _).mono ?_; rintro e w2 ⟨rfl, hb2⟩))
        have s1 := HB.out.size
        have s2 := hb1.size
        go_roundw
        case rel => exact ⟨k + 1, by omega, by go_num, by rw [HS.out, ← HE.out], (HB.out.trans (hb1.mono (by omega))).trans (hb2.mono (by omega))⟩
        case measure => simp [intOf]; omega
      · have HB : Hid (Below w.heap.size w wr) := Lib.hid hbw
        clear hbw
        go_wp2
        go_ret
        exact ⟨ret_u64 (by rw [List.take_of_length_le (by rw [HL.out]; omega)]), HB.out⟩

/-! ### Two rows of the call's own: the numbers, and the same in the other order -/
def cellsU (ns : List Int) : List Value := ns.map (Value.int .u64)
structure Pair (w wr : World) (vL vB : Value) (ns : List Int) : Prop where
  low : wr.ownsRow w.heap.size 22 1 vL ns.length (cellsU ns)
  back : wr.ownsRow w.heap.size 22 1 vB ns.length (cellsU ns.reverse)
  sep : vB.ownBlock = none ∨ vB.ownBlock ≠ vL.ownBlock
  nil : ns = [] → vL = .slice none 0 0 ∧ vB = .slice none 0 0
  below : Below w.heap.size w wr
theorem Pair.start (w w1 : World) (h : Below w.heap.size w w1) : Pair w w1 (.slice none 0 0) (.slice none 0 0) [] :=
  ⟨World.ownsRow_nil _ _ _ _, World.ownsRow_nil _ _ _ _, .inl rfl, fun _ => ⟨rfl, rfl⟩, h⟩
theorem own_single (w1 : World) (B : Nat) (n : Int) (hB : B ≤ w1.heap.size) : (w1.alloc (.cells #[.int .u64 n] 22)).ownsRow B 22 1 (.slice (some ⟨w1.heap.size, 0, none⟩) 1 1) 1 [.int .u64 n] :=
  ⟨rfl, .inr ⟨w1.heap.size, 1, #[.int .u64 n], rfl, hB, heap_alloc_new w1 _, by omega, by unfold maxLen; omega, rfl, rfl⟩⟩
theorem Pair.mid {w wr w1 : World} {vL vB vL' : Value} {ns : List Int} (h : Pair w wr vL vB ns) (n : Int) (hg1 : (wr.alloc (.cells #[.int .u64 n] 22)).grownBy w1 vL.ownBlock) :
    (w1.alloc (.cells #[.int .u64 n] 22)).ownsRow w.heap.size 22 1 (.slice (some ⟨w1.heap.size, 0, none⟩) 1 1) 1 [.int .u64 n] ∧ (w1.alloc (.cells #[.int .u64 n] 22)).ownsRow w.heap.size 22 1 vB ns.length (cellsU ns.reverse) ∧
      w.heap.size ≤ (w1.alloc (.cells #[.int .u64 n] 22)).heap.size ∧ Below w.heap.size w w1 := by
  have hs := h.below.size
  have hs1 := hg1.size
  simp only [World.size_alloc] at hs1
  refine ⟨own_single w1 _ n (by omega), ((h.back.alloc _).kept hg1 h.sep).alloc _, by simp; omega, ?_⟩
  exact (h.below.alloc hs _).grown hg1 (by simp; omega) fun k hk => (h.low.lt k hk).1
theorem Pair.done {w wr w1 w2 : World} {vL vB vL' vB' : Value} {ns : List Int} (h : Pair w wr vL vB ns) (n : Int) (hg1 : (wr.alloc (.cells #[.int .u64 n] 22)).grownBy w1 vL.ownBlock)
    (o1 : w1.ownsRow w.heap.size 22 1 vL' (ns.length + 1) (cellsU ns ++ [.int .u64 n])) (o2 : w2.ownsRow w.heap.size 22 1 vB' (1 + ns.length) ([.int .u64 n] ++ cellsU ns.reverse))
    (hg2 : (w1.alloc (.cells #[.int .u64 n] 22)).grownBy w2 (some w1.heap.size)) (hat : vB'.ownBlock = some w1.heap.size ∨ vB'.ownBlock = some (w1.alloc (.cells #[.int .u64 n] 22)).heap.size) : Pair w w2 vL' vB' (ns ++ [n]) := by
  obtain ⟨_, _, hsz, hb⟩ := h.mid (vL' := vL') n hg1
  have hne : vL'.ownBlock = none ∨ vL'.ownBlock ≠ some w1.heap.size := by
    cases hv : vL'.ownBlock with
    | none => exact .inl rfl
    | some g =>
      refine .inr fun e => ?_
      injection e with e
      subst e
      exact absurd (o1.lt _ hv).2 (by omega)
  refine ⟨?_, ?_, ?_, fun e => by simp at e, ?_⟩
  · have := (o1.alloc (.cells #[.int .u64 n] 22)).kept hg2 hne
    simpa [cellsU] using this
  · have e : (ns ++ [n]).length = 1 + ns.length := by simp; omega
    rw [e]
    simpa [cellsU] using o2
  · refine .inr fun e => ?_
    rcases hat with ha | ha <;> rw [ha] at e
    · exact absurd (o1.lt _ e.symm).2 (by omega)
    · exact absurd (o1.lt _ e.symm).2 (by simp)
  · exact (hb.alloc hb.size _).grown hg2 (by simp; have := hb.size; omega) fun k hk => by injection hk with hk; subst hk; exact hb.size
/-- What a row of the call's own is good for: it reads as its numbers. -/
theorem own_nums {w : World} {B : Nat} {v : Value} {ns : List Int} (h : w.ownsRow B 22 1 v ns.length (cellsU ns)) : Nums w v ns := by
  have hc := fun g (hg : v.ownBlock = some g) => h.cells hg
  rcases h.2 with ⟨hv, h0⟩ | ⟨g, cap, cur, hv, _, _, hle, hmax, _, _⟩
  · exact .inl ⟨hv, List.eq_nil_of_length_eq_zero h0⟩
  · subst hv
    refine .inr ⟨⟨g, 0, none⟩, cap, rfl, hle, hmax, fun i hi => ?_⟩
    refine hc g rfl i _ ?_
    simp [cellsU, List.getD_eq_getElem?_getD, hi]
end Go.Proofs.Ytilhgpjaadeplaa
