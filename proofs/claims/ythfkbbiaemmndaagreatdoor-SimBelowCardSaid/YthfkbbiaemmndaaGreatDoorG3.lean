/- Texts about the program, one after the other: Base, Strs, Begun, Range, Pieces. -/
import Derived.WalkKit
import Derived.ProofKit
import Derived.Handy
import Derived.Lib.Hide
import Derived.Deep.MidRow
import Derived.Deep.QuietTactic
import Derived.BigQuiet
import Derived.Deep.RegionHeld3
import Derived.Laws.Externs
import Derived.Shelf.Small.Bits
import Derived.Shelf.Small.Strs
import Derived.Shelf.Small.Wraps
import Derived.Shelf.Strconv.Itoa0
import Derived.Shelf.LaysM
import Derived.Shelf.Strconv.Clone
import Derived.Shelf.Strings.Search1
import Derived.Shelf.Bits.Mul64
import Derived.Ground.Names2Prog
import Derived.Shelf.Slices.SearchI
import Derived.Test.YthfkbbiaemmndaaGreatDoorRows
import Derived.Test.YthfkbbiaemmndaaGreatDoorProg
import Derived.RangeFuncBox
import Derived.Deep.CutBlock
import Derived.RangeFuncNested
import Derived.RangeFuncBound
import Derived.RangeFuncCalls
import Derived.RangeFuncLeaves
import Derived.RangeFuncWrites
import Derived.Shelf.Abstract
import Derived.OwnWalkIn
import Derived.TacticsInMore
import Derived.LoopNIn
import Derived.LoopIn
import Derived.Test.YthfkbbiaemmndaaGreatDoorG1
import Derived.Test.YthfkbbiaemmndaaGreatDoorG2
set_option linter.unusedVariables false
set_option linter.unusedSimpArgs false
set_option maxRecDepth 100000
set_option maxHeartbeats 16000000
namespace Go.Proofs.YthfkbbiaemmndaaGreatDoor
section
open Go.RowKit
def bs (l : List UInt8) : ByteArray := ⟨l.toArray⟩
theorem bs_size (l : List UInt8) : (bs l).size = l.length := by simp [bs, ByteArray.size]
abbrev tkV (x : Tk) : Value := .agg #[.int .i64 (x.k : Int), .int .i64 (x.at' : Int), .string (bs x.t), .int .i64 (x.n : Int)]
theorem same_of {P : Program} {f : FuncId} {args : Array Value} {w : World} {v : Value} (h : Calls P f args w fun e w' => e = .returned v ∧ w = w') : Calls P f args w fun e w' => e = .returned v ∧ w' = w := h.mono fun _ _ h => ⟨h.1, h.2.symm⟩
theorem byte_nat (c : UInt8) : ∃ n : Nat, n = c.toNat ∧ n < 256 := ⟨_, rfl, c.toNat_lt⟩
theorem letter_any (c : UInt8) (w : World) : Calls Tryz.prog 188 #[.int .u8 (c.toNat : Int)] w fun e w' => e = .returned (.bool (ltr c)) ∧ w = w' := by
 obtain ⟨n, hn, hc⟩ := byte_nat c
 have hl : ltr c = decide ((97 ≤ n ∧ n ≤ 122) ∨ (65 ≤ n ∧ n ≤ 90) ∨ n = 95) := by rw [hn]; rfl
 rw [hl]
 rw [← hn]
 clear hl hn
 go_enter Tryz.func188, Tryz.ntmps188
 by_cases h1 : 97 ≤ n <;> by_cases h2 : n ≤ 122 <;> by_cases h3 : 65 ≤ n <;> by_cases h4 : n ≤ 90 <;> by_cases h5 : n = 95 <;> first | omega | (go_wp2; go_ret; simp [*]; try omega)
theorem digit_any (c : UInt8) (w : World) : Calls Tryz.prog 189 #[.int .u8 (c.toNat : Int)] w fun e w' => e = .returned (.bool (dgt c)) ∧ w = w' := by
 obtain ⟨n, hn, hc⟩ := byte_nat c
 have hl : dgt c = decide (48 ≤ n ∧ n ≤ 57) := by rw [hn]; rfl
 rw [hl]
 rw [← hn]
 clear hl hn
 go_enter Tryz.func189, Tryz.ntmps189
 by_cases h1 : 48 ≤ n <;> by_cases h2 : n ≤ 57 <;> first | omega | (go_wp2; go_ret; simp [*]; try omega)
theorem kindOf_any (c : UInt8) (w : World) : Calls Tryz.prog 182 #[.int .u8 (c.toNat : Int)] w fun e w' => e = .returned (.int .i64 (kind c : Int)) ∧ w = w' := by
 obtain ⟨n, hn, hc⟩ := byte_nat c
 have L := Lib.hid (fun w => letter_any c w)
 have D := Lib.hid (fun w => digit_any c w)
 have hk : kind c = if ltr c then 1 else if dgt c then 2 else if n = 61 then 3 else if n = 10 then 4 else 0 := by rw [hn]; rfl
 rw [hk]
 rw [← hn] at L D ⊢
 clear hk hn
 generalize ltr c = a at *
 generalize dgt c = b at *
 go_enter Tryz.func182, Tryz.ntmps182
 cases a <;> cases b <;> by_cases h3 : n = 61 <;> by_cases h4 : n = 10 <;> first | omega | (
  (try subst h3)
  (try subst h4)
  go_wp2_with (first
   | (go_at_call 188; refine (L.out _).mono ?_; rintro e w' ⟨rfl, rfl⟩)
   | (go_at_call 189; refine (D.out _).mono ?_; rintro e w' ⟨rfl, rfl⟩))
  all_goals (first | (go_ret; simp [*]; try omega) | omega))
theorem goesOn_any (k : Nat) (c : UInt8) (w : World) : Calls Tryz.prog 183 #[.int .i64 (k : Int), .int .u8 (c.toNat : Int)] w fun e w' => e = .returned (.bool (goes k c)) ∧ w = w' := by
 obtain ⟨n, hn, hc⟩ := byte_nat c
 have L := Lib.hid (fun w => letter_any c w)
 have D := Lib.hid (fun w => digit_any c w)
 have hk : goes k c = ((dgt c && (decide (k = 1) || decide (k = 2))) || (decide (k = 1) && (ltr c || decide (n = 46) || decide (n = 45)))) := by rw [hn]; rfl
 rw [hk]
 rw [← hn] at L D ⊢
 clear hk hn
 generalize ltr c = a at *
 generalize dgt c = b at *
 go_enter Tryz.func183, Tryz.ntmps183
 cases a <;> cases b <;> by_cases h1 : k = 1 <;> by_cases h2 : k = 2 <;> by_cases h3 : n = 46 <;> by_cases h4 : n = 45 <;> first | omega | (
  (try subst h1)
  (try subst h2)
  (try subst h3)
  (try subst h4)
  go_wp2_with (first
   | (go_at_call 188; refine (L.out _).mono ?_; rintro e w' ⟨rfl, rfl⟩)
   | (go_at_call 189; refine (D.out _).mono ?_; rintro e w' ⟨rfl, rfl⟩))
  all_goals (first | (go_ret; simp [*]; try omega) | omega))
end
section
open Go.RowKit
theorem ret_int {k : IntKind} {a b : Int} (h : a = b) : Ending.returned (.int k a) = .returned (.int k b) := by rw [h]
theorem drop_get (s : ByteArray) (i : Nat) (h : i < s.size) : s.data.toList.drop i = s[i] :: s.data.toList.drop (i + 1) := by
 have h' : i < s.data.toList.length := by rw [← Lib.size_eq]; exact h
 rw [List.drop_eq_getElem_cons h']
 rfl
theorem noteLen_ten (c : UInt8) (r : List UInt8) (h : c.toNat = 10) : noteLen (c :: r) = 0 := by rw [noteLen, if_pos h]
theorem noteLen_not (c : UInt8) (r : List UInt8) (h : c.toNat ≠ 10) : noteLen (c :: r) = noteLen r + 1 := by rw [noteLen, if_neg h]
theorem is10 (c : UInt8) : (c == 10) = decide (c.toNat = 10) := by
 rw [Bool.eq_iff_iff]
 simp [← UInt8.toNat_inj]
theorem indexByte_note (l : List UInt8) : Lib.indexByte l 10 = if noteLen l < l.length then (noteLen l : Int) else -1 := by
 induction l with
 | nil => rfl
 | cons c r ih =>
   unfold Lib.indexByte
   rw [is10]
   by_cases h : c.toNat = 10
   ·rw [noteLen_ten c r h]; simp [h]
   ·rw [noteLen_not c r h, ih]
    simp only [h, decide_false, Bool.false_eq_true, if_false, List.length_cons]
    by_cases h2 : noteLen r < r.length
    ·rw [if_pos h2, if_neg (show ¬ (((noteLen r : Nat) : Int) == -1) = true by simp), if_pos (show noteLen r + 1 < r.length + 1 by omega)]; rfl
    ·rw [if_neg h2, if_neg (show ¬ noteLen r + 1 < r.length + 1 by omega)]; rfl
theorem lineEnd_any (s : ByteArray) (i : Nat) (w : World) (hi : i ≤ s.size) (hs : s.size ≤ 100000) : Calls Tryz.prog 173 #[.string s, .int .i64 (i : Int)] w fun e w' => e = .returned (.int .i64 ((i + noteLen (s.data.toList.drop i) : Nat) : Int)) ∧ w = w' := by
 have h0 := Tryz.strings_IndexByte (s.extract i s.size) 10 w
 have e0 : (s.extract i s.size).data.toList = s.data.toList.drop i := by
  rw [Lib.extract_data, List.take_of_length_le (by rw [List.length_drop, ← Lib.size_eq]; exact Nat.le_refl _)]
 have e1 : ((10 : Int).toNat.toUInt8) = 10 := rfl
 have hl : (s.data.toList.drop i).length = s.size - i := by rw [List.length_drop, ← Lib.size_eq]
 have hn := noteLen_le (s.data.toList.drop i)
 rw [e0, e1, indexByte_note, hl] at h0
 rw [hl] at hn
 clear e0 e1 hl
 generalize noteLen (s.data.toList.drop i) = n at *
 by_cases hlt : n < s.size - i
 ·rw [if_pos hlt] at h0
  have H := Lib.hid h0
  clear h0
  go_enter Tryz.func173, Tryz.ntmps173
  go_wp2_with (go_at_call 181; refine H.out.mono ?_; rintro e w' ⟨rfl, rfl⟩)
  go_ret
  exact ⟨ret_int (by omega), rfl⟩
 ·rw [if_neg hlt] at h0
  have H := Lib.hid h0
  clear h0
  go_enter Tryz.func173, Tryz.ntmps173
  go_wp2_with (go_at_call 181; refine H.out.mono ?_; rintro e w' ⟨rfl, rfl⟩)
  go_ret
  exact ⟨ret_int (by omega), rfl⟩
theorem take_snoc (l : List UInt8) (k : Nat) (h : k < l.length) : l.take (k + 1) = l.take k ++ [l[k]] := List.take_succ_eq_append_getElem h
theorem bs_get (l : List UInt8) (k : Nat) (h : k < l.length) (h' : k < (bs l).size) : (bs l)[k] = l[k] := by
 show l.toArray[k]'(by simpa using h) = l[k]
 rw [List.getElem_toArray]
 rfl
theorem number_any (l : List UInt8) (w : World) (hd : ∀ c ∈ l, dgt c = true) (hs : l.length ≤ 100000) : Calls Tryz.prog 185 #[.string (bs l)] w fun e w' => e = .returned (.int .i64 (numOf l : Int)) ∧ w = w' := by
 have HS := Lib.hid (bs_size l)
 have HD := Lib.hid hd
 clear hd
 go_enter Tryz.func185, Tryz.ntmps185
 go_wp2
 go_loop [3, 7] (fun n i => ∃ k : Nat, k ≤ (bs l).size ∧ i = .int .i64 k ∧ n = .int .i64 (numOf (l.take k) : Int)) (fun _ i => (bs l).size - (intOf i).toNat)
 case atStart => exact ⟨0, Nat.zero_le _, rfl, by simp [numOf]⟩
 case round =>
  obtain ⟨k, hk, rfl, rfl⟩ := hrel
  have hle := numOf_le (l.take k)
  by_cases hlt : k < (bs l).size
  ·have hlt' : k < l.length := by rw [← HS.out]; exact hlt
   have h1 := numOf_snoc (l.take k) l[k]
   rw [← take_snoc l k hlt'] at h1
   have hg := bs_get l k hlt' hlt
   have hdk := HD.out l[k] (List.getElem_mem hlt')
   have hbig : k ≤ 100000 := by omega
   generalize l[k] = c at *
   have H1 := Lib.hid h1
   have hc : 48 ≤ c.toNat ∧ c.toNat ≤ 57 := by simpa [dgt] using hdk
   obtain ⟨hc1, hc2⟩ := hc
   clear h1 hdk
   generalize numOf (l.take k) = m at *
   go_wp2
   all_goals
    go_round
    case rel => exact ⟨k + 1, by omega, by go_num, by rw [H1.out]; go_num⟩
    case measure => simp [intOf]; omega
  ·go_wp2
   go_ret
   exact ⟨ret_int (by rw [List.take_of_length_le (by rw [← HS.out]; omega)]), rfl⟩
theorem clone_any (s : ByteArray) (w : World) (hs : s.size ≤ 100000) : Calls Tryz.prog 184 #[.string s] w fun e w' => e = .returned (.string s) ∧ Below w.heap.size w w' := by
 have H := Lib.hid (Tryz.stringslite_Clone s w (by omega))
 go_enter Tryz.func184, Tryz.ntmps184
 go_wp2_with (go_at_call 190; refine H.out.mono ?_; rintro e w' ⟨rfl, hb⟩)
 go_ret
 exact ⟨rfl, hb⟩
theorem extract_tok (s : ByteArray) (i j : Nat) (hi : i < s.size) (hij : i + 1 ≤ j) : s.extract i j = bs (s[i] :: (s.data.toList.drop (i + 1)).take (j - (i + 1))) := by
 rw [Lib.extract_eq, drop_get s i hi, show j - i = (j - (i + 1)) + 1 by omega, List.take_succ_cons]
 rfl
end
section
open Go.RowKit
theorem info36 (x : Tk) : (Tryz.prog.info? 173).map (·.size) = some 4 := by kernel_rfl
abbrev tkC (x : Tk) : Array Value := #[.int .i64 (x.k : Int), .int .i64 (x.at' : Int), .string (bs x.t), .int .i64 (x.n : Int)]
structure TB (W : World) (b : Nat) (x : Tk) : Prop where
 is : W.heap[b]? = some (.cells (tkC x) 173 (0, 0))
theorem TB.lt {W : World} {b : Nat} {x : Tk} (h : TB W b x) : b < W.heap.size := (Array.getElem?_eq_some_iff.1 h.is).1
theorem TB.c0 {W : World} {b : Nat} {x : Tk} (h : TB W b x) : W.cell? ⟨b, 0, none⟩ = some (.int .i64 (x.k : Int)) := by rw [cell_of_row W b 0 _ _ _ h.is]; rfl
theorem TB.c1 {W : World} {b : Nat} {x : Tk} (h : TB W b x) : W.cell? ⟨b, 1, none⟩ = some (.int .i64 (x.at' : Int)) := by rw [cell_of_row W b 1 _ _ _ h.is]; rfl
theorem TB.c2 {W : World} {b : Nat} {x : Tk} (h : TB W b x) : W.cell? ⟨b, 2, none⟩ = some (.string (bs x.t)) := by rw [cell_of_row W b 2 _ _ _ h.is]; rfl
theorem TB.c3 {W : World} {b : Nat} {x : Tk} (h : TB W b x) : W.cell? ⟨b, 3, none⟩ = some (.int .i64 (x.n : Int)) := by rw [cell_of_row W b 3 _ _ _ h.is]; rfl
theorem TB.frozen {W : World} {b : Nat} {x : Tk} (h : TB W b x) (i : Nat) : W.frozen? ⟨b, i, none⟩ = false := frozen_of_row W b i _ _ h.is
theorem TB.below {W W' : World} {b B : Nat} {x : Tk} (h : TB W b x) (hb : Below B W W') (hB : b < B) : TB W' b x := ⟨(hb.block b hB).trans h.is⟩
theorem TB.later {W W' : World} {b : Nat} {x : Tk} (h : TB W b x) (hb : Below W.heap.size W W') : TB W' b x := h.below hb h.lt
theorem TB.alloc {W : World} {b : Nat} {x : Tk} (h : TB W b x) (o : Obj) : TB (W.alloc o) b x := ⟨(Below.heap_alloc W o b h.lt).trans h.is⟩
theorem TB.new (W : World) (x : Tk) : TB (W.alloc (.cells (tkC x) 173)) W.heap.size x := ⟨heap_alloc_new W _⟩
theorem TB.other {W : World} {b : Nat} {x : Tk} (h : TB W b x) (a : Addr) (v : Value) (hb : b ≠ a.block) : TB (W.setCell a v) b x := ⟨(heap_setCell_other W a b v hb).trans h.is⟩
def tkB (i : Nat) (c : UInt8) (r : List UInt8) : Tk := if kind c = 0 then ⟨0, i, [], 0⟩ else tkOf i c r
theorem below_drewN {B : Nat} {a w : World} (h : Below B a w) (n : Nat) : Below B a (w.drewN n) := h.trans ⟨rfl, rfl, rfl, Nat.le_refl _, fun _ _ => rfl⟩
theorem TB.drewN {W : World} {b : Nat} {x : Tk} (h : TB W b x) (n : Nat) : TB (W.drewN n) b x := ⟨h.is⟩
theorem TB.whole {W : World} {b : Nat} {x y : Tk} (h : TB W b x) : TB ((((W.setCell ⟨b, 0, none⟩ (.int .i64 (y.k : Int))).setCell ⟨b, 1, none⟩ (.int .i64 (y.at' : Int))).setCell ⟨b, 2, none⟩ (.string (bs y.t))).setCell ⟨b, 3, none⟩ (.int .i64 (y.n : Int))) b y := by
 have h0 := heap_setCell_same W b 0 _ _ (.int .i64 (y.k : Int)) h.is
 have h1 := heap_setCell_same _ b 1 _ _ (.int .i64 (y.at' : Int)) h0
 have h2 := heap_setCell_same _ b 2 _ _ (.string (bs y.t)) h1
 exact ⟨heap_setCell_same _ b 3 _ _ (.int .i64 (y.n : Int)) h2⟩
theorem results_tok {fn : Func} {p : Tmp} (h : fn.results = #[.cell p 173]) (tmps : Array Value) (w : World) (b : Nat) (x : Tk) (hp : tmps.getD p undef = .pointer (some ⟨b, 0, none⟩)) (hb : TB w b x) :
  (results fn tmps).run Tryz.prog w = .ok (tkV x) w :=
 results_cell_row h tmps w b _ _ _ _ hp hb.is Tryz.underlying173 rfl (info36 x)
theorem two_toks (w : World) (k i : Nat) : ∃ W1, (w.alloc (.cells #[.int .i64 0, .int .i64 0, .string { data := #[] }, .int .i64 0] 173)).alloc (.cells #[.int .i64 (k : Int), .int .i64 (i : Int), .string { data := #[] }, .int .i64 0] 173) = W1 ∧
  TB W1 w.heap.size ⟨0, 0, [], 0⟩ ∧ TB W1 (w.heap.size + 1) ⟨k, i, [], 0⟩ ∧ Below w.heap.size w W1 := by
 have T4 := (TB.new w ⟨0, 0, [], 0⟩).alloc (.cells (tkC ⟨k, i, [], 0⟩) 173)
 have T5 := TB.new (w.alloc (.cells (tkC ⟨0, 0, [], 0⟩) 173)) ⟨k, i, [], 0⟩
 rw [World.size_alloc] at T5
 exact ⟨_, rfl, T4, T5, ((Below.refl _ _).alloc (Nat.le_refl _) _).alloc (by simp) _⟩
theorem tk_eq {x : Tk} {k i n : Nat} (h1 : x.k = k) (h2 : x.at' = i) (h3 : x.n = n) : tkV ⟨k, i, x.t, n⟩ = tkV x := by subst h1 h2 h3; rfl
theorem below_whole {B b : Nat} {w W : World} (h : Below B w W) (hb : B ≤ b) (u0 u1 u2 u3 : Value) : Below B w ((((W.setCell ⟨b, 0, none⟩ u0).setCell ⟨b, 1, none⟩ u1).setCell ⟨b, 2, none⟩ u2).setCell ⟨b, 3, none⟩ u3) :=
 (((h.setCell (p := ⟨b, 0, none⟩) hb _).setCell (p := ⟨b, 1, none⟩) hb _).setCell (p := ⟨b, 2, none⟩) hb _).setCell (p := ⟨b, 3, none⟩) hb _
theorem begun_any (s : ByteArray) (i : Nat) (w : World) (hi : i < s.size) (hs : s.size ≤ 100000) : Calls Tryz.prog 174 #[.string s, .int .i64 (i : Int)] w fun e w' => e = .returned (tkV (tkB i s[i] (s.data.toList.drop (i + 1)))) ∧ Below w.heap.size w w' := by
 obtain ⟨c, hc⟩ : ∃ c, s[i] = c := ⟨_, rfl⟩
 rw [hc]
 have K := Lib.hid (fun w => kindOf_any c w)
 have hk4 := kind_le c
 by_cases hk : kind c = 0
 ·have hk0 : tkB i c (s.data.toList.drop (i + 1)) = ⟨0, i, [], 0⟩ := by rw [tkB, if_pos hk]
  rw [hk0]
  rw [hk] at K
  obtain ⟨W1, hW1, T4, T5, B1⟩ := two_toks w 0 i
  have HW := Lib.hid hW1
  clear hk0 hk hW1
  go_enter Tryz.func174, Tryz.ntmps174
  go_upto_region 2 with (go_at_call 182; refine (K.out _).mono ?_; rintro e w' ⟨rfl, rfl⟩)
  rw [show ((0 : Nat) : Int) = 0 from rfl] at HW
  rw [HW.out]
  have c0 := T5.c0
  have c1 := T5.c1
  have c2 := T5.c2
  have c3 := T5.c3
  have f4 := T4.frozen
  have d0 := T4.c0
  have d1 := T4.c1
  have d2 := T4.c2
  have d3 := T4.c3
  go_wp2
  have R := T4.whole (y := ⟨0, i, [], 0⟩)
  exact bodyPost_ret (v := tkV ⟨0, i, [], 0⟩) (results_tok rfl _ _ _ _ rfl R) rfl ⟨rfl, below_whole B1 (Nat.le_refl _) _ _ _ _⟩
 ·have hk0 : tkB i c (s.data.toList.drop (i + 1)) = tkOf i c (s.data.toList.drop (i + 1)) := by rw [tkB, if_neg hk]
  rw [hk0]
  generalize hx : tkOf i c (s.data.toList.drop (i + 1)) = x
  have hxl : x.k = kind c ∧ x.at' = i ∧ x.t = c :: (s.data.toList.drop (i + 1)).take (runLen (kind c) (s.data.toList.drop (i + 1))) ∧ (x.n = if kind c = 2 then numOf x.t else 0) ∧ x.t.length ≤ 100000 ∧ (kind c = 2 → ∀ d ∈ x.t, dgt d = true) := by
   subst hx
   exact ⟨rfl, rfl, rfl, rfl, by have := List.length_take_le (runLen (kind c) (s.data.toList.drop (i + 1))) (s.data.toList.drop (i + 1)); have := Lib.size_eq s; simp only [tkOf, List.length_cons] at *; rw [List.length_take]; simp; omega, tkOf_digits⟩
  have HX := Lib.hid hxl
  clear hk0 hx hxl
  generalize kind c = k at *
  obtain ⟨W1, hW1, T4, T5, B1⟩ := two_toks w k i
  have HW := Lib.hid hW1
  clear hW1
  have hk' : ((k : Int) == 0) = false := by simp; omega
  have C := Lib.hid hc
  go_enter Tryz.func174, Tryz.ntmps174
  go_upto_region 2 with (go_at_call 182; refine (K.out _).mono ?_; rintro e w' ⟨rfl, rfl⟩)
  rw [HW.out]
  clear hc HW K
  have c0 := T5.c0
  go_wp2
  clear c0
  go_loopw [6] (fun e wr => ∃ j : Nat, i + 1 ≤ j ∧ j ≤ s.size ∧ e = .int .i64 j ∧ Hid (runLen k (s.data.toList.drop (i + 1)) = (j - (i + 1)) + runLen k (s.data.toList.drop j)) ∧ TB wr w.heap.size ⟨0, 0, [], 0⟩ ∧ TB wr (w.heap.size + 1) ⟨k, i, [], 0⟩ ∧ Below w.heap.size w wr) (fun e _ => s.size - (intOf e).toNat)
  case atStart => exact ⟨i + 1, Nat.le_refl _, by omega, by go_num, Lib.hid (by omega), T4, T5, B1⟩
  case round =>
   clear T4 T5 B1
   obtain ⟨j, hj1, hj2, rfl, hr, T4, T5, B1⟩ := hrel
   have c0 := T5.c0
   by_cases hlt : j < s.size
   ·obtain ⟨d, hd⟩ : ∃ d, s[j] = d := ⟨_, rfl⟩
    have G := Lib.hid (fun w => goesOn_any k d w)
    have hr2 := hr.out
    rw [drop_get s j hlt, hd, runLen] at hr2
    have HD := Lib.hid hr2
    have hdk : decide ((j : Int) < (s.size : Int)) = true := decide_eq_true (by omega)
    clear hr2 hr
    cases hg : goes k d
    ·rw [hg] at G
     rw [hg, if_neg (by simp)] at HD
     clear hg
     go_wp2
     go_quiet ((go_at_call 183; exact Calls.quiet_of_same (same_of (G.out _))))
     have T4' := T4.drewN nq
     have T5' := T5.drewN nq
     have B1' := below_drewN B1 nq
     generalize wr.drewN nq = W2 at *
     have hx : s.extract i j = bs x.t := by rw [extract_tok s i j hi hj1, C.out, HX.out.2.2.1]; congr 3; have := HD.out; omega
     have N := Lib.hid (fun w hd => number_any x.t w hd HX.out.2.2.2.2.1)
     have L := Lib.hid (fun w => clone_any (bs x.t) w (by rw [bs_size]; exact HX.out.2.2.2.2.1))
     clear T4 T5 B1 c0 HD
     have hw4 := T4'.lt
     have hij : (i : Int) ≤ (j : Int) := by omega
     by_cases hk2 : k = 2
     ·have hd2 := Lib.hid (HX.out.2.2.2.2.2 hk2)
      have ht2 : ((k : Int) == 2) = true := by simp; omega
      have HK2 := Lib.hid hk2
      clear hk2
      go_wp2_with (first
       | (go_at_call 184; refine (L.out _).mono ?_; rintro e W3 ⟨rfl, h3⟩; have T4b := T4'.later h3; have T5b := T5'.later h3; have B3 := B1'.trans (h3.mono B1'.size); have f5 := T5b.frozen; have c0 := T5b.c0; have c1 := T5b.c1; have c2 := T5b.c2; have e3 := T5b.c3; have g4 := T4b.frozen; have q0 := T4b.c0; have q1 := T4b.c1; have q2 := T4b.c2; have q3 := T4b.c3; clear T4' T5' B1')
       | (go_at_call 185; refine (N.out _ hd2.out).mono ?_; rintro e W4 ⟨rfl, rfl⟩))
      have R := ((T4b.other ⟨w.heap.size + 1, 2, none⟩ (.string (bs x.t)) (by simp)).other ⟨w.heap.size + 1, 3, none⟩ (.int .i64 (numOf x.t : Int)) (by simp)).whole (y := ⟨k, i, x.t, numOf x.t⟩)
      exact bodyPost_ret (v := tkV ⟨k, i, x.t, numOf x.t⟩) (results_tok rfl _ _ _ _ rfl R) rfl ⟨congrArg Ending.returned (tk_eq HX.out.1 HX.out.2.1 (by rw [HX.out.2.2.2.1, if_pos HK2.out])), below_whole ((B3.setCell (p := ⟨w.heap.size + 1, 2, none⟩) (Nat.le_succ _) _).setCell (p := ⟨w.heap.size + 1, 3, none⟩) (Nat.le_succ _) _) (Nat.le_refl _) _ _ _ _⟩
     ·have ht2 : ((k : Int) == 2) = false := by simp; omega
      have HK2 := Lib.hid hk2
      clear hk2
      go_wp2_with (go_at_call 184; refine (L.out _).mono ?_; rintro e W3 ⟨rfl, h3⟩; have T4b := T4'.later h3; have T5b := T5'.later h3; have B3 := B1'.trans (h3.mono B1'.size); have f5 := T5b.frozen; have c0 := T5b.c0; have c1 := T5b.c1; have c2 := T5b.c2; have e3 := T5b.c3; have g4 := T4b.frozen; have q0 := T4b.c0; have q1 := T4b.c1; have q2 := T4b.c2; have q3 := T4b.c3; clear T4' T5' B1')
      have R := (T4b.other ⟨w.heap.size + 1, 2, none⟩ (.string (bs x.t)) (by simp)).whole (y := ⟨k, i, x.t, 0⟩)
      exact bodyPost_ret (v := tkV ⟨k, i, x.t, 0⟩) (results_tok rfl _ _ _ _ rfl R) rfl ⟨congrArg Ending.returned (tk_eq HX.out.1 HX.out.2.1 (by rw [HX.out.2.2.2.1, if_neg HK2.out])), below_whole (B3.setCell (p := ⟨w.heap.size + 1, 2, none⟩) (Nat.le_succ _) _) (Nat.le_refl _) _ _ _ _⟩
    ·rw [hg] at G
     rw [hg, if_pos rfl] at HD
     clear hg
     go_wp2
     go_quiet ((go_at_call 183; exact Calls.quiet_of_same (same_of (G.out _))))
     have T4' := T4.drewN nq
     have T5' := T5.drewN nq
     have B1' := below_drewN B1 nq
     clear T4 T5 B1 c0
     go_wp2
     go_roundw
     case rel => exact ⟨j + 1, by omega, by omega, by go_num, Lib.hid (by have := HD.out; omega), T4', T5', B1'⟩
     case measure => simp [intOf]; omega
   ·have HD : Hid (runLen k (s.data.toList.drop (i + 1)) = j - (i + 1) + 0) := by
     have hr2 := hr.out
     rw [show s.data.toList.drop j = [] from List.drop_of_length_le (by rw [← Lib.size_eq]; omega)] at hr2
     exact Lib.hid hr2
    have hdk : decide ((j : Int) < (s.size : Int)) = false := decide_eq_false (by omega)
    clear hr
    go_wp2
    go_quiet (fail)
    have T4' := T4.drewN nq
    have T5' := T5.drewN nq
    have B1' := below_drewN B1 nq
    generalize wr.drewN nq = W2 at *
    have hx : s.extract i j = bs x.t := by rw [extract_tok s i j hi hj1, C.out, HX.out.2.2.1]; congr 3; have := HD.out; omega
    have N := Lib.hid (fun w hd => number_any x.t w hd HX.out.2.2.2.2.1)
    have L := Lib.hid (fun w => clone_any (bs x.t) w (by rw [bs_size]; exact HX.out.2.2.2.2.1))
    clear T4 T5 B1 c0 HD
    have hw4 := T4'.lt
    have hij : (i : Int) ≤ (j : Int) := by omega
    by_cases hk2 : k = 2
    ·have hd2 := Lib.hid (HX.out.2.2.2.2.2 hk2)
     have ht2 : ((k : Int) == 2) = true := by simp; omega
     have HK2 := Lib.hid hk2
     clear hk2
     go_wp2_with (first
      | (go_at_call 184; refine (L.out _).mono ?_; rintro e W3 ⟨rfl, h3⟩; have T4b := T4'.later h3; have T5b := T5'.later h3; have B3 := B1'.trans (h3.mono B1'.size); have f5 := T5b.frozen; have c0 := T5b.c0; have c1 := T5b.c1; have c2 := T5b.c2; have e3 := T5b.c3; have g4 := T4b.frozen; have q0 := T4b.c0; have q1 := T4b.c1; have q2 := T4b.c2; have q3 := T4b.c3; clear T4' T5' B1')
      | (go_at_call 185; refine (N.out _ hd2.out).mono ?_; rintro e W4 ⟨rfl, rfl⟩))
     have R := ((T4b.other ⟨w.heap.size + 1, 2, none⟩ (.string (bs x.t)) (by simp)).other ⟨w.heap.size + 1, 3, none⟩ (.int .i64 (numOf x.t : Int)) (by simp)).whole (y := ⟨k, i, x.t, numOf x.t⟩)
     exact bodyPost_ret (v := tkV ⟨k, i, x.t, numOf x.t⟩) (results_tok rfl _ _ _ _ rfl R) rfl ⟨congrArg Ending.returned (tk_eq HX.out.1 HX.out.2.1 (by rw [HX.out.2.2.2.1, if_pos HK2.out])), below_whole ((B3.setCell (p := ⟨w.heap.size + 1, 2, none⟩) (Nat.le_succ _) _).setCell (p := ⟨w.heap.size + 1, 3, none⟩) (Nat.le_succ _) _) (Nat.le_refl _) _ _ _ _⟩
    ·have ht2 : ((k : Int) == 2) = false := by simp; omega
     have HK2 := Lib.hid hk2
     clear hk2
     go_wp2_with (go_at_call 184; refine (L.out _).mono ?_; rintro e W3 ⟨rfl, h3⟩; have T4b := T4'.later h3; have T5b := T5'.later h3; have B3 := B1'.trans (h3.mono B1'.size); have f5 := T5b.frozen; have c0 := T5b.c0; have c1 := T5b.c1; have c2 := T5b.c2; have e3 := T5b.c3; have g4 := T4b.frozen; have q0 := T4b.c0; have q1 := T4b.c1; have q2 := T4b.c2; have q3 := T4b.c3; clear T4' T5' B1')
     have R := (T4b.other ⟨w.heap.size + 1, 2, none⟩ (.string (bs x.t)) (by simp)).whole (y := ⟨k, i, x.t, 0⟩)
     exact bodyPost_ret (v := tkV ⟨k, i, x.t, 0⟩) (results_tok rfl _ _ _ _ rfl R) rfl ⟨congrArg Ending.returned (tk_eq HX.out.1 HX.out.2.1 (by rw [HX.out.2.2.2.1, if_neg HK2.out])), below_whole (B3.setCell (p := ⟨w.heap.size + 1, 2, none⟩) (Nat.le_succ _) _) (Nat.le_refl _) _ _ _ _⟩
end
section
open Go.RowKit Go.Shelf
def fixed : Obj → Bool
 | .cells _ t _ => t == 9 || t == 214
 | _ => false
def keep (pre : List Tk) (x : Tk) (o : Obj) : Prop := fixed o = true ∨ (x ∉ pre ∧ o = .cells (tkC x) 173 (0, 0))
theorem keep_cells {pre : List Tk} {x : Tk} {o : Obj} (h : keep pre x o) : o.isCells = true := by
 rcases h with h | ⟨_, rfl⟩
 ·cases o <;> simp_all [fixed, Obj.isCells]
 ·rfl
def Kp (pre : List Tk) (x : Tk) (W W' : World) : Prop := ∀ (k : Nat) (o : Obj), W.heap[k]? = some o → keep pre x o → W'.heap[k]? = some o
variable {pre : List Tk} {x : Tk}
theorem Kp.trans {A B C : World} (h : Kp pre x A B) (k : Kp pre x B C) : Kp pre x A C := fun i o hi ho => k i o (h i o hi ho) ho
theorem Kp.putObj (W : World) (l : Nat) (o o' : Obj) (h : W.heap[l]? = some o) (hc : o.isCells = false) : Kp pre x W (W.putObj l o') := fun k p hk hp =>
 (World.putObj_heap_other (fun e => by subst e; rw [h] at hk; cases hk; rw [keep_cells hp] at hc; cases hc)).trans hk
theorem Kp.later {W W' : World} (h : Below W.heap.size W W') : Kp pre x W W' := fun k o hk _ => (h.block k (Array.getElem?_eq_some_iff.1 hk).1).trans hk
theorem Kp.alloc (W : World) (o : Obj) : Kp pre x W (W.alloc o) := Kp.later ((Below.refl _ _).alloc (Nat.le_refl _) _)
theorem Kp.box {W W' : World} {b : Nat} {s : ByteArray} (h : Kp pre x W W') (hb : Boxed W b 9 (.string s)) : Boxed W' b 9 (.string s) := h b _ hb (.inl rfl)
theorem Kp.fn {W W' : World} {b : Nat} {v : Value} (h : Kp pre x W W') (hb : Boxed W b 214 v) : Boxed W' b 214 v := h b _ hb (.inl rfl)
theorem Kp.tok {W W' : World} {b : Nat} (h : Kp pre x W W') (hx : x ∉ pre) (hb : TB W b x) : TB W' b x := ⟨h b _ hb.is (.inr ⟨hx, rfl⟩)⟩
def SeqO (n g : Nat) (lb : Array Value) (S Sp : List Tk → Prop) (N : Nat) (w : World) : Prop :=
 ∀ (l : Nat) (J Jx : List Tk → World → Prop) (W : World), Below w.heap.size w W → OwnFrom W.heap.size J → OwnFrom W.heap.size Jx →
  (∀ pre x W1, J pre W1 → pre.length < N → YieldAt Fence.wide (n - 1) Tryz.prog l #[tkV x] W1 fun e W' =>
   (e = .returned (.bool true) ∧ J (pre ++ [x]) W' ∧ Kp pre x W1 W' ∧ KeepsFrom W.heap.size W1 W') ∨ (e = .returned (.bool false) ∧ Jx (pre ++ [x]) W' ∧ KeepsFrom W.heap.size W1 W')) →
  J [] W →
  CallsIn Fence.wide n Tryz.prog g (#[.func (.yield l) #[] #[]] ++ lb) W fun e W' => (∃ v, e = .returned v) ∧ ((∃ xs, S xs ∧ J xs W') ∨ (∃ pre, Sp pre ∧ Jx pre W'))
theorem own_later {β : Type} {B : Nat} {J : β → World → Prop} (h : OwnFrom B J) {s : β} {W W' : World} (hs : J s W) (hb : Below W.heap.size W W') : J s W' :=
 h s W W' none hs ⟨hb.os, hb.tape, hb.output, hb.size, fun k hk _ => hb.block k hk⟩ (fun r e => by cases e)
structure Two (D : Nat) (r : Loop) (W : World) : Prop where
 d : W.heap[D]? = some (.deferred (some []))
 l : W.heap[D + 1]? = some (.loop r)
theorem Two.kept {D B : Nat} {r : Loop} {W W' : World} {row : Option Nat} (h : Two D r W) (hg : W.grownBy W' row) (hB : D + 2 ≤ B) (hr : ∀ i, row = some i → B ≤ i) : Two D r W' :=
 ⟨(hg.block D (Array.getElem?_eq_some_iff.1 h.d).1 (fun e => by have := hr D e.symm; omega)).trans h.d,
  (hg.block (D + 1) (Array.getElem?_eq_some_iff.1 h.l).1 (fun e => by have := hr (D + 1) e.symm; omega)).trans h.l⟩
theorem Two.from {D : Nat} {r : Loop} {W W' : World} (h : Two D r W) (hk : KeepsFrom D W W') : Two D r W' := ⟨hk.same _ _ (Nat.le_refl _) h.d rfl, hk.same _ _ (by omega) h.l rfl⟩
theorem keepsFrom_up {B B' : Nat} {W W' : World} (h : KeepsFrom B W W') (hB : B ≤ B') : KeepsFrom B' W W' := ⟨h.size, fun k o hk => h.same k o (Nat.le_trans hB hk)⟩
theorem keepsFrom_put (B : Nat) (W : World) (l : Nat) (o : Obj) (h : l < B) : KeepsFrom B W (W.putObj l o) := ⟨by simp, fun k p hk hp _ => (World.putObj_heap_other (by omega)).trans hp⟩
theorem Two.put {D : Nat} {r : Loop} {W : World} (h : Two D r W) (r' : Loop) : Two D r' (W.putObj (D + 1) (.loop r')) :=
 ⟨(World.putObj_heap_other (by omega)).trans h.d, World.putObj_heap_same (Array.getElem?_eq_some_iff.1 h.l).1⟩
theorem rangeO {g : Operand} {ps : Array Tmp} {assign body : Code} {Q : Exit → Act → World → Prop} {a : Act} {w w0 : World} {n gf : Nat} {lb : Array Value} {S Sp : List Tk → Prop} {N : Nat}
  (hg : a.eval g = .func (.func gf) #[] lb) (eg : ∀ args w, (callFunc gf args).run Tryz.prog w = .ok (.enter gf args) w)
  (hseq : SeqO (n - 1) gf lb S Sp N w0) (hb0 : Below w0.heap.size w0 w) (hps : ps.size = 1)
  (I : List Tk → World → Prop) (Ix : Code → List Tk → World → Prop) (hI : OwnFrom w.heap.size I) (hIx : ∀ c, OwnFrom w.heap.size (Ix c)) (h0 : I [] w)
  (Ax : Tk → Act → World → Prop) (hAx : ∀ x a', OwnFrom w.heap.size (fun (_ : Unit) W => Ax x a' W))
  (hassign : ∀ (l : Nat) (pre : List Tk) (x : Tk) (W : World) (K : Act → World → Prop), I pre W → (∀ a' W', KeepsFrom w.heap.size W W' → Kp pre x W W' → I pre W' → Ax x a' W' → K a' W') →
   assign.wpIn (Fence.wide.inRound l) (n - 1 - 1) Tryz.prog (Exit.then K (fun _ _ _ => False)) { tmps := (ps.zip #[tkV x]).foldl (fun t (p, v) => t.setIfInBounds p v) a.tmps, defers := [] } W)
  (hbody : ∀ (l : Nat) (pre : List Tk) (x : Tk) (a' : Act) (W : World), I pre W → Ax x a' W → pre.length < N →
   body.wpIn (Fence.wide.inRound l) (n - 1 - 1) Tryz.prog (ownPostG w.heap.size (Kp pre x) I Ix (pre ++ [x]) W) a' W)
  (hdone : ∀ (D : Nat) (xs : List Tk) (W : World), w.heap.size ≤ D → S xs → I xs W → W.heap[D]? = some (.deferred (some [])) → Q .normal { a with defers := { target := .collected D, args := #[] } :: a.defers } W)
  (hstop : ∀ (D : Nat) (c : Code) (pre : List Tk) (W : World), w.heap.size ≤ D → Sp pre → Ix c pre W → W.heap[D]? = some (.deferred (some [])) → c.wpIn Fence.wide n Tryz.prog Q { a with defers := { target := .collected D, args := #[] } :: a.defers } W) :
  (Code.rangeFunc g ps assign body).wpIn Fence.wide n Tryz.prog Q a w := by
 refine wpIn_rangeFunc fun fn hfn => ?_
 obtain ⟨D, hD⟩ : ∃ D, D = w.heap.size := ⟨_, rfl⟩
 obtain ⟨rc, hrc⟩ : ∃ rc : LoopState → Option Code → Loop, rc = fun st pe => { state := st, pending := pe, fn, tmps := a.tmps, params := ps, assign, body, defers := D } := ⟨_, rfl⟩
 obtain ⟨V, hV⟩ : ∃ V, (w.alloc (.deferred (some []))).alloc (.loop (rc .ready none)) = V := ⟨_, rfl⟩
 have hVs : V.heap.size = D + 2 := by rw [← hV, hD]; simp
 have hV2 : Two D (rc .ready none) V := by
  rw [← hV, hD]
  refine ⟨(Below.heap_alloc _ _ _ (by simp)).trans (World.alloc_heap_new w _), ?_⟩
  have := World.alloc_heap_new (w.alloc (.deferred (some []))) (.loop (rc .ready none))
  rwa [World.size_alloc] at this
 have hVI : I [] V := by rw [← hV]; exact hI.alloc _ (hI.alloc _ h0)
 have hVb : Below w0.heap.size w0 V := by
  rw [← hV]
  exact hb0.trans ((((Below.refl _ w).alloc (Nat.le_refl _) _).alloc (by simp) _).mono hb0.size)
 have nc : ∀ {X : World} {row : Option Nat}, (∀ r, row = some r → V.heap.size ≤ r ∧ ∃ o : Obj, X.heap[r]? = some o ∧ o.isCells = false) → (∀ r, row = some r → w.heap.size ≤ r ∧ ∃ o : Obj, X.heap[r]? = some o ∧ o.isCells = false) :=
  fun h r e => ⟨by have := (h r e).1; omega, (h r e).2⟩
 have far : ∀ {X : World} {row : Option Nat}, (∀ r, row = some r → V.heap.size ≤ r ∧ ∃ o : Obj, X.heap[r]? = some o ∧ o.isCells = false) → ∀ r, row = some r → V.heap.size ≤ r := fun h r e => (h r e).1
 have put : ∀ {pre : List Tk} {W : World} {r : Loop} (r' : Loop), I pre W → Two D r W → I pre (W.putObj (D + 1) (.loop r')) := fun r' hi h2 => hI.putObj _ hi (by omega) h2.l rfl
 have putx : ∀ {c : Code} {pre : List Tk} {W : World} {r : Loop} (r' : Loop), Ix c pre W → Two D r W → Ix c pre (W.putObj (D + 1) (.loop r')) := fun r' hi h2 => (hIx _).putObj _ hi (by omega) h2.l rfl
 refine ⟨D + 1, [{ target := .collected D, args := #[] }], V, { target := .fn (.func gf) lb, args := #[.func (.yield (D + 1)) #[] #[]] }, V, gf, #[.func (.yield (D + 1)) #[] #[]] ++ lb, V, ?_, ?_, ?_, ?_, ?_, ?_⟩
 ·rw [← hV, hrc, hD]; exact run_enterLoop_outer _ _ _ _ _
 ·simp only [resolve, hg]
  simp [go_sem]
 ·intro f' _; trivial
 ·simp [invoke, go_sem, eg]
 ·intro h; cases h
 ·refine (hseq (D + 1) (fun pre W => I pre W ∧ Two D (rc .ready none) W) (fun pre W => ∃ c, Ix c pre W ∧ Two D (rc .done (some c)) W) V hVb
   (fun s X Y row hs hg' hr => ⟨hI s X Y row hs.1 hg' (nc hr), hs.2.kept hg' (by omega) (far hr)⟩)
   (fun s X Y row ⟨c, hs, h2⟩ hg' hr => ⟨c, hIx c s X Y row hs hg' (nc hr), h2.kept hg' (by omega) (far hr)⟩)
   ?_ ⟨hVI, hV2⟩).mono ?_
  ·rintro pre x W ⟨hi, h2⟩ hlen
   have hy := run_yield (P := Tryz.prog) (args := #[tkV x]) h2.l (by rw [hrc]; simp [hps])
   rw [hrc] at hy
   refine ⟨fn, _, assign, body, hy, roundIn_of_wpIn trivial (hassign _ pre x W _ hi ?_)⟩
   clear hy
   intro a' Wa hkf hkp hia hax
   rw [← hD] at hkf
   have h2a := h2.from hkf
   refine ⟨_, run_beginRound h2a.l (by rw [hrc]), ?_⟩
   have hfb := (keepsFrom_up hkf (show D ≤ V.heap.size by omega)).trans (keepsFrom_put V.heap.size Wa (D + 1) (.loop { rc .ready none with state := .busy }) (by omega))
   have h2b := h2a.put { rc .ready none with state := .busy }
   have hkb := hkp.trans (Kp.putObj Wa (D + 1) _ (.loop { rc .ready none with state := .busy }) h2a.l rfl)
   refine wpIn_mono (hbody _ pre x a' _ (put _ hia h2a) ((hAx x a').putObj (s := ()) _ hax (by omega) h2a.l rfl) hlen) ?_
   generalize Wa.putObj (D + 1) (.loop { rc .ready none with state := .busy }) = Wb at *
   rw [← hD]
   have fin : ∀ (jump : Option Code) (W3 : World), KeepsFrom D Wb W3 →
     (Instr.endRound (D + 1) jump).run Tryz.prog W3 = .ok (.bool jump.isNone) (W3.putObj (D + 1) (.loop (rc (if jump.isNone then .ready else .done) jump))) ∧ Two D { rc .ready none with state := .busy } W3 ∧ ∀ o, KeepsFrom V.heap.size W (W3.putObj (D + 1) o) := fun jump W3 hk3 => by
    have h3 := h2b.from hk3
    have := run_endRound (P := Tryz.prog) jump h3.l
    rw [hrc] at this h3 ⊢
    exact ⟨this, h3, fun o => (hfb.trans (keepsFrom_up hk3 (show D ≤ V.heap.size by omega))).trans (keepsFrom_put V.heap.size W3 (D + 1) o (by omega))⟩
   rintro e a3 W3 hp
   cases e with
   | normal =>
     obtain ⟨hk3, hkp3, hi3⟩ := hp
     obtain ⟨hr, h3, hf3⟩ := fin none W3 hk3
     exact ⟨_, _, hr, .inl ⟨rfl, ⟨put _ hi3 h3, h3.put _⟩, (hkb.trans hkp3).trans (Kp.putObj _ _ _ _ h3.l rfl), hf3 _⟩⟩
   | ret =>
     obtain ⟨hk3, hi3⟩ := hp
     obtain ⟨hr, h3, hf3⟩ := fin (some .ret) W3 hk3
     exact ⟨_, _, hr, .inr ⟨rfl, ⟨.ret, putx _ hi3 h3, h3.put _⟩, hf3 _⟩⟩
   | exit id =>
     obtain ⟨hk3, hi3⟩ := hp
     obtain ⟨hr, h3, hf3⟩ := fin (some (.exit id)) W3 hk3
     exact ⟨_, _, hr, .inr ⟨rfl, ⟨.exit id, putx _ hi3 h3, h3.put _⟩, hf3 _⟩⟩
   | goto t =>
     obtain ⟨hk3, hi3⟩ := hp
     obtain ⟨hr, h3, hf3⟩ := fin (some (.goto t)) W3 hk3
     exact ⟨_, _, hr, .inr ⟨rfl, ⟨.goto t, putx _ hi3 h3, h3.put _⟩, hf3 _⟩⟩
   | panic ch => exact hp.elim
   | outgrown => exact hp.elim
  ·rintro e W2 ⟨⟨v, rfl⟩, (⟨xs, hS, hi, h2⟩ | ⟨pre, hSp, c, hi, h2⟩)⟩
   ·have he := run_endLoop (P := Tryz.prog) h2.l (by rw [hrc]; simp)
    rw [hrc] at he
    exact ⟨none, _, he, hdone D xs _ (Nat.le_of_eq hD.symm) hS (put _ hi h2) ((World.putObj_heap_other (by omega)).trans h2.d)⟩
   ·have he := run_endLoop (P := Tryz.prog) h2.l (by rw [hrc]; simp)
    rw [hrc] at he
    exact ⟨some c, _, he, hstop D c pre _ (Nat.le_of_eq hD.symm) hSp (putx _ hi h2) ((World.putObj_heap_other (by omega)).trans h2.d)⟩
end
section
open Go.RowKit Go.Shelf
attribute [local go_sem] Oper.semAt_some
theorem pieces_any (s : ByteArray) (w : World) :
  Calls Tryz.prog 158 #[.string s] w fun e w' => e = .returned (.func (.func 172) #[] #[.pointer (some ⟨w.heap.size, 0, none⟩)]) ∧ w' = w.alloc (.cells #[.string s] 9) := by
 have hmf : ∀ (fn : Fn) (first cap : Array Value) (w : World), (Instr.makeFunc fn first cap).run Tryz.prog w = .ok (.func fn first cap) w := fun _ _ _ _ => rfl
 go_enter Tryz.func158, Tryz.ntmps158
 go_wp2
 go_ret
 exact ⟨rfl, rfl⟩
theorem each_seq_any (s : ByteArray) (w : World) :
  Calls Tryz.prog 138 #[.string s] w fun e w' => e = .returned (.func (.func 157) #[] #[.pointer (some ⟨w.heap.size, 0, none⟩)]) ∧ w' = w.alloc (.cells #[.string s] 9) := by
 have hmf : ∀ (fn : Fn) (first cap : Array Value) (w : World), (Instr.makeFunc fn first cap).run Tryz.prog w = .ok (.func fn first cap) w := fun _ _ _ _ => rfl
 go_enter Tryz.func138, Tryz.ntmps138
 go_wp2
 go_ret
 exact ⟨rfl, rfl⟩
abbrev pieceL (s : ByteArray) : List Tk := pcs 0 s.data.toList
theorem tkOf_len (i : Nat) (c : UInt8) (r : List UInt8) : (tkOf i c r).t.length = 1 + runLen (kind c) r := by
 have := runLen_le (kind c) r
 simp only [tkOf, List.length_cons, List.length_take]
 omega
theorem pieces1_in (l Bn : Nat) (s : ByteArray) (J Jx : List Tk → World → Prop) (n : Nat) (hn1 : 1 ≤ n) (hs : s.size ≤ 100000) (W : World) (B : Nat) (hO : OwnFrom W.heap.size J)
  (hY : ∀ pre (x : Tk) W, J pre W → pre.length < 100001 → YieldAt Fence.wide (n - 1) Tryz.prog l #[tkV x] W fun e W' =>
   (e = .returned (.bool true) ∧ J (pre ++ [x]) W' ∧ Kp pre x W W' ∧ KeepsFrom B W W') ∨ (e = .returned (.bool false) ∧ Jx (pre ++ [x]) W' ∧ KeepsFrom B W W'))
  (hB : Boxed W Bn 9 (.string s)) (hJ : J [] W) :
  CallsIn Fence.wide n Tryz.prog 172 #[.func (.yield l) #[] #[], .pointer (some ⟨Bn, 0, none⟩)] W fun e W' => (∃ v, e = .returned v) ∧
   ((∃ ys, ys = pieceL s ∧ J ys W') ∨ (∃ pre, pre <+: pieceL s ∧ Jx pre W')) := by
 refine callsIn_of_wp Tryz.func172 rfl trivial ?_ rfl
 simp only [Tryz.ntmps172, List.size_toArray, List.length_cons, List.length_nil, Nat.reduceAdd, Nat.reduceSub, Array.replicate_succ, Array.replicate_zero, List.push_toArray, List.append_toArray, List.nil_append, List.cons_append]
 refine wpIn_wide.2 (wp_scope_straight ((wpIn_wide (n := n)).1 ?_))
 gi_wp2
 refine wpIn_label ?_
 gi_wp2
 gi_loopw [3] (fun i wr => ∃ (k : Nat) (pre : List Tk), k ≤ s.size ∧ i = .int .i64 k ∧ Hid (pieceL s = pre ++ pcs k (s.data.toList.drop k)) ∧ Hid (∀ y ∈ pre, y.at' < k) ∧ J pre wr ∧ Boxed wr Bn 9 (.string s)) (fun i _ => s.size - (intOf i).toNat)
 case atStart => exact ⟨0, [], by omega, rfl, Lib.hid (by simp), Lib.hid (by simp), hJ, hB⟩
 case round =>
  obtain ⟨k, pre, hk, rfl, hx, hlt', hJ1, hB1⟩ := hrel
  clear hJ hB
  by_cases hlt : k < s.size
  ·obtain ⟨c, hc⟩ : ∃ c, s[k] = c := ⟨_, rfl⟩
   have hd := drop_get s k hlt
   rw [hc] at hd
   have b1 := Boxed.cell hB1
   have hdk : decide ((k : Int) < (s.size : Int)) = true := decide_eq_true (by omega)
   have hc256 := c.toNat_lt
   by_cases hbl : blank c = true
   ·have hq : Hid (pieceL s = pre ++ pcs (k + 1) (s.data.toList.drop (k + 1))) := by
     have := hx.out
     rw [hd, pcs_blank hbl] at this
     exact Lib.hid this
    have hp : Hid (∀ y ∈ pre, y.at' < k + 1) := Lib.hid fun y hy => by have := hlt'.out y hy; omega
    have h2 : c.toNat = 32 ∨ c.toNat = 9 := by simpa [blank] using hbl
    clear hx hlt' hd hbl
    by_cases h32 : c.toNat = 32
    ·have t1 : ((c.toNat : Int) == 32) = true := by simp; omega
     gi_wp2
     go_roundw
     case rel => exact ⟨k + 1, pre, by omega, by go_num, hq, hp, hJ1, hB1⟩
     case measure => simp [intOf]; omega
    ·have t1 : ((c.toNat : Int) == 32) = false := by simp; omega
     have t2 : ((c.toNat : Int) == 9) = true := by simp; omega
     gi_wp2
     go_roundw
     case rel => exact ⟨k + 1, pre, by omega, by go_num, hq, hp, hJ1, hB1⟩
     case measure => simp [intOf]; omega
   ·have hnb : c.toNat ≠ 32 ∧ c.toNat ≠ 9 := by simpa [blank] using hbl
    have t1 : ((c.toNat : Int) == 32) = false := by simp; omega
    have t2 : ((c.toNat : Int) == 9) = false := by simp; omega
    by_cases h35 : c.toNat = 35
    ·have hn : noteLen (s.data.toList.drop k) = noteLen (s.data.toList.drop (k + 1)) + 1 := by rw [hd, noteLen_not c _ (by omega)]
     have hnl := noteLen_le (s.data.toList.drop (k + 1))
     rw [List.length_drop, ← Lib.size_eq] at hnl
     have E := Lib.hid (fun w => lineEnd_any s k w hk hs)
     rw [hn] at E
     have hq : Hid (pieceL s = pre ++ pcs (k + (noteLen (s.data.toList.drop (k + 1)) + 1)) (s.data.toList.drop (k + (noteLen (s.data.toList.drop (k + 1)) + 1)))) := by
      have := hx.out
      rw [hd, pcs_hash h35, List.drop_drop] at this
      rw [show k + (noteLen (s.data.toList.drop (k + 1)) + 1) = k + 1 + noteLen (s.data.toList.drop (k + 1)) by omega]
      exact Lib.hid this
     have t3 : ((c.toNat : Int) == 35) = true := by simp; omega
     have hm : 1 ≤ noteLen (s.data.toList.drop (k + 1)) + 1 ∧ k + (noteLen (s.data.toList.drop (k + 1)) + 1) ≤ s.size := by omega
     clear hx hd hn hnl
     generalize noteLen (s.data.toList.drop (k + 1)) + 1 = m at *
     have hp : Hid (∀ y ∈ pre, y.at' < k + m) := Lib.hid fun y hy => by have := hlt'.out y hy; omega
     clear hlt'
     gi_wp2_with (refine ⟨trivial, ?_⟩; gi_at_call 173; refine (callsIn_wide.2 (E.out _)).mono ?_; rintro e w' ⟨rfl, rfl⟩)
     go_roundw
     case rel => exact ⟨k + m, pre, by omega, by go_num, hq, hp, hJ1, hB1⟩
     case measure => simp [intOf]; omega
    ·have t3 : ((c.toNat : Int) == 35) = false := by simp; omega
     have Bg := Lib.hid (fun w => begun_any s k w hlt hs)
     have hplen : pre.length < 100001 := by
      have h1 : (pieceL s).length ≤ s.data.toList.length := pcs_length _ 0 s.data.toList (Nat.le_refl _)
      rw [hx.out, List.length_append, ← Lib.size_eq] at h1
      omega
     have hxk : (tkB k c (s.data.toList.drop (k + 1))).at' = k := by unfold tkB tkOf; split <;> rfl
     have hxn : tkB k c (s.data.toList.drop (k + 1)) ∉ pre := fun hm => by have := hlt'.out _ hm; omega
     rw [hc] at Bg
     by_cases hk0 : kind c = 0
     ·have hq : Hid (pieceL s = pre ++ [tkB k c (s.data.toList.drop (k + 1))]) := by
       have := hx.out
       rw [hd, pcs_none (by simpa using hbl) h35 hk0] at this
       rw [tkB, if_pos hk0]
       exact Lib.hid this
      have hz : (tkB k c (s.data.toList.drop (k + 1))).k = 0 := by rw [tkB, if_pos hk0]
      generalize tkB k c (s.data.toList.drop (k + 1)) = x at *
      have hz' : ((x.k : Int) == 0) = true := by simp; omega
      clear hd hx hlt' hbl hz hk0 hxk
      gi_wp2_with (refine ⟨trivial, ?_⟩; gi_at_call 174; refine (callsIn_wide.2 (Bg.out _)).mono ?_; rintro e w' ⟨rfl, hb⟩; have hJ3 := own_later hO (own_later hO hJ1 hb) ((Below.refl _ _).alloc (Nat.le_refl _) (.cells (tkC x) 173)); obtain ⟨fn, tmps, assign, body, hy, hR⟩ := hY pre x _ hJ3 hplen; simp only [tkV, tkC] at hy)
      refine hR.mono ?_
      rintro e W3 (⟨rfl, hJ4, hk3, -⟩ | ⟨rfl, hJx3, -⟩)
      ·have T3 := hk3.tok hxn (TB.new w' x)
       have c0 := T3.c0
       gi_wp2
       simp only [Exit.noGoto]
       go_end0
       exact ⟨⟨_, rfl⟩, .inl ⟨pre ++ [x], hq.out.symm, hJ4⟩⟩
      ·gi_wp2
       simp only [Exit.noGoto]
       go_end0
       exact ⟨⟨_, rfl⟩, .inr ⟨pre ++ [x], ⟨[], by rw [hq.out, List.append_nil]⟩, hJx3⟩⟩
     ·have hq : Hid (pieceL s = (pre ++ [tkB k c (s.data.toList.drop (k + 1))]) ++ pcs (k + (tkB k c (s.data.toList.drop (k + 1))).t.length) (s.data.toList.drop (k + (tkB k c (s.data.toList.drop (k + 1))).t.length))) := by
       have := hx.out
       rw [hd, pcs_tok hk0, List.drop_drop] at this
       rw [tkB, if_neg hk0, tkOf_len, List.append_assoc, show k + (1 + runLen (kind c) (s.data.toList.drop (k + 1))) = k + 1 + runLen (kind c) (s.data.toList.drop (k + 1)) by omega]
       exact Lib.hid this
      have hz : (tkB k c (s.data.toList.drop (k + 1))).k ≠ 0 := by rw [tkB, if_neg hk0]; exact hk0
      have hlen : 1 ≤ (tkB k c (s.data.toList.drop (k + 1))).t.length ∧ k + (tkB k c (s.data.toList.drop (k + 1))).t.length ≤ s.size := by
       have := runLen_le (kind c) (s.data.toList.drop (k + 1))
       rw [List.length_drop, ← Lib.size_eq] at this
       rw [tkB, if_neg hk0, tkOf_len]; omega
      have hp : Hid (∀ y ∈ pre ++ [tkB k c (s.data.toList.drop (k + 1))], y.at' < k + (tkB k c (s.data.toList.drop (k + 1))).t.length) := Lib.hid fun y hy => by
       rw [List.mem_append, List.mem_singleton] at hy
       rcases hy with hy | rfl
       ·have := hlt'.out y hy; omega
       ·omega
      generalize tkB k c (s.data.toList.drop (k + 1)) = x at *
      have hz' : ((x.k : Int) == 0) = false := by simp; omega
      have hbn := bs_size x.t
      clear hd hx hlt' hbl hz hk0 hxk
      gi_wp2_with (refine ⟨trivial, ?_⟩; gi_at_call 174; refine (callsIn_wide.2 (Bg.out _)).mono ?_; rintro e w' ⟨rfl, hb⟩; have hJ3 := own_later hO (own_later hO hJ1 hb) ((Below.refl _ _).alloc (Nat.le_refl _) (.cells (tkC x) 173)); have hB3 := Boxed.alloc ((hb.block Bn (Boxed.lt hB1)).trans hB1) (.cells (tkC x) 173); obtain ⟨fn, tmps, assign, body, hy, hR⟩ := hY pre x _ hJ3 hplen; simp only [tkV, tkC] at hy)
      refine hR.mono ?_
      rintro e W3 (⟨rfl, hJ4, hk3, -⟩ | ⟨rfl, hJx3, -⟩)
      ·have T3 := hk3.tok hxn (TB.new w' x)
       have B4 := hk3.box hB3
       have c0 := T3.c0
       have c2 := T3.c2
       gi_wp2
       go_roundw
       case rel => exact ⟨k + x.t.length, pre ++ [x], hlen.2, by go_num, hq, hp, hJ4, B4⟩
       case measure => simp [intOf]; omega
      ·gi_wp2
       simp only [Exit.noGoto]
       go_end0
       exact ⟨⟨_, rfl⟩, .inr ⟨pre ++ [x], ⟨_, hq.out.symm⟩, hJx3⟩⟩
  ·have b1 := Boxed.cell hB1
   have hdk : decide ((k : Int) < (s.size : Int)) = false := decide_eq_false (by omega)
   gi_wp2
   simp only [Exit.noGoto]
   go_end0
   exact ⟨⟨_, rfl⟩, .inl ⟨pre, by have := hx.out; rw [List.drop_of_length_le (by rw [← Lib.size_eq]; omega), pcs_nil, List.append_nil] at this; exact this.symm, hJ1⟩⟩
theorem pieces1_seq (n : Nat) (hn1 : 1 ≤ n) (Bn : Nat) (s : ByteArray) (hs : s.size ≤ 100000) (w : World) (hB : Boxed w Bn 9 (.string s)) :
  SeqO n 172 #[.pointer (some ⟨Bn, 0, none⟩)] (fun xs => xs = pieceL s) (fun pre => pre <+: pieceL s) 100001 w :=
 fun l J Jx W hW hJ hJx hY hJ0 => pieces1_in l Bn s J Jx n hn1 hs W W.heap.size hJ hY ((hW.block Bn (Boxed.lt hB)).trans hB) hJ0
end
end Go.Proofs.YthfkbbiaemmndaaGreatDoor
