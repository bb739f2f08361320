/- Texts about the program, one after the other: Bytes, Shelf, Base, Strs, Begun, Range, Pieces, Each1, Toks, One, Word. -/
import Derived.Lib.Strings
import Derived.Lib.Slices
import Derived.Lib.Walk
import Derived.Lib.Bytealg
import Derived.Test.YtnplbmbbocffbaaProg
import Derived.Test.YtnplbmbbocffbaaRows
import Derived.WalkKit
import Derived.ProofKit
import Derived.Handy
import Derived.Lib.Hide
import Derived.Deep.MidRow
import Derived.Deep.QuietTactic
import Derived.BigQuiet
import Derived.Deep.RegionHeld3
import Derived.Laws.Externs
import Derived.RangeFuncBox
import Derived.Deep.CutBlock
import Derived.RangeFuncNested
import Derived.RangeFuncBound
import Derived.RangeFuncCalls
import Derived.RangeFuncLeaves
import Derived.RangeFuncWrites
import Derived.Shelf.Abstract
import Derived.OwnWalkIn
import Derived.TacticsInMore
import Derived.LoopNIn
import Derived.LoopIn
import Derived.RangeFuncRecord
import Derived.Maps.AppendAt
import Derived.Laws.AppendOwn
/- Bytes, tokens, and what is left out: plain words, of no program. -/
namespace Go.Proofs.Ytnplbmbbocffbaa
set_option linter.unusedVariables false

/-- By which a word may begin. -/
def ltr (c : UInt8) : Bool := decide ((97 ≤ c.toNat ∧ c.toNat ≤ 122) ∨ (65 ≤ c.toNat ∧ c.toNat ≤ 90) ∨ c.toNat = 95)
def dgt (c : UInt8) : Bool := decide (48 ≤ c.toNat ∧ c.toNat ≤ 57)
/-- Which token begins with it; 0: none. -/
def kind (c : UInt8) : Nat := if ltr c then 1 else if dgt c then 2 else if c.toNat = 61 then 3 else if c.toNat = 10 then 4 else 0
/-- Does one of that kind go on with it? -/
def goes (k : Nat) (c : UInt8) : Bool := (dgt c && (decide (k = 1) || decide (k = 2))) || (decide (k = 1) && (ltr c || decide (c.toNat = 46) || decide (c.toNat = 45)))
def blank (c : UInt8) : Bool := decide (c.toNat = 32) || decide (c.toNat = 9)

theorem kind_le (c : UInt8) : kind c ≤ 4 := by unfold kind; repeat (first | omega | split)
theorem goes_3 (c : UInt8) : goes 3 c = false := by simp [goes]
theorem goes_4 (c : UInt8) : goes 4 c = false := by simp [goes]
theorem goes_0 (c : UInt8) : goes 0 c = false := by simp [goes]
theorem kind_blank {c : UInt8} (h : blank c = true) : kind c = 0 := by
  simp [blank] at h
  have a : ltr c = false := by simp [ltr]; omega
  have b : dgt c = false := by simp [dgt]; omega
  unfold kind
  rw [a, b, if_neg (by simp), if_neg (by simp), if_neg (by omega), if_neg (by omega)]
theorem kind_hash {c : UInt8} (h : c.toNat = 35) : kind c = 0 := by
  have a : ltr c = false := by simp [ltr]; omega
  have b : dgt c = false := by simp [dgt]; omega
  unfold kind
  rw [a, b, if_neg (by simp), if_neg (by simp), if_neg (by omega), if_neg (by omega)]
theorem blank_hash {c : UInt8} (h : c.toNat = 35) : blank c = false := by simp [blank]; omega

/-- How many bytes stand up to the next line feed, or the end. -/
def noteLen : List UInt8 → Nat
  | [] => 0
  | c :: r => if c.toNat = 10 then 0 else noteLen r + 1
/-- How many bytes go on. -/
def runLen (k : Nat) : List UInt8 → Nat
  | [] => 0
  | c :: r => if goes k c then runLen k r + 1 else 0
/-- How many bytes are left out. -/
def skip : List UInt8 → Nat
  | [] => 0
  | c :: r => if blank c then skip r + 1 else if c.toNat = 35 then noteLen r + 1 else 0
theorem noteLen_le : ∀ l : List UInt8, noteLen l ≤ l.length
  | [] => Nat.le_refl _
  | c :: r => by have := noteLen_le r; unfold noteLen; split <;> simp <;> omega
theorem runLen_le (k : Nat) : ∀ l : List UInt8, runLen k l ≤ l.length
  | [] => Nat.le_refl _
  | c :: r => by have := runLen_le k r; unfold runLen; split <;> simp <;> omega
theorem skip_le : ∀ l : List UInt8, skip l ≤ l.length
  | [] => Nat.le_refl _
  | c :: r => by
    have := skip_le r
    have := noteLen_le r
    unfold skip
    split
    · simp; omega
    · split <;> simp <;> omega

/-- Digits as a number, or 2^40. -/
def numOf (l : List UInt8) : Nat := l.foldl (fun n c => min (n * 10 + (c.toNat - 48)) 1099511627776) 0
theorem numOf_snoc (l : List UInt8) (c : UInt8) : numOf (l ++ [c]) = min (numOf l * 10 + (c.toNat - 48)) 1099511627776 := by simp [numOf]
theorem numOf_le (l : List UInt8) : numOf l ≤ 1099511627776 := by
  rcases List.eq_nil_or_concat l with rfl | ⟨r, c, rfl⟩
  · simp [numOf]
  · rw [List.concat_eq_append, numOf_snoc]; omega

/-- A token. -/
structure Tk where
  k : Nat
  at' : Nat
  t : List UInt8
  n : Nat
/-- The token of kind k (not 0) that begins with c, ahead of r. -/
def tkOf (at' : Nat) (c : UInt8) (r : List UInt8) : Tk :=
  ⟨kind c, at', c :: r.take (runLen (kind c) r), if kind c = 2 then numOf (c :: r.take (runLen (kind c) r)) else 0⟩
theorem take_goes (k : Nat) : ∀ l : List UInt8, ∀ d ∈ l.take (runLen k l), goes k d = true
  | [], d, h => by simp at h
  | c :: r, d, h => by
    unfold runLen at h
    by_cases hg : goes k c = true
    · rw [if_pos hg, List.take_succ_cons, List.mem_cons] at h
      rcases h with rfl | h
      · exact hg
      · exact take_goes k r d h
    · rw [if_neg hg] at h; simp at h
theorem goes_2 (c : UInt8) : goes 2 c = dgt c := by simp [goes]
theorem kind_2 {c : UInt8} (h : kind c = 2) : dgt c = true := by
  unfold kind at h
  by_cases h1 : ltr c = true
  · rw [if_pos h1] at h; omega
  · rw [if_neg h1] at h
    by_cases h2 : dgt c = true
    · exact h2
    · rw [if_neg h2] at h
      split at h
      · omega
      · split at h <;> omega
theorem tkOf_digits {i : Nat} {c : UInt8} {r : List UInt8} (h : kind c = 2) : ∀ d ∈ (tkOf i c r).t, dgt d = true := by
  intro d hd
  simp only [tkOf, List.mem_cons] at hd
  rcases hd with rfl | hd
  · exact kind_2 h
  · rw [← goes_2]; rw [h] at hd; exact take_goes 2 r d hd
/-- The pieces of a text from a place on; where none begins one of kind 0, and nothing behind it. -/
def pcs (at' : Nat) : List UInt8 → List Tk
  | [] => []
  | c :: r =>
    if blank c then pcs (at' + 1) r
    else if c.toNat = 35 then pcs (at' + 1 + noteLen r) (r.drop (noteLen r))
    else if kind c = 0 then [⟨0, at', [], 0⟩]
    else tkOf at' c r :: pcs (at' + 1 + runLen (kind c) r) (r.drop (runLen (kind c) r))
termination_by l => l.length
decreasing_by all_goals (simp only [List.length_cons, List.length_drop]; omega)

theorem pcs_nil (a : Nat) : pcs a [] = [] := by rw [pcs]
theorem pcs_blank {a : Nat} {c : UInt8} {r : List UInt8} (h : blank c = true) : pcs a (c :: r) = pcs (a + 1) r := by rw [pcs, if_pos h]
theorem pcs_hash {a : Nat} {c : UInt8} {r : List UInt8} (h : c.toNat = 35) : pcs a (c :: r) = pcs (a + 1 + noteLen r) (r.drop (noteLen r)) := by
  rw [pcs, if_neg (by rw [blank_hash h]; simp), if_pos h]
theorem pcs_none {a : Nat} {c : UInt8} {r : List UInt8} (h1 : blank c = false) (h2 : c.toNat ≠ 35) (h3 : kind c = 0) : pcs a (c :: r) = [⟨0, a, [], 0⟩] := by
  rw [pcs, if_neg (by rw [h1]; simp), if_neg h2, if_pos h3]
theorem kind_pos {c : UInt8} (h : kind c ≠ 0) : blank c = false ∧ c.toNat ≠ 35 :=
  ⟨by cases hb : blank c with
    | false => rfl
    | true => exact absurd (kind_blank hb) h,
   fun e => h (kind_hash e)⟩
theorem pcs_tok {a : Nat} {c : UInt8} {r : List UInt8} (h : kind c ≠ 0) : pcs a (c :: r) = tkOf a c r :: pcs (a + 1 + runLen (kind c) r) (r.drop (runLen (kind c) r)) := by
  rw [pcs, if_neg (by rw [(kind_pos h).1]; simp), if_neg (kind_pos h).2, if_neg h]
theorem pcs_length : ∀ (n a : Nat) (l : List UInt8), l.length ≤ n → (pcs a l).length ≤ l.length := by
  intro n
  induction n with
  | zero => intro a l h; have : l = [] := List.eq_nil_of_length_eq_zero (by omega); subst this; rw [pcs_nil]; simp
  | succ n ih =>
    intro a l h
    cases l with
    | nil => rw [pcs_nil]; simp
    | cons c r =>
      simp only [List.length_cons] at h
      rw [pcs]
      split
      · have := ih (a + 1) r (by omega); simp; omega
      · split
        · have := ih (a + 1 + noteLen r) (r.drop (noteLen r)) (by simp; omega); simp at this ⊢; omega
        · split
          · simp
          · have := ih (a + 1 + runLen (kind c) r) (r.drop (runLen (kind c) r)) (by simp; omega); simp at this ⊢; omega

/-- The tokens, up to where none begins. -/
def toksOf (ps : List Tk) : List Tk := ps.takeWhile fun x => decide (x.k ≠ 0)
def toks (l : List UInt8) : List Tk := toksOf (pcs 0 l)
end Go.Proofs.Ytnplbmbbocffbaa
/- No contract of the library is laid here: the sort's is laid in a text of its own. -/
/- Small functions: their contracts; tokens as values. -/
namespace Go.Proofs.Ytnplbmbbocffbaa
open Go.RowKit
set_option linter.unusedVariables false

/-- Bytes as a string. -/
def bs (l : List UInt8) : ByteArray := ⟨l.toArray⟩
theorem bs_toList (l : List UInt8) : (bs l).data.toList = l := by simp [bs]
theorem bs_size (l : List UInt8) : (bs l).size = l.length := by simp [bs, ByteArray.size]
theorem bs_of (s : ByteArray) : bs s.data.toList = s := by simp [bs]
/-- A token as a value. -/
abbrev tkV (x : Tk) : Value := .agg #[.int .i64 (x.k : Int), .int .i64 (x.at' : Int), .string (bs x.t), .int .i64 (x.n : Int)]

/-- The same word, the other way round (the quiet walk wants it so). -/
theorem same_of {P : Program} {f : FuncId} {args : Array Value} {w : World} {v : Value} (h : Calls P f args w fun e w' => e = .returned v ∧ w = w') : Calls P f args w fun e w' => e = .returned v ∧ w' = w := h.mono fun _ _ h => ⟨h.1, h.2.symm⟩
/-- A byte's number, for the walk. -/
theorem byte_nat (c : UInt8) : ∃ n : Nat, n = c.toNat ∧ n < 256 := ⟨_, rfl, c.toNat_lt⟩

set_option maxHeartbeats 400000 in
theorem rletter_any (c : UInt8) (w : World) : Calls Try.prog 85 #[.int .u8 (c.toNat : Int)] w fun e w' => e = .returned (.bool (ltr c)) ∧ w = w' := by
  obtain ⟨n, hn, hc⟩ := byte_nat c
  have hl : ltr c = decide ((97 ≤ n ∧ n ≤ 122) ∨ (65 ≤ n ∧ n ≤ 90) ∨ n = 95) := by rw [hn]; rfl
  rw [hl]
  rw [← hn]
  clear hl hn
  go_enter Try.func85, Try.ntmps85
  by_cases h1 : 97 ≤ n <;> by_cases h2 : n ≤ 122 <;> by_cases h3 : 65 ≤ n <;> by_cases h4 : n ≤ 90 <;> by_cases h5 : n = 95 <;> first | omega | (go_wp2; go_ret; simp [*]; try omega)

set_option maxHeartbeats 400000 in
theorem rdigit_any (c : UInt8) (w : World) : Calls Try.prog 86 #[.int .u8 (c.toNat : Int)] w fun e w' => e = .returned (.bool (dgt c)) ∧ w = w' := by
  obtain ⟨n, hn, hc⟩ := byte_nat c
  have hl : dgt c = decide (48 ≤ n ∧ n ≤ 57) := by rw [hn]; rfl
  rw [hl]
  rw [← hn]
  clear hl hn
  go_enter Try.func86, Try.ntmps86
  by_cases h1 : 48 ≤ n <;> by_cases h2 : n ≤ 57 <;> first | omega | (go_wp2; go_ret; simp [*]; try omega)

end Go.Proofs.Ytnplbmbbocffbaa
/- Functions over texts: their contracts. -/
namespace Go.Proofs.Ytnplbmbbocffbaa
open Go.RowKit
set_option linter.unusedVariables false

theorem ret_int {k : IntKind} {a b : Int} (h : a = b) : Ending.returned (.int k a) = .returned (.int k b) := by rw [h]
theorem drop_get (s : ByteArray) (i : Nat) (h : i < s.size) : s.data.toList.drop i = s[i] :: s.data.toList.drop (i + 1) := by
  have h' : i < s.data.toList.length := by rw [← Lib.size_eq]; exact h
  rw [List.drop_eq_getElem_cons h']
  rfl
theorem noteLen_ten (c : UInt8) (r : List UInt8) (h : c.toNat = 10) : noteLen (c :: r) = 0 := by rw [noteLen, if_pos h]
theorem noteLen_not (c : UInt8) (r : List UInt8) (h : c.toNat ≠ 10) : noteLen (c :: r) = noteLen r + 1 := by rw [noteLen, if_neg h]
theorem is10 (c : UInt8) : (c == 10) = decide (c.toNat = 10) := by
  rw [Bool.eq_iff_iff]
  simp [← UInt8.toNat_inj]
theorem indexByte_note (l : List UInt8) : Lib.indexByte l 10 = if noteLen l < l.length then (noteLen l : Int) else -1 := by
  induction l with
  | nil => rfl
  | cons c r ih =>
    unfold Lib.indexByte
    rw [is10]
    by_cases h : c.toNat = 10
    · rw [noteLen_ten c r h]; simp [h]
    · rw [noteLen_not c r h, ih]
      simp only [h, decide_false, Bool.false_eq_true, if_false, List.length_cons]
      by_cases h2 : noteLen r < r.length
      · rw [if_pos h2, if_neg (show ¬ (((noteLen r : Nat) : Int) == -1) = true by simp), if_pos (show noteLen r + 1 < r.length + 1 by omega)]; rfl
      · rw [if_neg h2, if_neg (show ¬ noteLen r + 1 < r.length + 1 by omega)]; rfl

theorem take_snoc (l : List UInt8) (k : Nat) (h : k < l.length) : l.take (k + 1) = l.take k ++ [l[k]] := List.take_succ_eq_append_getElem h
theorem bs_get (l : List UInt8) (k : Nat) (h : k < l.length) (h' : k < (bs l).size) : (bs l)[k] = l[k] := by
  show l.toArray[k]'(by simpa using h) = l[k]
  rw [List.getElem_toArray]
  rfl

theorem extract_tok (s : ByteArray) (i j : Nat) (hi : i < s.size) (hij : i + 1 ≤ j) : s.extract i j = bs (s[i] :: (s.data.toList.drop (i + 1)).take (j - (i + 1))) := by
  rw [Lib.extract_eq, drop_get s i hi, show j - i = (j - (i + 1)) + 1 by omega, List.take_succ_cons]
  rfl
end Go.Proofs.Ytnplbmbbocffbaa
/- begun: the token that begins at a place. -/
namespace Go.Proofs.Ytnplbmbbocffbaa
open Go.RowKit
set_option linter.unusedVariables false

theorem info36 (x : Tk) : (Try.prog.info? 121).map (·.size) = some 4 := by kernel_rfl
/-- The cells of a token. -/
abbrev tkC (x : Tk) : Array Value := #[.int .i64 (x.k : Int), .int .i64 (x.at' : Int), .string (bs x.t), .int .i64 (x.n : Int)]
/-- Block b holds the token x. -/
structure TB (W : World) (b : Nat) (x : Tk) : Prop where
  is : W.heap[b]? = some (.cells (tkC x) 121 (0, 0))
theorem TB.lt {W : World} {b : Nat} {x : Tk} (h : TB W b x) : b < W.heap.size := (Array.getElem?_eq_some_iff.1 h.is).1
theorem TB.c0 {W : World} {b : Nat} {x : Tk} (h : TB W b x) : W.cell? ⟨b, 0, none⟩ = some (.int .i64 (x.k : Int)) := by rw [cell_of_row W b 0 _ _ _ h.is]; rfl
theorem TB.c1 {W : World} {b : Nat} {x : Tk} (h : TB W b x) : W.cell? ⟨b, 1, none⟩ = some (.int .i64 (x.at' : Int)) := by rw [cell_of_row W b 1 _ _ _ h.is]; rfl
theorem TB.c2 {W : World} {b : Nat} {x : Tk} (h : TB W b x) : W.cell? ⟨b, 2, none⟩ = some (.string (bs x.t)) := by rw [cell_of_row W b 2 _ _ _ h.is]; rfl
theorem TB.c3 {W : World} {b : Nat} {x : Tk} (h : TB W b x) : W.cell? ⟨b, 3, none⟩ = some (.int .i64 (x.n : Int)) := by rw [cell_of_row W b 3 _ _ _ h.is]; rfl
theorem TB.frozen {W : World} {b : Nat} {x : Tk} (h : TB W b x) (i : Nat) : W.frozen? ⟨b, i, none⟩ = false := frozen_of_row W b i _ _ h.is
theorem TB.below {W W' : World} {b B : Nat} {x : Tk} (h : TB W b x) (hb : Below B W W') (hB : b < B) : TB W' b x := ⟨(hb.block b hB).trans h.is⟩
theorem TB.later {W W' : World} {b : Nat} {x : Tk} (h : TB W b x) (hb : Below W.heap.size W W') : TB W' b x := h.below hb h.lt
theorem TB.alloc {W : World} {b : Nat} {x : Tk} (h : TB W b x) (o : Obj) : TB (W.alloc o) b x := ⟨(Below.heap_alloc W o b h.lt).trans h.is⟩
theorem TB.new (W : World) (x : Tk) : TB (W.alloc (.cells (tkC x) 121)) W.heap.size x := ⟨heap_alloc_new W _⟩
theorem TB.other {W : World} {b : Nat} {x : Tk} (h : TB W b x) (a : Addr) (v : Value) (hb : b ≠ a.block) : TB (W.setCell a v) b x := ⟨(heap_setCell_other W a b v hb).trans h.is⟩

/-- The token that begins with c, ahead of r, if one does. -/
def tkB (i : Nat) (c : UInt8) (r : List UInt8) : Tk := if kind c = 0 then ⟨0, i, [], 0⟩ else tkOf i c r

theorem below_drewN {B : Nat} {a w : World} (h : Below B a w) (n : Nat) : Below B a (w.drewN n) := h.trans ⟨rfl, rfl, rfl, Nat.le_refl _, fun _ _ => rfl⟩
theorem TB.drewN {W : World} {b : Nat} {x : Tk} (h : TB W b x) (n : Nat) : TB (W.drewN n) b x := ⟨h.is⟩
theorem TB.whole {W : World} {b : Nat} {x y : Tk} (h : TB W b x) : TB ((((W.setCell ⟨b, 0, none⟩ (.int .i64 (y.k : Int))).setCell ⟨b, 1, none⟩ (.int .i64 (y.at' : Int))).setCell ⟨b, 2, none⟩ (.string (bs y.t))).setCell ⟨b, 3, none⟩ (.int .i64 (y.n : Int))) b y := by
  have h0 := heap_setCell_same W b 0 _ _ (.int .i64 (y.k : Int)) h.is
  have h1 := heap_setCell_same _ b 1 _ _ (.int .i64 (y.at' : Int)) h0
  have h2 := heap_setCell_same _ b 2 _ _ (.string (bs y.t)) h1
  exact ⟨heap_setCell_same _ b 3 _ _ (.int .i64 (y.n : Int)) h2⟩
theorem TB.text {W : World} {b k i n : Nat} {t t' : List UInt8} (h : TB W b ⟨k, i, t, n⟩) : TB (W.setCell ⟨b, 2, none⟩ (.string (bs t'))) b ⟨k, i, t', n⟩ :=
  ⟨heap_setCell_same _ b 2 _ _ (.string (bs t')) h.is⟩
theorem TB.num {W : World} {b k i n n' : Nat} {t : List UInt8} (h : TB W b ⟨k, i, t, n⟩) : TB (W.setCell ⟨b, 3, none⟩ (.int .i64 (n' : Int))) b ⟨k, i, t, n'⟩ :=
  ⟨heap_setCell_same _ b 3 _ _ (.int .i64 (n' : Int)) h.is⟩
/-- The result of a function that hands a token back out of a block. -/
theorem results_tok {fn : Func} {p : Tmp} (h : fn.results = #[.cell p 121]) (tmps : Array Value) (w : World) (b : Nat) (x : Tk) (hp : tmps.getD p undef = .pointer (some ⟨b, 0, none⟩)) (hb : TB w b x) :
    (results fn tmps).run Try.prog w = .ok (tkV x) w :=
  results_cell_row h tmps w b _ _ _ _ hp hb.is Try.underlying121 rfl (info36 x)

/-- The two blocks that are made ahead of the walk's work. -/
theorem two_toks (w : World) (k i : Nat) : ∃ W1, (w.alloc (.cells #[.int .i64 0, .int .i64 0, .string { data := #[] }, .int .i64 0] 121)).alloc (.cells #[.int .i64 (k : Int), .int .i64 (i : Int), .string { data := #[] }, .int .i64 0] 121) = W1 ∧
    TB W1 w.heap.size ⟨0, 0, [], 0⟩ ∧ TB W1 (w.heap.size + 1) ⟨k, i, [], 0⟩ ∧ Below w.heap.size w W1 := by
  have T4 := (TB.new w ⟨0, 0, [], 0⟩).alloc (.cells (tkC ⟨k, i, [], 0⟩) 121)
  have T5 := TB.new (w.alloc (.cells (tkC ⟨0, 0, [], 0⟩) 121)) ⟨k, i, [], 0⟩
  rw [World.size_alloc] at T5
  exact ⟨_, rfl, T4, T5, ((Below.refl _ _).alloc (Nat.le_refl _) _).alloc (by simp) _⟩
theorem tk_eq {x : Tk} {k i n : Nat} (h1 : x.k = k) (h2 : x.at' = i) (h3 : x.n = n) : tkV ⟨k, i, x.t, n⟩ = tkV x := by subst h1 h2 h3; rfl
theorem below_whole {B b : Nat} {w W : World} (h : Below B w W) (hb : B ≤ b) (u0 u1 u2 u3 : Value) : Below B w ((((W.setCell ⟨b, 0, none⟩ u0).setCell ⟨b, 1, none⟩ u1).setCell ⟨b, 2, none⟩ u2).setCell ⟨b, 3, none⟩ u3) :=
  (((h.setCell (p := ⟨b, 0, none⟩) hb _).setCell (p := ⟨b, 1, none⟩) hb _).setCell (p := ⟨b, 2, none⟩) hb _).setCell (p := ⟨b, 3, none⟩) hb _

end Go.Proofs.Ytnplbmbbocffbaa
/- A range over a function that tells what it has copied: the iterator's word, and the law for its caller. -/
namespace Go.Proofs.Ytnplbmbbocffbaa
open Go.RowKit Go.Shelf
set_option linter.unusedVariables false

theorem own_later {β : Type} {B : Nat} {J : β → World → Prop} (h : OwnFrom B J) {s : β} {W W' : World} (hs : J s W) (hb : Below W.heap.size W W') : J s W' :=
  h s W W' none hs ⟨hb.os, hb.tape, hb.output, hb.size, fun k hk _ => hb.block k hk⟩ (fun r e => by cases e)

theorem keepsFrom_up {B B' : Nat} {W W' : World} (h : KeepsFrom B W W') (hB : B ≤ B') : KeepsFrom B' W W' := ⟨h.size, fun k o hk => h.same k o (Nat.le_trans hB hk)⟩
theorem keepsFrom_put (B : Nat) (W : World) (l : Nat) (o : Obj) (h : l < B) : KeepsFrom B W (W.putObj l o) := ⟨by simp, fun k p hk hp _ => (World.putObj_heap_other (by omega)).trans hp⟩
theorem boxed_kept {W W' : World} {row : Option Nat} {b : Nat} {t : TypeId} {v : Value} (h : Boxed W b t v) (hg : W.grownBy W' row) (hr : ∀ r, row = some r → ∃ o : Obj, W.heap[r]? = some o ∧ o.isCells = false) : Boxed W' b t v := (grownBy_keeps_cells hg hr h rfl).trans h
theorem wpIn_named {F : Fence} {n : Nat} {P : Program} {c : Code} {Q : Exit → Act → World → Prop} {a : Act} {w : World} (h : ∀ a', a' = a → Code.wpIn F n P c Q a' w) : Code.wpIn F n P c Q a w := h a rfl
/-- All blocks of cells but these are as they were. -/
structure KeepC (X : List Nat) (W W' : World) : Prop where
  size : W.heap.size ≤ W'.heap.size
  block : ∀ k cs T fr, k ∉ X → W.heap[k]? = some (.cells cs T fr) → W'.heap[k]? = some (.cells cs T fr)
theorem KeepC.refl (X : List Nat) (W : World) : KeepC X W W := ⟨Nat.le_refl _, fun _ _ _ _ _ h => h⟩
theorem KeepC.trans {X : List Nat} {A B C : World} (h : KeepC X A B) (k : KeepC X B C) : KeepC X A C := ⟨Nat.le_trans h.size k.size, fun i cs T fr hx hi => k.block i cs T fr hx (h.block i cs T fr hx hi)⟩
theorem KeepC.put {X : List Nat} {W : World} {l : Nat} {o : Obj} (o' : Obj) (h : W.heap[l]? = some o) (ho : o.isCells = false) : KeepC X W (W.putObj l o') := by
  refine ⟨by simp, fun i cs T fr hx hi => ?_⟩
  have hne : i ≠ l := by
    rintro rfl
    rw [h] at hi
    cases hi
    simp [Obj.isCells] at ho
  exact (World.putObj_heap_other hne).trans hi
def postA {E : Type} (B : Nat) (X : List Nat) (I : List E → World → Prop) (Ix : Code → List E → World → Prop) (xs : List E) (W : World) : Exit → Act → World → Prop
  | .normal, _, W' => KeepsFrom B W W' ∧ KeepC X W W' ∧ I xs W'
  | .ret, _, W' => KeepsFrom B W W' ∧ Ix .ret xs W'
  | .exit id, _, W' => KeepsFrom B W W' ∧ Ix (.exit id) xs W'
  | .goto t, _, W' => KeepsFrom B W W' ∧ Ix (.goto t) xs W'
  | .panic _, _, _ => False
  | .outgrown, _, _ => False
/-- An iterator's word. -/
def SeqA {E : Type} (vals : E → Array Value) (n g : Nat) (lb : Array Value) (X : List Nat) (L : List E) (w0 : World) : Prop :=
  ∀ (l : Nat) (J Jx : List E → World → Prop) (W : World), Below w0.heap.size w0 W → (∀ pre W1 W2, J pre W1 → Below W1.heap.size W1 W2 → J pre W2) →
    (∀ pre x r W1, J pre W1 → L = pre ++ x :: r → YieldAt Fence.wide (n - 1) Try.prog l (vals x) W1 fun e W' =>
      (e = .returned (.bool true) ∧ J (pre ++ [x]) W' ∧ KeepC X W1 W') ∨ (e = .returned (.bool false) ∧ Jx (pre ++ [x]) W')) →
    J [] W →
    CallsIn Fence.wide n Try.prog g (#[.func (.yield l) #[] #[]] ++ lb) W fun e W' => (∃ v, e = .returned v) ∧ (J L W' ∨ (∃ pre x r, L = pre ++ x :: r ∧ Jx (pre ++ [x]) W'))

/-- A loop's two blocks: the one for calls that are put off at D, the record behind it. -/
structure Two (D : Nat) (r : Loop) (W : World) : Prop where
  d : W.heap[D]? = some (.deferred (some []))
  l : W.heap[D + 1]? = some (.loop r)
theorem Two.later {D : Nat} {r : Loop} {W W' : World} (h : Two D r W) (hk : Below W.heap.size W W') : Two D r W' :=
  ⟨(hk.block D (Array.getElem?_eq_some_iff.1 h.d).1).trans h.d, (hk.block (D + 1) (Array.getElem?_eq_some_iff.1 h.l).1).trans h.l⟩
theorem Two.from {D : Nat} {r : Loop} {W W' : World} (h : Two D r W) (hk : KeepsFrom D W W') : Two D r W' := ⟨hk.same _ _ (Nat.le_refl _) h.d rfl, hk.same _ _ (by omega) h.l rfl⟩
theorem Two.put {D : Nat} {r : Loop} {W : World} (h : Two D r W) (r' : Loop) : Two D r' (W.putObj (D + 1) (.loop r')) :=
  ⟨(World.putObj_heap_other (by omega)).trans h.d, World.putObj_heap_same (Array.getElem?_eq_some_iff.1 h.l).1⟩
theorem grown_below {W W' : World} (h : Below W.heap.size W W') : W.grownBy W' none := ⟨h.os, h.tape, h.output, h.size, fun k hk _ => h.block k hk⟩

set_option maxHeartbeats 1000000 in
/-- The law for a caller. fr: what the assignment to the loop's variables leaves. -/
theorem rangeA {E : Type} {vals : E → Array Value} {g : Operand} {ps : Array Tmp} {assign body : Code} {Q : Exit → Act → World → Prop} {a : Act} {w : World} {n gf : Nat} {lb : Array Value} {X : List Nat} {L : List E} {w0 : World}
    (hg : a.eval g = .func (.func gf) #[] lb) (eg : ∀ args w, (callFunc gf args).run Try.prog w = .ok (.enter gf args) w)
    (hseq : SeqA vals (n - 1) gf lb X L w0) (hb0 : Below w0.heap.size w0 w) (hps : ∀ x, (vals x).size = ps.size)
    (I : List E → World → Prop) (Ix : Code → List E → World → Prop) (hI : OwnFrom w.heap.size I) (hIx : ∀ c, OwnFrom w.heap.size (Ix c)) (h0 : I [] w)
    (fr : E → Act)
    (hassign : ∀ (l : Nat) (x : E) (W : World) (K : Act → World → Prop), K (fr x) W →
      assign.wpIn (Fence.wide.inRound l) (n - 1 - 1) Try.prog (Exit.then K (fun _ _ _ => False)) { tmps := (ps.zip (vals x)).foldl (fun t (p, v) => t.setIfInBounds p v) a.tmps, defers := [] } W)
    (hbody : ∀ (l : Nat) (pre : List E) (x : E) (r : List E) (W : World), I pre W → L = pre ++ x :: r →
      body.wpIn (Fence.wide.inRound l) (n - 1 - 1) Try.prog (postA w.heap.size X I Ix (pre ++ [x]) W) (fr x) W)
    (hdone : ∀ (D : Nat) (W : World), w.heap.size ≤ D → I L W → W.heap[D]? = some (.deferred (some [])) → Q .normal { a with defers := { target := .collected D, args := #[] } :: a.defers } W)
    (hstop : ∀ (D : Nat) (c : Code) (pre : List E) (x : E) (r : List E) (W : World), w.heap.size ≤ D → L = pre ++ x :: r → Ix c (pre ++ [x]) W → W.heap[D]? = some (.deferred (some [])) → c.wpIn Fence.wide n Try.prog Q { a with defers := { target := .collected D, args := #[] } :: a.defers } W) :
    (Code.rangeFunc g ps assign body).wpIn Fence.wide n Try.prog Q a w := by
  refine wpIn_rangeFunc fun fn hfn => ?_
  obtain ⟨D, hD⟩ : ∃ D, D = w.heap.size := ⟨_, rfl⟩
  obtain ⟨rc, hrc⟩ : ∃ rc : LoopState → Option Code → Loop, rc = fun st pe => { state := st, pending := pe, fn, tmps := a.tmps, params := ps, assign, body, defers := D } := ⟨_, rfl⟩
  obtain ⟨V, hV⟩ : ∃ V, (w.alloc (.deferred (some []))).alloc (.loop (rc .ready none)) = V := ⟨_, rfl⟩
  have hV2 : Two D (rc .ready none) V := by
    rw [← hV, hD]
    refine ⟨(Below.heap_alloc _ _ _ (by simp)).trans (World.alloc_heap_new w _), ?_⟩
    have := World.alloc_heap_new (w.alloc (.deferred (some []))) (.loop (rc .ready none))
    rwa [World.size_alloc] at this
  have hVI : I [] V := by rw [← hV]; exact hI.alloc _ (hI.alloc _ h0)
  have hVb : Below w.heap.size w V := by
    rw [← hV]
    exact (((Below.refl _ w).alloc (Nat.le_refl _) _).alloc (by simp) _)
  have put : ∀ {pre : List E} {W : World} {r : Loop} (r' : Loop), I pre W → Two D r W → I pre (W.putObj (D + 1) (.loop r')) := fun r' hi h2 => hI.putObj _ hi (by omega) h2.l rfl
  have putx : ∀ {c : Code} {pre : List E} {W : World} {r : Loop} (r' : Loop), Ix c pre W → Two D r W → Ix c pre (W.putObj (D + 1) (.loop r')) := fun r' hi h2 => (hIx _).putObj _ hi (by omega) h2.l rfl
  refine ⟨D + 1, [{ target := .collected D, args := #[] }], V, { target := .fn (.func gf) lb, args := #[.func (.yield (D + 1)) #[] #[]] }, V, gf, #[.func (.yield (D + 1)) #[] #[]] ++ lb, V, ?_, ?_, ?_, ?_, ?_, ?_⟩
  · rw [← hV, hrc, hD]; exact run_enterLoop_outer _ _ _ _ _
  · simp only [resolve, hg]
    simp [go_sem]
  · intro f' _; trivial
  · simp [invoke, go_sem, eg]
  · intro h; cases h
  · refine (hseq (D + 1) (fun pre W => I pre W ∧ Two D (rc .ready none) W) (fun pre W => ∃ c, Ix c pre W ∧ Two D (rc .done (some c)) W) V (hb0.trans (hVb.mono hb0.size))
      (fun s X Z hs hk => ⟨hI s X Z none hs.1 (grown_below hk) (by simp), hs.2.later hk⟩)
      ?_ ⟨hVI, hV2⟩).mono ?_
    · rintro pre x r W ⟨hi, h2⟩ hL
      have hy := run_yield (P := Try.prog) (args := vals x) h2.l (by rw [hrc]; exact hps x)
      rw [hrc] at hy
      refine ⟨fn, _, assign, body, hy, roundIn_of_wpIn trivial (hassign _ x W _ ?_)⟩
      clear hy
      refine ⟨_, run_beginRound h2.l (by rw [hrc]), ?_⟩
      have h2b := h2.put { rc .ready none with state := .busy }
      have kc := KeepC.put (X := X) (.loop { rc .ready none with state := .busy }) h2.l rfl
      refine wpIn_mono (hbody _ pre x r _ (put _ hi h2) hL) ?_
      generalize W.putObj (D + 1) (.loop { rc .ready none with state := .busy }) = Wb at *
      rw [← hD]
      have fin : ∀ (jump : Option Code) (W3 : World), KeepsFrom D Wb W3 →
          (Instr.endRound (D + 1) jump).run Try.prog W3 = .ok (.bool jump.isNone) (W3.putObj (D + 1) (.loop (rc (if jump.isNone then .ready else .done) jump))) ∧ Two D { rc .ready none with state := .busy } W3 := fun jump W3 hk3 => by
        have h3 := h2b.from hk3
        have := run_endRound (P := Try.prog) jump h3.l
        rw [hrc] at this h3 ⊢
        exact ⟨this, h3⟩
      rintro e a3 W3 hp
      cases e with
      | normal =>
        obtain ⟨hk3, hc3, hi3⟩ := hp
        obtain ⟨hr, h3⟩ := fin none W3 hk3
        exact ⟨_, _, hr, .inl ⟨rfl, ⟨put _ hi3 h3, h3.put _⟩, (kc.trans hc3).trans (KeepC.put _ h3.l rfl)⟩⟩
      | ret =>
        obtain ⟨hk3, hi3⟩ := hp
        obtain ⟨hr, h3⟩ := fin (some .ret) W3 hk3
        exact ⟨_, _, hr, .inr ⟨rfl, ⟨.ret, putx _ hi3 h3, h3.put _⟩⟩⟩
      | exit id =>
        obtain ⟨hk3, hi3⟩ := hp
        obtain ⟨hr, h3⟩ := fin (some (.exit id)) W3 hk3
        exact ⟨_, _, hr, .inr ⟨rfl, ⟨.exit id, putx _ hi3 h3, h3.put _⟩⟩⟩
      | goto t =>
        obtain ⟨hk3, hi3⟩ := hp
        obtain ⟨hr, h3⟩ := fin (some (.goto t)) W3 hk3
        exact ⟨_, _, hr, .inr ⟨rfl, ⟨.goto t, putx _ hi3 h3, h3.put _⟩⟩⟩
      | panic ch => exact hp.elim
      | outgrown => exact hp.elim
    · rintro e W2 ⟨⟨v, rfl⟩, (⟨hi, h2⟩ | ⟨pre, x, r, hL, ⟨c, hi, h2⟩⟩)⟩
      · have he := run_endLoop (P := Try.prog) h2.l (by rw [hrc]; simp)
        rw [hrc] at he
        exact ⟨none, _, he, hdone D _ (Nat.le_of_eq hD.symm) (put _ hi h2) ((World.putObj_heap_other (by omega)).trans h2.d)⟩
      · have he := run_endLoop (P := Try.prog) h2.l (by rw [hrc]; simp)
        rw [hrc] at he
        exact ⟨some c, _, he, hstop D c pre x r _ (Nat.le_of_eq hD.symm) hL (putx _ hi h2) ((World.putObj_heap_other (by omega)).trans h2.d)⟩
end Go.Proofs.Ytnplbmbbocffbaa
/- The pieces of a text, told one by one. -/
namespace Go.Proofs.Ytnplbmbbocffbaa
open Go.RowKit Go.Shelf
set_option linter.unusedVariables false
attribute [local go_sem] Oper.semAt_some

/-- The pieces of a whole text. -/
abbrev pieceL (s : ByteArray) : List Tk := pcs 0 s.data.toList
theorem tkOf_len (i : Nat) (c : UInt8) (r : List UInt8) : (tkOf i c r).t.length = 1 + runLen (kind c) r := by
  have := runLen_le (kind c) r
  simp only [tkOf, List.length_cons, List.length_take]
  omega

end Go.Proofs.Ytnplbmbbocffbaa
/- The tokens of a text, told one by one: an iterator over an iterator. -/
namespace Go.Proofs.Ytnplbmbbocffbaa
open Go.RowKit Go.Shelf
set_option linter.unusedVariables false
attribute [local go_sem] Oper.semAt_some

theorem round_any {m m' l l2 : Nat} {f : FuncId} {tmps : Array Value} {assign body : Code} {w : World} {R : Ending → World → Prop}
    (h : RoundIn Fence.wide m Try.prog l f tmps assign body w R) : RoundIn (Fence.wide.inRound l2) m' Try.prog l f tmps assign body w R := ⟨h.1, fun c cs _ => h.2 c cs (room_wide _)⟩
theorem own_up {β : Type} {B B' : Nat} {J : β → World → Prop} (h : OwnFrom B J) (hB : B ≤ B') : OwnFrom B' J := fun s X Y row hs hg hr => h s X Y row hs hg (fun r e => ⟨by have := (hr r e).1; omega, (hr r e).2⟩)
theorem TB.kept {W W' : World} {row : Option Nat} {b : Nat} {x : Tk} (h : TB W b x) (hg : W.grownBy W' row) (hr : ∀ r, row = some r → ∃ o : Obj, W.heap[r]? = some o ∧ o.isCells = false) : TB W' b x := ⟨(grownBy_keeps_cells hg hr h.is rfl).trans h.is⟩

theorem toksOf_all {ps : List Tk} (h : ∀ y ∈ ps, y.k ≠ 0) : toksOf ps = ps := by
  unfold toksOf
  induction ps with
  | nil => rfl
  | cons a r ih => rw [List.takeWhile_cons_of_pos (by simpa using h a (by simp)), ih (fun y hy => h y (List.mem_cons_of_mem _ hy))]
theorem toksOf_stop {q r : List Tk} {x : Tk} (h : ∀ y ∈ q, y.k ≠ 0) (hx : x.k = 0) : toksOf (q ++ [x] ++ r) = q := by
  unfold toksOf
  rw [List.append_assoc, List.takeWhile_append_of_pos (fun y hy => by simpa using h y hy)]
  simp [hx]
theorem toksOf_pre {q r : List Tk} (h : ∀ y ∈ q, y.k ≠ 0) : q <+: toksOf (q ++ r) := by
  unfold toksOf
  rw [List.takeWhile_append_of_pos (fun y hy => by simpa using h y hy)]
  exact ⟨_, rfl⟩
theorem toksOf_prefix (ps : List Tk) : toksOf ps <+: ps := List.takeWhile_prefix _

abbrev tokL (s : ByteArray) : List Tk := toksOf (pieceL s)

end Go.Proofs.Ytnplbmbbocffbaa
/- Rows of tokens in memory; the law's own each. -/
namespace Go.Proofs.Ytnplbmbbocffbaa
open Go.RowKit Go.Shelf
set_option linter.unusedVariables false
attribute [local go_sem] Oper.semAt_some

/-- The cells of a row of tokens. -/
def tkCells (ts : List Tk) : List Value := ts.flatMap fun x => [.int .i64 (x.k : Int), .int .i64 (x.at' : Int), .string (bs x.t), .int .i64 (x.n : Int)]
theorem tkCells_snoc (ts : List Tk) (x : Tk) : tkCells (ts ++ [x]) = tkCells ts ++ [.int .i64 (x.k : Int), .int .i64 (x.at' : Int), .string (bs x.t), .int .i64 (x.n : Int)] := by simp [tkCells]
theorem tkCells_length (ts : List Tk) : (tkCells ts).length = 4 * ts.length := by
  induction ts with
  | nil => rfl
  | cons a r ih => simp only [tkCells, List.flatMap_cons, List.length_append, List.length_cons, List.length_nil] at *; omega
theorem tkCells_get (ts : List Tk) : ∀ (i : Nat) (x : Tk), ts[i]? = some x → (tkCells ts)[4 * i]? = some (.int .i64 (x.k : Int)) ∧ (tkCells ts)[4 * i + 1]? = some (.int .i64 (x.at' : Int)) ∧ (tkCells ts)[4 * i + 2]? = some (.string (bs x.t)) ∧ (tkCells ts)[4 * i + 3]? = some (.int .i64 (x.n : Int)) := by
  induction ts with
  | nil => intro i x h; simp at h
  | cons a r ih =>
    intro i x h
    cases i with
    | zero => simp at h; subst h; exact ⟨rfl, rfl, rfl, rfl⟩
    | succ i =>
      simp only [List.getElem?_cons_succ] at h
      have := ih i x h
      simp only [tkCells, List.flatMap_cons] at *
      rw [show 4 * (i + 1) = 4 * i + 4 by omega]
      simpa [List.getElem?_append_right, show 4 * i + 4 + 1 = 4 * i + 1 + 4 by omega, show 4 * i + 4 + 2 = 4 * i + 2 + 4 by omega, show 4 * i + 4 + 3 = 4 * i + 3 + 4 by omega] using this
theorem bs_inj {a b : List UInt8} (h : bs a = bs b) : a = b := by rw [← bs_toList a, h, bs_toList]
theorem tkC_inj {x y : Tk} (h : (tkC x).toList = (tkC y).toList) : x = y := by
  cases x
  cases y
  simp at h
  obtain ⟨h1, h2, h3, h4⟩ := h
  have h3 := bs_inj h3
  subst h3
  congr 1 <;> omega

theorem infoTok : (Try.prog.info? 121).map (fun i => (i.zero, i.size, i.bytes)) = some (some (.agg #[.int .i64 0, .int .i64 0, .string { data := #[] }, .int .i64 0]), 4, 40) := by kernel_rfl

/-- A slice that reads as these tokens. -/
def Toks (w : World) (v : Value) (ts : List Tk) : Prop :=
  (v = .slice none 0 0 ∧ ts = []) ∨ ∃ g cap, v = .slice (some ⟨g, 0, none⟩) ts.length cap ∧ ts.length ≤ cap ∧ cap ≤ maxLen ∧ g < w.heap.size ∧
    ∀ i x, ts[i]? = some x → w.cell? ⟨g, 4 * i, none⟩ = some (.int .i64 (x.k : Int)) ∧ w.cell? ⟨g, 4 * i + 1, none⟩ = some (.int .i64 (x.at' : Int)) ∧ w.cell? ⟨g, 4 * i + 2, none⟩ = some (.string (bs x.t)) ∧ w.cell? ⟨g, 4 * i + 3, none⟩ = some (.int .i64 (x.n : Int))
theorem Toks.below {w w' : World} {v : Value} {ts : List Tk} {B : Nat} (h : Toks w v ts) (hb : Below B w w') (hB : ∀ g, v.ownBlock = some g → g < B) : Toks w' v ts := by
  rcases h with ⟨rfl, rfl⟩ | ⟨g, cap, rfl, h1, h2, h3, h4⟩
  · exact .inl ⟨rfl, rfl⟩
  · have hg : g < B := hB g rfl
    have e : ∀ o, w'.cell? ⟨g, o, none⟩ = w.cell? ⟨g, o, none⟩ := fun o => hb.cell (p := ⟨g, o, none⟩) hg
    exact .inr ⟨g, cap, rfl, h1, h2, by have := hb.size; omega, fun i x hx => by rw [e, e, e, e]; exact h4 i x hx⟩
theorem Toks.later {w w' : World} {v : Value} {ts : List Tk} (h : Toks w v ts) (hb : Below w.heap.size w w') : Toks w' v ts := h.below hb fun g hg => by
  rcases h with ⟨rfl, _⟩ | ⟨g', cap, rfl, _, _, h3, _⟩
  · simp [Value.ownBlock] at hg
  · simp [Value.ownBlock] at hg; omega
theorem addr_add (g k : Nat) : (⟨g, 0, none⟩ : Addr).add k = ⟨g, k, none⟩ := by
  unfold Addr.add
  by_cases h : k = 0
  · simp [h]
  · simp [h]
theorem toks_of_row {w : World} {n0 : Nat} {v : Value} {ts : List Tk} (h : w.ownsRow n0 121 4 v ts.length (tkCells ts)) : Toks w v ts := by
  have hc := fun g (hg : v.ownBlock = some g) => h.cells hg
  rcases h.2 with ⟨hv, h0⟩ | ⟨g, cap, cur, hv, _, hgb, hle, hmax, _, _⟩
  · exact .inl ⟨hv, List.eq_nil_of_length_eq_zero h0⟩
  · subst hv
    refine .inr ⟨g, cap, rfl, hle, hmax, (Array.getElem?_eq_some_iff.1 hgb).1, fun i x hx => ?_⟩
    have := tkCells_get ts i x hx
    rw [← addr_add g (4 * i), ← addr_add g (4 * i + 1), ← addr_add g (4 * i + 2), ← addr_add g (4 * i + 3)]
    exact ⟨hc g rfl _ _ this.1, hc g rfl _ _ this.2.1, hc g rfl _ _ this.2.2.1, hc g rfl _ _ this.2.2.2⟩

theorem four_new (V : World) (x : Tk) : ∀ j u, ([.int .i64 (x.k : Int), .int .i64 (x.at' : Int), .string (bs x.t), .int .i64 (x.n : Int)] : List Value)[j]? = some u → (V.alloc (.cells #[.int .i64 (x.k : Int), .int .i64 (x.at' : Int), .string (bs x.t), .int .i64 (x.n : Int)] 121)).cell? ((⟨V.heap.size, 0, none⟩ : Addr).add j) = some u := by
  intro j u hj
  rw [addr_add, cell_of_row _ _ j _ _ _ (TB.new V x).is]
  simpa using hj

end Go.Proofs.Ytnplbmbbocffbaa
/- The document's own answer: one token. -/
namespace Go.Proofs.Ytnplbmbbocffbaa
open Go.RowKit
set_option linter.unusedVariables false

/-- One token, as the document's own answer tells it. -/
def oneT (i : Nat) (c : UInt8) (r : List UInt8) : Tk := if kind c = 0 then ⟨0, 0, [], 0⟩ else tkOf i c r
theorem kind_ltr {c : UInt8} (h : ltr c = true) : kind c = 1 := by rw [kind, if_pos h]
theorem kind_dgt {c : UInt8} (h : ltr c = false) (h2 : dgt c = true) : kind c = 2 := by rw [kind, if_neg (by rw [h]; simp), if_pos h2]
theorem kind_eq {c : UInt8} (h : ltr c = false) (h2 : dgt c = false) (h3 : c.toNat = 61) : kind c = 3 := by rw [kind, if_neg (by rw [h]; simp), if_neg (by rw [h2]; simp), if_pos h3]
theorem kind_lf {c : UInt8} (h : ltr c = false) (h2 : dgt c = false) (h3 : c.toNat = 10) : kind c = 4 := by rw [kind, if_neg (by rw [h]; simp), if_neg (by rw [h2]; simp), if_neg (by omega), if_pos h3]
theorem kind_no {c : UInt8} (h : ltr c = false) (h2 : dgt c = false) (h3 : c.toNat ≠ 61) (h4 : c.toNat ≠ 10) : kind c = 0 := by rw [kind, if_neg (by rw [h]; simp), if_neg (by rw [h2]; simp), if_neg h3, if_neg h4]
theorem runLen_no {k : Nat} (h : ∀ c, goes k c = false) : ∀ l, runLen k l = 0
  | [] => rfl
  | c :: r => by rw [runLen, if_neg (by rw [h c]; simp)]

theorem slice_run (s : ByteArray) (i j : Nat) (h1 : i ≤ j) (h2 : j ≤ s.size) (w : World) : (Instr.slice 9 (.string s) (some (.int .i64 (i : Int))) (some (.int .i64 (j : Int))) none).run Try.prog w = .ok (.string (s.extract i j)) w := by
  have hij : (i : Int) ≤ (j : Int) := by omega
  have hjs : (j : Int) ≤ (s.size : Int) := by omega
  go_simp

theorem TB.kind' {W : World} {b k k' i n : Nat} {t : List UInt8} (h : TB W b ⟨k, i, t, n⟩) : TB (W.setCell ⟨b, 0, none⟩ (.int .i64 (k' : Int))) b ⟨k', i, t, n⟩ :=
  ⟨heap_setCell_same _ b 0 _ _ (.int .i64 (k' : Int)) h.is⟩
theorem extract_get (s : ByteArray) (i j m : Nat) (hi : i ≤ m) (hm : m < j) (hj : j ≤ s.size) (t : List UInt8) (h : s.extract i j = bs t) : ∃ h1 : m < s.size, ∃ h2 : m - i < t.length, t[m - i] = s[m] := by
  have e := congrArg (fun b : ByteArray => b.data.toList) h
  simp only [bs_toList, Lib.extract_data] at e
  have hs := Lib.size_eq s
  have hl : t.length = j - i := by rw [← e, List.length_take, List.length_drop]; omega
  refine ⟨by omega, by omega, ?_⟩
  have h2 : t[m - i]? = some s[m] := by
    rw [← e, List.getElem?_take_of_lt (by omega), List.getElem?_drop, show i + (m - i) = m by omega]
    rw [List.getElem?_eq_getElem (by omega)]
    rfl
  rw [List.getElem?_eq_getElem (by omega)] at h2
  exact Option.some.inj h2

set_option maxRecDepth 100000 in
set_option maxHeartbeats 4000000 in
theorem one_any (s : ByteArray) (i : Nat) (w : World) (hi : i < s.size) (hs : s.size ≤ 9223372036854775807) : Calls Try.prog 79 #[.string s, .int .i64 (i : Int)] w fun e w' => e = .returned (tkV (oneT i s[i] (s.data.toList.drop (i + 1)))) ∧ Below w.heap.size w w' := by
  obtain ⟨c, hc⟩ : ∃ c, s[i] = c := ⟨_, rfl⟩
  rw [hc]
  obtain ⟨W1, hW1, T4, T5, B1⟩ := two_toks w 0 i
  have HW := Lib.hid hW1
  rw [show ((0 : Nat) : Int) = 0 from rfl] at HW
  have C := Lib.hid hc
  have hc256 := c.toNat_lt
  have L := Lib.hid (fun w => rletter_any c w)
  have D := Lib.hid (fun w => rdigit_any c w)
  clear hW1
  have f5 := T5.frozen
  have c0 := T5.c0
  have c1 := T5.c1
  have c2 := T5.c2
  have c3 := T5.c3
  have g4 := T4.frozen
  have q0 := T4.c0
  have q1 := T4.c1
  have q2 := T4.c2
  have q3 := T4.c3
  cases hl : ltr c
  · cases hd : dgt c
    · by_cases h61 : c.toNat = 61
      · have hk : oneT i c (s.data.toList.drop (i + 1)) = ⟨3, i, [c], 0⟩ := by rw [oneT, kind_eq hl hd h61, if_neg (by omega), tkOf, kind_eq hl hd h61, runLen_no goes_3]; simp
        rw [hk]
        rw [hl] at L
        rw [hd] at D
        have t1 : ((c.toNat : Int) == 61) = true := by simp; omega
        have hx : s.extract i (i + 1) = bs [c] := by rw [extract_tok s i (i + 1) hi (Nat.le_refl _), C.out]; simp
        have hsl := fun w => slice_run s i (i + 1) (by omega) (by omega) w
        rw [hx, show ((i + 1 : Nat) : Int) = (i : Int) + 1 from rfl] at hsl
        have T61 := Lib.hid h61
        clear hk hl hd h61
        go_enter Try.func79, Try.ntmps79
        go_upto_region 2 with (fail)
        rw [HW.out]
        go_wp2_with (first
          | (go_at_call 85; (with_reducible refine (L.out _).mono ?_); rintro e w' ⟨rfl, rfl⟩)
          | (go_at_call 86; (with_reducible refine (D.out _).mono ?_); rintro e w' ⟨rfl, rfl⟩))
        have R := ((T4.other ⟨w.heap.size + 1, 0, none⟩ (.int .i64 3) (by simp)).other ⟨w.heap.size + 1, 2, none⟩ (.string (bs [c])) (by simp)).whole (y := ⟨3, i, [c], 0⟩)
        exact bodyPost_ret (v := tkV ⟨3, i, [c], 0⟩) (results_tok rfl _ _ _ _ rfl R) rfl ⟨rfl, below_whole ((B1.setCell (p := ⟨w.heap.size + 1, 0, none⟩) (Nat.le_succ _) _).setCell (p := ⟨w.heap.size + 1, 2, none⟩) (Nat.le_succ _) _) (Nat.le_refl _) _ _ _ _⟩
      · by_cases h10 : c.toNat = 10
        · have hk : oneT i c (s.data.toList.drop (i + 1)) = ⟨4, i, [c], 0⟩ := by rw [oneT, kind_lf hl hd h10, if_neg (by omega), tkOf, kind_lf hl hd h10, runLen_no goes_4]; simp
          rw [hk]
          rw [hl] at L
          rw [hd] at D
          have t1 : ((c.toNat : Int) == 10) = true := by simp; omega
          have t2 : ((c.toNat : Int) == 61) = false := by simp; omega
          have T10 := Lib.hid h61
          clear h61
          have hx : s.extract i (i + 1) = bs [c] := by rw [extract_tok s i (i + 1) hi (Nat.le_refl _), C.out]; simp
          have hsl := fun w => slice_run s i (i + 1) (by omega) (by omega) w
          rw [hx, show ((i + 1 : Nat) : Int) = (i : Int) + 1 from rfl] at hsl
          have T61 := Lib.hid h10
          clear hk hl hd h10
          go_enter Try.func79, Try.ntmps79
          go_upto_region 2 with (fail)
          rw [HW.out]
          go_wp2_with (first
            | (go_at_call 85; (with_reducible refine (L.out _).mono ?_); rintro e w' ⟨rfl, rfl⟩)
            | (go_at_call 86; (with_reducible refine (D.out _).mono ?_); rintro e w' ⟨rfl, rfl⟩))
          have R := ((T4.other ⟨w.heap.size + 1, 0, none⟩ (.int .i64 4) (by simp)).other ⟨w.heap.size + 1, 2, none⟩ (.string (bs [c])) (by simp)).whole (y := ⟨4, i, [c], 0⟩)
          exact bodyPost_ret (v := tkV ⟨4, i, [c], 0⟩) (results_tok rfl _ _ _ _ rfl R) rfl ⟨rfl, below_whole ((B1.setCell (p := ⟨w.heap.size + 1, 0, none⟩) (Nat.le_succ _) _).setCell (p := ⟨w.heap.size + 1, 2, none⟩) (Nat.le_succ _) _) (Nat.le_refl _) _ _ _ _⟩
        · have hk : oneT i c (s.data.toList.drop (i + 1)) = ⟨0, 0, [], 0⟩ := by rw [oneT, kind_no hl hd h61 h10, if_pos rfl]
          rw [hk]
          rw [hl] at L
          rw [hd] at D
          have t1 : ((c.toNat : Int) == 61) = false := by simp; omega
          have t2 : ((c.toNat : Int) == 10) = false := by simp; omega
          clear hk hl hd h61 h10
          go_enter Try.func79, Try.ntmps79
          go_upto_region 2 with (fail)
          rw [HW.out]
          go_wp2_with (first
          | (go_at_call 85; (with_reducible refine (L.out _).mono ?_); rintro e w' ⟨rfl, rfl⟩)
          | (go_at_call 86; (with_reducible refine (D.out _).mono ?_); rintro e w' ⟨rfl, rfl⟩))
          have R := T4.whole (y := ⟨0, 0, [], 0⟩)
          exact bodyPost_ret (v := tkV ⟨0, 0, [], 0⟩) (results_tok rfl _ _ _ _ rfl R) rfl ⟨rfl, below_whole B1 (Nat.le_refl _) _ _ _ _⟩
    · have hkc := kind_dgt hl hd
      have hk : oneT i c (s.data.toList.drop (i + 1)) = tkOf i c (s.data.toList.drop (i + 1)) := by rw [oneT, hkc, if_neg (by omega)]
      rw [hk]
      have hdig := tkOf_digits (i := i) (r := s.data.toList.drop (i + 1)) hkc
      generalize hx : tkOf i c (s.data.toList.drop (i + 1)) = x at *
      have hxl : x.k = 2 ∧ x.at' = i ∧ x.t = c :: (s.data.toList.drop (i + 1)).take (runLen 2 (s.data.toList.drop (i + 1))) ∧ x.n = numOf x.t := by
        subst hx
        refine ⟨hkc, rfl, by simp only [tkOf, hkc], by simp [tkOf, hkc]⟩
      have HX := Lib.hid hxl
      have HG := Lib.hid hdig
      rw [hl] at L
      rw [hd] at D
      clear hk hx hxl hkc hl hd hdig
      go_enter Try.func79, Try.ntmps79
      go_upto_region 2 with (fail)
      rw [HW.out]
      go_wp2_with (first
        | (go_at_call 85; (with_reducible refine (L.out _).mono ?_); rintro e w' ⟨rfl, rfl⟩)
        | (go_at_call 86; (with_reducible refine (D.out _).mono ?_); rintro e w' ⟨rfl, rfl⟩))
      obtain ⟨W2, hW2, T4', T5', B2⟩ : ∃ W2, W1.setCell ⟨w.heap.size + 1, 0, none⟩ (.int .i64 2) = W2 ∧ TB W2 w.heap.size ⟨0, 0, [], 0⟩ ∧ TB W2 (w.heap.size + 1) ⟨2, i, [], 0⟩ ∧ Below w.heap.size w W2 :=
        ⟨_, rfl, T4.other _ _ (by simp), T5.kind' (k' := 2), B1.setCell (p := ⟨w.heap.size + 1, 0, none⟩) (Nat.le_succ _) _⟩
      rw [hW2]
      clear hW2 T4 T5 B1 f5 c0 c1 c2 c3 g4 q0 q1 q2 q3 L D HW
      have T4 := T4'
      have T5 := T5'
      clear T4' T5'
      go_loop [6] (fun e => ∃ j : Nat, i + 1 ≤ j ∧ j ≤ s.size ∧ e = .int .i64 j ∧ Hid (runLen 2 (s.data.toList.drop (i + 1)) = (j - (i + 1)) + runLen 2 (s.data.toList.drop j))) (fun e => s.size - (intOf e).toNat)
      case atStart => exact ⟨i + 1, Nat.le_refl _, by omega, by go_num, Lib.hid (by omega)⟩
      case round =>
        obtain ⟨j, hj1, hj2, rfl, hr⟩ := hrel
        by_cases hlt : j < s.size
        · obtain ⟨d, hd⟩ : ∃ d, s[j] = d := ⟨_, rfl⟩
          have hr2 := hr.out
          rw [drop_get s j hlt, hd, runLen] at hr2
          have hdk : decide ((j : Int) < (s.size : Int)) = true := decide_eq_true (by omega)
          have hd256 := d.toNat_lt
          have D := Lib.hid (fun w => rdigit_any d w)
          clear hr
          cases hd2 : dgt d
          · have hg : goes 2 d = false := by rw [goes_2, hd2]
            rw [hg, if_neg (by simp)] at hr2
            have HD := Lib.hid hr2
            rw [hd2] at D
            clear hr2 hg hd2
            go_wp2_with (go_at_call 86; (with_reducible refine (D.out _).mono ?_); rintro e w' ⟨rfl, rfl⟩)
            have hx : s.extract i j = bs x.t := by rw [extract_tok s i j hi hj1, C.out, HX.out.2.2.1]; congr 3; have := HD.out; omega
            have hsl := fun w => slice_run s i j (by omega) hj2 w
            rw [hx] at hsl
            have HSL := Lib.hid hsl
            clear HD hdk hsl
            go_loopw [10] (fun a wr => ∃ m : Nat, i ≤ m ∧ m ≤ j ∧ a = .int .i64 m ∧ TB wr w.heap.size ⟨0, 0, [], 0⟩ ∧ TB wr (w.heap.size + 1) ⟨2, i, [], numOf (x.t.take (m - i))⟩ ∧ Below w.heap.size w wr) (fun a _ => j - (intOf a).toNat)
            case atStart => exact ⟨i, Nat.le_refl _, by omega, rfl, T4, by rw [Nat.sub_self]; exact T5, B2⟩
            case round =>
              clear T4 T5 B2
              obtain ⟨m, hm1, hm2, rfl, T4, T5, B2⟩ := hrel
              by_cases hmj : m < j
              · obtain ⟨g1, g2, g3⟩ := extract_get s i j m hm1 hmj hj2 x.t hx
                have hdg := HG.out x.t[m - i] (List.getElem_mem g2)
                have hsn := take_snoc x.t (m - i) g2
                rw [g3] at hdg hsn
                generalize hu : s[m] = u at *
                have hub : 48 ≤ u.toNat ∧ u.toNat ≤ 57 := by simpa [dgt] using hdg
                obtain ⟨hu1, hu2⟩ := hub
                have hN := numOf_snoc (x.t.take (m - i)) u
                rw [← hsn, show m - i + 1 = m + 1 - i by omega] at hN
                have hNle := numOf_le (x.t.take (m - i))
                have H1 := Lib.hid hN
                clear hN hsn hdg g3 g2 hx
                generalize numOf (x.t.take (m - i)) = y at *
                have c3 := T5.c3
                have f5 := T5.frozen
                have hmd : decide ((m : Int) < (j : Int)) = true := decide_eq_true (by omega)
                go_wp2
                go_region
                all_goals go_wp2
                have he : min ((y : Int) * 10 + ((u.toNat : Int) - 48)) 1099511627776 = ((numOf (x.t.take (m + 1 - i)) : Nat) : Int) := by rw [H1.out]; omega
                rw [he]
                exact ⟨⟨m + 1, by omega, by omega, by go_num, ⟨(T4.other ⟨w.heap.size + 1, 3, none⟩ _ (by simp)).is⟩, ⟨(T5.num (n' := numOf (x.t.take (m + 1 - i)))).is⟩, (B2.setCell (p := ⟨w.heap.size + 1, 3, none⟩) (Nat.le_succ _) _).drew⟩, by simp [intOf]; omega⟩
              · obtain rfl : m = j := by omega
                have hmd : decide ((m : Int) < (m : Int)) = false := decide_eq_false (by omega)
                have hfull : x.t.take (m - i) = x.t := by
                  refine List.take_of_length_le ?_
                  have e := congrArg ByteArray.size hx
                  rw [bs_size] at e
                  rw [← e]; simp; omega
                rw [hfull] at T5
                have hsl := HSL.out
                have c0 := T5.c0
                have c1 := T5.c1
                have c2 := T5.c2
                have c3 := T5.c3
                have f5 := T5.frozen
                have g4 := T4.frozen
                have q0 := T4.c0
                have q1 := T4.c1
                have q2 := T4.c2
                have q3 := T4.c3
                clear hfull hx
                go_wp2
                have R := (T4.other ⟨w.heap.size + 1, 2, none⟩ (.string (bs x.t)) (by simp)).whole (y := ⟨2, i, x.t, numOf x.t⟩)
                exact bodyPost_ret (v := tkV ⟨2, i, x.t, numOf x.t⟩) (results_tok rfl _ _ _ _ rfl R) rfl ⟨congrArg Ending.returned (tk_eq HX.out.1 HX.out.2.1 HX.out.2.2.2), below_whole (B2.setCell (p := ⟨w.heap.size + 1, 2, none⟩) (Nat.le_succ _) _) (Nat.le_refl _) _ _ _ _⟩
          · have hg : goes 2 d = true := by rw [goes_2, hd2]
            rw [hg, if_pos rfl] at hr2
            have HD := Lib.hid hr2
            rw [hd2] at D
            clear hr2 hg hd2
            go_wp2_with (go_at_call 86; (with_reducible refine (D.out _).mono ?_); rintro e w' ⟨rfl, rfl⟩)
            go_round
            case rel => exact ⟨j + 1, by omega, by omega, by go_num, Lib.hid (by have := HD.out; omega)⟩
            case measure => simp [intOf]; omega
        · have HD : Hid (runLen 2 (s.data.toList.drop (i + 1)) = j - (i + 1) + 0) := by
            have hr2 := hr.out
            rw [show s.data.toList.drop j = [] from List.drop_of_length_le (by rw [← Lib.size_eq]; omega)] at hr2
            exact Lib.hid hr2
          have hdk : decide ((j : Int) < (s.size : Int)) = false := decide_eq_false (by omega)
          clear hr
          go_wp2
          have hx : s.extract i j = bs x.t := by rw [extract_tok s i j hi hj1, C.out, HX.out.2.2.1]; congr 3; have := HD.out; omega
          have hsl := fun w => slice_run s i j (by omega) hj2 w
          rw [hx] at hsl
          have HSL := Lib.hid hsl
          clear HD hdk hsl
          go_loopw [10] (fun a wr => ∃ m : Nat, i ≤ m ∧ m ≤ j ∧ a = .int .i64 m ∧ TB wr w.heap.size ⟨0, 0, [], 0⟩ ∧ TB wr (w.heap.size + 1) ⟨2, i, [], numOf (x.t.take (m - i))⟩ ∧ Below w.heap.size w wr) (fun a _ => j - (intOf a).toNat)
          case atStart => exact ⟨i, Nat.le_refl _, by omega, rfl, T4, by rw [Nat.sub_self]; exact T5, B2⟩
          case round =>
            clear T4 T5 B2
            obtain ⟨m, hm1, hm2, rfl, T4, T5, B2⟩ := hrel
            by_cases hmj : m < j
            · obtain ⟨g1, g2, g3⟩ := extract_get s i j m hm1 hmj hj2 x.t hx
              have hdg := HG.out x.t[m - i] (List.getElem_mem g2)
              have hsn := take_snoc x.t (m - i) g2
              rw [g3] at hdg hsn
              generalize hu : s[m] = u at *
              have hub : 48 ≤ u.toNat ∧ u.toNat ≤ 57 := by simpa [dgt] using hdg
              obtain ⟨hu1, hu2⟩ := hub
              have hN := numOf_snoc (x.t.take (m - i)) u
              rw [← hsn, show m - i + 1 = m + 1 - i by omega] at hN
              have hNle := numOf_le (x.t.take (m - i))
              have H1 := Lib.hid hN
              clear hN hsn hdg g3 g2 hx
              generalize numOf (x.t.take (m - i)) = y at *
              have c3 := T5.c3
              have f5 := T5.frozen
              have hmd : decide ((m : Int) < (j : Int)) = true := decide_eq_true (by omega)
              go_wp2
              go_region
              all_goals go_wp2
              have he : min ((y : Int) * 10 + ((u.toNat : Int) - 48)) 1099511627776 = ((numOf (x.t.take (m + 1 - i)) : Nat) : Int) := by rw [H1.out]; omega
              rw [he]
              exact ⟨⟨m + 1, by omega, by omega, by go_num, ⟨(T4.other ⟨w.heap.size + 1, 3, none⟩ _ (by simp)).is⟩, ⟨(T5.num (n' := numOf (x.t.take (m + 1 - i)))).is⟩, (B2.setCell (p := ⟨w.heap.size + 1, 3, none⟩) (Nat.le_succ _) _).drew⟩, by simp [intOf]; omega⟩
            · obtain rfl : m = j := by omega
              have hmd : decide ((m : Int) < (m : Int)) = false := decide_eq_false (by omega)
              have hfull : x.t.take (m - i) = x.t := by
                refine List.take_of_length_le ?_
                have e := congrArg ByteArray.size hx
                rw [bs_size] at e
                rw [← e]; simp; omega
              rw [hfull] at T5
              have hsl := HSL.out
              have c0 := T5.c0
              have c1 := T5.c1
              have c2 := T5.c2
              have c3 := T5.c3
              have f5 := T5.frozen
              have g4 := T4.frozen
              have q0 := T4.c0
              have q1 := T4.c1
              have q2 := T4.c2
              have q3 := T4.c3
              clear hfull hx
              go_wp2
              have R := (T4.other ⟨w.heap.size + 1, 2, none⟩ (.string (bs x.t)) (by simp)).whole (y := ⟨2, i, x.t, numOf x.t⟩)
              exact bodyPost_ret (v := tkV ⟨2, i, x.t, numOf x.t⟩) (results_tok rfl _ _ _ _ rfl R) rfl ⟨congrArg Ending.returned (tk_eq HX.out.1 HX.out.2.1 HX.out.2.2.2), below_whole (B2.setCell (p := ⟨w.heap.size + 1, 2, none⟩) (Nat.le_succ _) _) (Nat.le_refl _) _ _ _ _⟩
  · have hkc := kind_ltr hl
    have hk : oneT i c (s.data.toList.drop (i + 1)) = tkOf i c (s.data.toList.drop (i + 1)) := by rw [oneT, hkc, if_neg (by omega)]
    rw [hk]
    generalize hx : tkOf i c (s.data.toList.drop (i + 1)) = x
    have hxl : x.k = 1 ∧ x.at' = i ∧ x.t = c :: (s.data.toList.drop (i + 1)).take (runLen 1 (s.data.toList.drop (i + 1))) ∧ x.n = 0 := by
      subst hx
      refine ⟨hkc, rfl, by simp only [tkOf, hkc], by simp [tkOf, hkc]⟩
    have HX := Lib.hid hxl
    rw [hl] at L
    clear hk hx hxl hkc hl
    generalize dgt c = dc at *
    go_enter Try.func79, Try.ntmps79
    go_upto_region 2 with (fail)
    rw [HW.out]
    go_wp2_with (first
      | (go_at_call 85; (with_reducible refine (L.out _).mono ?_); rintro e w' ⟨rfl, rfl⟩)
      | (go_at_call 86; (with_reducible refine (D.out _).mono ?_); rintro e w' ⟨rfl, rfl⟩))
    obtain ⟨W2, hW2, T4', T5', B2⟩ : ∃ W2, W1.setCell ⟨w.heap.size + 1, 0, none⟩ (.int .i64 1) = W2 ∧ TB W2 w.heap.size ⟨0, 0, [], 0⟩ ∧ TB W2 (w.heap.size + 1) ⟨1, i, [], 0⟩ ∧ Below w.heap.size w W2 :=
      ⟨_, rfl, T4.other _ _ (by simp), T5.kind' (k' := 1), B1.setCell (p := ⟨w.heap.size + 1, 0, none⟩) (Nat.le_succ _) _⟩
    rw [hW2]
    clear hW2 T4 T5 B1 f5 c0 c1 c2 c3 g4 q0 q1 q2 q3 L D HW
    have T4 := T4'
    have T5 := T5'
    clear T4' T5'
    go_loop [6] (fun e => ∃ j : Nat, i + 1 ≤ j ∧ j ≤ s.size ∧ e = .int .i64 j ∧ Hid (runLen 1 (s.data.toList.drop (i + 1)) = (j - (i + 1)) + runLen 1 (s.data.toList.drop j))) (fun e => s.size - (intOf e).toNat)
    case atStart => exact ⟨i + 1, Nat.le_refl _, by omega, by go_num, Lib.hid (by omega)⟩
    case round =>
      obtain ⟨j, hj1, hj2, rfl, hr⟩ := hrel
      by_cases hlt : j < s.size
      · obtain ⟨d, hd⟩ : ∃ d, s[j] = d := ⟨_, rfl⟩
        have hr2 := hr.out
        rw [drop_get s j hlt, hd, runLen] at hr2
        have hdk : decide ((j : Int) < (s.size : Int)) = true := decide_eq_true (by omega)
        have hd256 := d.toNat_lt
        have L := Lib.hid (fun w => rletter_any d w)
        have D := Lib.hid (fun w => rdigit_any d w)
        clear hr
        cases hl : ltr d
        · cases hd2 : dgt d
          · by_cases h46 : d.toNat = 46
            · have hg : goes 1 d = true := by simp [goes, hl, hd2, h46]
              rw [hg, if_pos rfl] at hr2
              have HD := Lib.hid hr2
              rw [hl] at L
              rw [hd2] at D
              have t46 : ((d.toNat : Int) == 46) = true := by simp; omega
              have T46 := Lib.hid h46
              clear hr2 hg hl hd2 h46
              go_wp2_with (first
                | (go_at_call 85; (with_reducible refine (L.out _).mono ?_); rintro e w' ⟨rfl, rfl⟩)
                | (go_at_call 86; (with_reducible refine (D.out _).mono ?_); rintro e w' ⟨rfl, rfl⟩))
              go_round
              case rel => exact ⟨j + 1, by omega, by omega, by go_num, Lib.hid (by have := HD.out; omega)⟩
              case measure => simp [intOf]; omega
            · by_cases h45 : d.toNat = 45
              · have hg : goes 1 d = true := by simp [goes, hl, hd2, h45]
                rw [hg, if_pos rfl] at hr2
                have HD := Lib.hid hr2
                rw [hl] at L
                rw [hd2] at D
                have t46 : ((d.toNat : Int) == 46) = false := by simp; omega
                have t45 : ((d.toNat : Int) == 45) = true := by simp; omega
                have T45 := Lib.hid h45
                clear hr2 hg hl hd2 h46 h45
                go_wp2_with (first
                  | (go_at_call 85; (with_reducible refine (L.out _).mono ?_); rintro e w' ⟨rfl, rfl⟩)
                  | (go_at_call 86; (with_reducible refine (D.out _).mono ?_); rintro e w' ⟨rfl, rfl⟩))
                go_round
                case rel => exact ⟨j + 1, by omega, by omega, by go_num, Lib.hid (by have := HD.out; omega)⟩
                case measure => simp [intOf]; omega
              · have hg : goes 1 d = false := by simp [goes, hl, hd2, h45, h46]
                rw [hg, if_neg (by simp)] at hr2
                have HD := Lib.hid hr2
                rw [hl] at L
                rw [hd2] at D
                have t46 : ((d.toNat : Int) == 46) = false := by simp; omega
                have t45 : ((d.toNat : Int) == 45) = false := by simp; omega
                clear hr2 hg hl hd2 h46 h45
                have hx : s.extract i j = bs x.t := by rw [extract_tok s i j hi hj1, C.out, HX.out.2.2.1]; congr 3; have := HD.out; omega
                have hsl := fun w => slice_run s i j (by omega) hj2 w
                rw [hx] at hsl
                have c1 := T5.c1
                have c2 := T5.c2
                have c3 := T5.c3
                have f5 := T5.frozen
                have g4 := T4.frozen
                have q0 := T4.c0
                have q1 := T4.c1
                have q2 := T4.c2
                have q3 := T4.c3
                have c0 := T5.c0
                clear HD
                go_wp2_with (first
                  | (go_at_call 85; (with_reducible refine (L.out _).mono ?_); rintro e w' ⟨rfl, rfl⟩)
                  | (go_at_call 86; (with_reducible refine (D.out _).mono ?_); rintro e w' ⟨rfl, rfl⟩))
                have R := (T4.other ⟨w.heap.size + 1, 2, none⟩ (.string (bs x.t)) (by simp)).whole (y := ⟨1, i, x.t, 0⟩)
                exact bodyPost_ret (v := tkV ⟨1, i, x.t, 0⟩) (results_tok rfl _ _ _ _ rfl R) rfl ⟨congrArg Ending.returned (tk_eq HX.out.1 HX.out.2.1 HX.out.2.2.2), below_whole (B2.setCell (p := ⟨w.heap.size + 1, 2, none⟩) (Nat.le_succ _) _) (Nat.le_refl _) _ _ _ _⟩
          · have hg : goes 1 d = true := by simp [goes, hl, hd2]
            rw [hg, if_pos rfl] at hr2
            have HD := Lib.hid hr2
            rw [hl] at L
            rw [hd2] at D
            clear hr2 hg hl hd2
            go_wp2_with (first
              | (go_at_call 85; (with_reducible refine (L.out _).mono ?_); rintro e w' ⟨rfl, rfl⟩)
              | (go_at_call 86; (with_reducible refine (D.out _).mono ?_); rintro e w' ⟨rfl, rfl⟩))
            go_round
            case rel => exact ⟨j + 1, by omega, by omega, by go_num, Lib.hid (by have := HD.out; omega)⟩
            case measure => simp [intOf]; omega
        · have hg : goes 1 d = true := by simp [goes, hl]
          rw [hg, if_pos rfl] at hr2
          have HD := Lib.hid hr2
          rw [hl] at L
          clear hr2 hg hl
          go_wp2_with (first
            | (go_at_call 85; (with_reducible refine (L.out _).mono ?_); rintro e w' ⟨rfl, rfl⟩)
            | (go_at_call 86; (with_reducible refine (D.out _).mono ?_); rintro e w' ⟨rfl, rfl⟩))
          go_round
          case rel => exact ⟨j + 1, by omega, by omega, by go_num, Lib.hid (by have := HD.out; omega)⟩
          case measure => simp [intOf]; omega
      · have HD : Hid (runLen 1 (s.data.toList.drop (i + 1)) = j - (i + 1) + 0) := by
          have hr2 := hr.out
          rw [show s.data.toList.drop j = [] from List.drop_of_length_le (by rw [← Lib.size_eq]; omega)] at hr2
          exact Lib.hid hr2
        have hdk : decide ((j : Int) < (s.size : Int)) = false := decide_eq_false (by omega)
        clear hr
        have hx : s.extract i j = bs x.t := by rw [extract_tok s i j hi hj1, C.out, HX.out.2.2.1]; congr 3; have := HD.out; omega
        have hsl := fun w => slice_run s i j (by omega) hj2 w
        rw [hx] at hsl
        have c1 := T5.c1
        have c2 := T5.c2
        have c3 := T5.c3
        have f5 := T5.frozen
        have g4 := T4.frozen
        have q0 := T4.c0
        have q1 := T4.c1
        have q2 := T4.c2
        have q3 := T4.c3
        have c0 := T5.c0
        clear HD
        go_wp2
        have R := (T4.other ⟨w.heap.size + 1, 2, none⟩ (.string (bs x.t)) (by simp)).whole (y := ⟨1, i, x.t, 0⟩)
        exact bodyPost_ret (v := tkV ⟨1, i, x.t, 0⟩) (results_tok rfl _ _ _ _ rfl R) rfl ⟨congrArg Ending.returned (tk_eq HX.out.1 HX.out.2.1 HX.out.2.2.2), below_whole (B2.setCell (p := ⟨w.heap.size + 1, 2, none⟩) (Nat.le_succ _) _) (Nat.le_refl _) _ _ _ _⟩
end Go.Proofs.Ytnplbmbbocffbaa
/- Word's contract. -/
namespace Go.Proofs.Ytnplbmbbocffbaa
open Go.RowKit Go.Shelf
set_option linter.unusedVariables false
attribute [local go_sem] Oper.semAt_some

/-- Is the text one word? -/
def wordB (s : ByteArray) : Bool := match tokL s with
  | [] => false
  | x :: _ => decide (x.k = 1) && decide (x.t.length = s.size)

end Go.Proofs.Ytnplbmbbocffbaa
