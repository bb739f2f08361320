/- The document's own Row and Next. -/
import Derived.Test.YthmngibmpkgjkaaDoorRef
import Derived.Test.YthmngibmpkgjkaaDoorLawBelow
namespace Go.Proofs.YthmngibmpkgjkaaDoor
open Go.RowKit
set_option linter.unusedVariables false
set_option linter.unusedSimpArgs false

def iList (l : List Nat) : List Int := l.map fun (n : Nat) => (n : Int)
theorem iList_length (l : List Nat) : (iList l).length = l.length := by simp [iList]
theorem numsIn_succ (g : Nat → Bool) (k : Nat) : numsIn g 0 (k + 1) = numsIn g 0 k ++ (if g k then [k] else []) := by
  rw [numsIn_append, Nat.zero_add]
  congr 1
  by_cases h : g k = true <;> simp [numsIn, h]
theorem numsIn_le (g : Nat → Bool) (k : Nat) : (numsIn g 0 k).length ≤ k := by
  have := List.length_filter_le g (List.range' 0 k)
  rw [List.length_range'] at this
  exact this
theorem one_new (w : World) (x : Int) : ∀ j u, [Value.int .i64 x][j]? = some u → (w.alloc (.cells #[.int .i64 x] 3)).cell? ((⟨w.heap.size, 0, none⟩ : Addr).add j) = some u := by
  intro j u hj
  match j, hj with
  | 0, hj => simp at hj; subst hj; simp [Addr.add]

set_option maxRecDepth 100000 in
set_option maxHeartbeats 2000000 in
theorem rRow_any (r : Nat) (g : Nat → Bool) (w : World) (h : RBox w r g) :
    Calls Tryd.prog 26 #[.pointer (some ⟨r, 0, none⟩)] w fun e w' => ∃ v, e = .returned v ∧ Nums w' v (iList (nums g)) ∧ Below w.heap.size w w' := by
  have HR := Lib.hid h
  have hr := h.lt
  clear h
  go_enter Tryd.func26, Tryd.ntmps26
  go_wp2
  go_loopw [3, 4] (fun out i wr => ∃ (k : Nat) (v : Value), out = v ∧ k ≤ 1024 ∧ i = .int .i64 k ∧ wr.ownsRow w.heap.size 3 1 v (numsIn g 0 k).length (cellsI (iList (numsIn g 0 k))) ∧ Below w.heap.size w wr) (fun _ i _ => 1024 - (intOf i).toNat)
  case atStart => exact ⟨0, _, rfl, Nat.zero_le _, rfl, (by show w.ownsRow w.heap.size 3 1 (.slice none 0 0) 0 []; exact World.ownsRow_nil _ _ _ _), Below.refl _ _⟩
  case round =>
    obtain ⟨k, v, rfl, hk, rfl, hown, hb⟩ := hrel
    by_cases hlt : k < 1024
    · have hcell := (HR.out.below hb hr).cell k hlt
      have hdk : decide ((k : Int) < 1024) = true := decide_eq_true (by omega)
      have hi0 : (0 : Int) ≤ (k : Int) := by omega
      have hi1 : (k : Int) < 1024 := by omega
      have HS := Lib.hid (numsIn_succ g k)
      have hle := numsIn_le g k
      have HO := Lib.hid hown
      clear hown
      generalize hgk : g k = b at *
      cases b with
      | false =>
        go_wp2
        go_roundw
        case rel => exact ⟨k + 1, _, rfl, by omega, by go_num, by rw [HS.out]; simpa using HO.out, hb⟩
        case measure => simp [intOf]; omega
      | true =>
        generalize hns : numsIn g 0 k = ns at *
        go_wp2_with ((with_reducible show wpList _ _ _ (⟨some 18, _, _, _, _, _⟩ :: _) _ _); refine wpList_step fun K hK => step_append_own rfl (.tmp 15) (.tmp 17) rfl w.heap.size _ ns.length (cellsI (iList ns)) rfl (HO.out.alloc _) _ 1 1 [.int .i64 (k : Int)] rfl rfl (one_new _ _) (by simp [Value.oneCell']) (by omega) (by have := hb.size; simp; omega) ?_; intro v' w' o1 g1; refine hK _ _ ?_)
        have hb2 : Below w.heap.size w w' := hb.trans (((Below.refl _ _).alloc hb.size _).trans ((Below.refl _ _).grown g1 (by have := hb.size; simp; omega) fun k hk => (HO.out.lt k hk).1))
        have o2 : w'.ownsRow w.heap.size 3 1 v' (numsIn g 0 (k + 1)).length (cellsI (iList (numsIn g 0 (k + 1)))) := by
          rw [HS.out]
          simpa [cellsI, iList] using o1
        have O2 := Lib.hid o2
        clear g1 o1 o2 HO
        go_wp2
        go_roundw
        case rel => exact ⟨k + 1, _, rfl, by omega, by go_num, O2.out, hb2⟩
        case measure => simp [intOf]; omega
    · obtain rfl : k = 1024 := by omega
      have hn : Nums wr _ (iList (nums g)) := own_nums (by rw [iList_length]; exact hown)
      have HN := Lib.hid hn
      clear hn hown
      go_wp2
      go_ret
      exact ⟨_, rfl, HN.out, hb⟩

/-- What Next tells: below 0, where there is none. -/
def nx : List Nat → Int
  | [] => -1
  | x :: _ => (x : Int)
theorem nx_here (l : List Nat) (n : Int) (j : Nat) (hj : j < l.length) (h0 : (l.take j).filter (fun x : Nat => decide (n < (x : Int))) = []) (h : n < ((l.getD j 0 : Nat) : Int)) : nx (l.filter (fun x : Nat => decide (n < (x : Int)))) = ((l.getD j 0 : Nat) : Int) := by
  have e : l = l.take j ++ l.getD j 0 :: l.drop (j + 1) := by
    simp [List.getD_eq_getElem?_getD, hj]
  generalize l.getD j 0 = x at *
  rw [e, List.filter_append, h0, List.filter_cons, if_pos (by simpa using h)]
  rfl
theorem nx_step (l : List Nat) (n : Int) (j : Nat) (hj : j < l.length) (h0 : (l.take j).filter (fun x : Nat => decide (n < (x : Int))) = []) (h : ¬ n < ((l.getD j 0 : Nat) : Int)) : (l.take (j + 1)).filter (fun x : Nat => decide (n < (x : Int))) = [] := by
  rw [List.take_succ_eq_append_getElem hj, List.filter_append, h0]
  have : l[j] = l.getD j 0 := by simp [List.getD_eq_getElem?_getD, hj]
  rw [this]
  simpa using h

set_option maxRecDepth 100000 in
set_option maxHeartbeats 2000000 in
theorem rNext_any (r : Nat) (n : Int) (g : Nat → Bool) (w : World) (h : RBox w r g) :
    Calls Tryd.prog 28 #[.pointer (some ⟨r, 0, none⟩), .int .i64 n] w fun e w' => e = .returned (.int .i64 (nx ((nums g).filter (fun x : Nat => decide (n < (x : Int)))))) ∧ Below w.heap.size w w' := by
  have R := Lib.hid (rRow_any r g w h)
  have hm : (nums g).length ≤ 1024 := numsIn_le g 1024
  clear h
  generalize nums g = l at *
  go_enter Tryd.func28, Tryd.ntmps28
  go_upto_region 2 with (go_at_call 26; refine R.out.mono ?_; rintro e w1 ⟨v, rfl, hn, hb⟩)
  rcases hn with ⟨rfl, hl⟩ | ⟨x, cap, rfl, hle, hmax, hc⟩
  · have hl0 : l = [] := by simpa [iList] using hl
    subst hl0
    go_wp2
    refine wp_loop_rounds 1 ?_
    rw [rounds_succ]
    go_wp2
    go_ret
    exact ⟨rfl, hb⟩
  · rw [iList_length] at hle hc ⊢
    unfold maxLen at hmax
    have HC := Lib.hid hc
    clear hc
    generalize hll : l.length = len at *
    have HL := Lib.hid hll
    go_wp2
    go_loopw [6] (fun i wr => ∃ j : Nat, j ≤ len ∧ i = .int .i64 j ∧ (l.take j).filter (fun x : Nat => decide (n < (x : Int))) = [] ∧ wr = w1) (fun i _ => len - (intOf i).toNat)
    case atStart => exact ⟨0, Nat.zero_le _, rfl, rfl, rfl⟩
    case round =>
      obtain ⟨j, hj, rfl, h0, rfl⟩ := hrel
      have H0 := Lib.hid h0
      clear h0
      by_cases hlt : j < len
      · have hjl : j < l.length := by rw [HL.out]; exact hlt
        have hcell : wr.cell? (x.add j) = some (.int .i64 ((l.getD j 0 : Nat) : Int)) := by
          rw [HC.out j hlt]
          simp [iList, List.getD_eq_getElem?_getD, hjl]
        have hi0 : (0 : Int) ≤ (j : Int) := by omega
        have hi1 : (j : Int) < (len : Int) := by omega
        have hd : decide ((j : Int) < (len : Int)) = true := decide_eq_true hi1
        by_cases hx : n < ((l.getD j 0 : Nat) : Int)
        · have E := Lib.hid (nx_here l n j hjl H0.out hx)
          clear H0
          generalize ((l.getD j 0 : Nat) : Int) = z at *
          go_wp2
          go_ret
          exact ⟨by rw [E.out]; rfl, hb⟩
        · have E := Lib.hid (nx_step l n j hjl H0.out hx)
          clear H0
          generalize ((l.getD j 0 : Nat) : Int) = z at *
          go_wp2
          go_roundw
          case rel => exact ⟨j + 1, by omega, by go_num, E.out, trivial⟩
          case measure => simp [intOf]; omega
      · obtain rfl : j = len := by omega
        have e : l.filter (fun x : Nat => decide (n < (x : Int))) = [] := by
          have := H0.out
          rwa [List.take_of_length_le (by rw [HL.out]; omega)] at this
        have E := Lib.hid e
        clear H0 e
        go_wp2
        go_ret
        exact ⟨by rw [E.out]; rfl, hb⟩

/-! ### Words -/
/-- What stands in the words when k numbers have been looked at. -/
def uptoF (g : Nat → Bool) (k : Nat) : Nat → Bool := fun j => g j && decide (j < k)
theorem upto_succ (g : Nat → Bool) (k : Nat) (h : g k = true) : uptoF g (k + 1) = ins (uptoF g k) (k : Int) := by
  funext j
  by_cases e : j = k
  · subst e; simp [uptoF, ins, h]
  · have e1 : ¬ ((j : Int) = (k : Int)) := by omega
    have e2 : decide (j < k + 1) = decide (j < k) := by
      by_cases hj : j < k
      · simp [hj]; omega
      · simp [hj]; omega
    simp [uptoF, ins, e1, e2]
theorem upto_same (g : Nat → Bool) (k : Nat) (h : g k = false) : uptoF g (k + 1) = uptoF g k := by
  funext j
  by_cases e : j = k
  · subst e; simp [uptoF, h]
  · have e2 : decide (j < k + 1) = decide (j < k) := by
      by_cases hj : j < k
      · simp [hj]; omega
      · simp [hj]; omega
    simp [uptoF, e2]
theorem upto_0 (g : Nat → Bool) : uptoF g 0 = noneF := by funext j; simp [uptoF, noneF]
theorem upto_all (g : Nat → Bool) : cellsL (uptoF g 1024) = cellsL g := by
  refine List.ext_getElem? fun i => ?_
  by_cases hi : i < 16
  · rw [cellsL_get _ _ hi, cellsL_get _ _ hi]
    rw [word_ext (f := uptoF g 1024) (g := g) (i := i) (fun j hj => by
      have : 64 * i + j < 1024 := by omega
      simp [uptoF, this])]
  · rw [List.getElem?_eq_none (by simp [cellsL_length]; omega), List.getElem?_eq_none (by simp [cellsL_length]; omega)]

/-- Block b holds the words of f, as a plain array. -/
structure ABox (w : World) (b : Nat) (f : Nat → Bool) : Prop where
  is : w.heap[b]? = some (.cells (cellsL f).toArray 25 (0, 0))
theorem ABox.lt {w : World} {b : Nat} {f : Nat → Bool} (h : ABox w b f) : b < w.heap.size := (Array.getElem?_eq_some_iff.1 h.is).1
theorem ABox.range {w : World} {b : Nat} {f : Nat → Bool} (h : ABox w b f) : w.rangeAt b 0 (cellsL f) := fun j v hv => by
  rw [Nat.zero_add, cell_of_row w b j _ _ _ h.is]; simpa using hv
theorem ABox.there {w : World} {b : Nat} {f : Nat → Bool} (h : ABox w b f) (g : Nat → Bool) : w.there b 0 (cellsL g).toArray.size := fun j hj => by
  rw [Nat.zero_add, cell_of_row w b j _ _ _ h.is, frozen_of_row w b j _ _ h.is]
  simp [cellsL_length] at hj ⊢; omega
theorem ABox.cell {w : World} {b : Nat} {f : Nat → Bool} (h : ABox w b f) (i : Nat) (hi : i < 16) : w.cell? ⟨b, i, none⟩ = some (.int .u64 (word f i : Int)) := by
  rw [cell_of_row w b i _ _ _ h.is]; simpa using cellsL_get f i hi
theorem ABox.frozen {w : World} {b : Nat} {f : Nat → Bool} (h : ABox w b f) (i : Nat) : w.frozen? ⟨b, i, none⟩ = false := frozen_of_row w b i _ _ h.is
theorem ABox.setCell {w : World} {b : Nat} {f : Nat → Bool} (h : ABox w b f) (a : Addr) (v : Value) (hb : b ≠ a.block) : ABox (w.setCell a v) b f := ⟨(heap_setCell_other w a b v hb).trans h.is⟩
theorem ABox.set {w : World} {b : Nat} {f g : Nat → Bool} (h : ABox w b f) (i : Nat) (v : Nat) (hv : v = word g i) (hg : ∀ j, j < 16 → j ≠ i → word f j = word g j) : ABox (w.setCell ⟨b, i, none⟩ (.int .u64 v)) b g := by
  refine ⟨?_⟩
  rw [heap_setCell_same w b i _ _ _ h.is]
  simp only [List.setIfInBounds_toArray]
  rw [cellsL_set f g i v hv hg]
theorem ABox.of_eq {w : World} {b : Nat} {f g : Nat → Bool} (h : ABox w b f) (e : cellsL f = cellsL g) : ABox w b g := ⟨by rw [← e]; exact h.is⟩
theorem info25 (f : Nat → Bool) : (Tryd.prog.info? 25).map (·.size) = some (cellsL f).length := by rw [cellsL_length]; kernel_rfl
theorem info25' (f : Nat → Bool) : (Tryd.prog.info? 25).map (·.size) = some (cellsL f).toArray.size := by rw [List.size_toArray]; exact info25 f
theorem ABox.stored {w : World} {b : Nat} {f : Nat → Bool} (h : ABox w b f) (g : Nat → Bool) : w.setCells b 0 (cellsL g) = w.setRow b (cellsL g).toArray := by
  have h1 := run_storeVar_mid (P := Tryd.prog) w b 0 25 (cellsL g).toArray (h.there g) (info25' g) (cellsL_all g)
  have h2 := run_storeVar_row (P := Tryd.prog) w b 25 25 (cellsL f).toArray (cellsL g).toArray h.is (info25' g) (by simp [cellsL_length]) (cellsL_all g)
  rw [h1] at h2
  simpa using h2
theorem ABox.setCells {w : World} {b : Nat} {f : Nat → Bool} (h : ABox w b f) (g : Nat → Bool) : ABox (w.setCells b 0 (cellsL g)) b g := by
  rw [h.stored g]; exact ⟨setRow_heap w b _ _ _ _ h.is⟩
theorem abelow_setCells {B : Nat} {a w : World} {b : Nat} {f : Nat → Bool} (hb : Below B a w) (h : ABox w b f) (g : Nat → Bool) (hB : B ≤ b) : Below B a (w.setCells b 0 (cellsL g)) := by
  rw [h.stored g]
  exact hb.trans ⟨rfl, rfl, rfl, by simp, fun k hk => setRow_other w b k _ (by omega)⟩
theorem results_abox {fn : Func} {p : Tmp} (h : fn.results = #[.cell p 25]) (tmps : Array Value) (w : World) (b : Nat) (f : Nat → Bool) (hp : tmps.getD p undef = .pointer (some ⟨b, 0, none⟩)) (hb : ABox w b f) :
    (results fn tmps).run Tryd.prog w = .ok (setV f) w :=
  results_cell_row h tmps w b _ _ _ _ hp hb.is Tryd.underlying25 rfl (info25' f)
theorem shl1u (c : Nat) (h : c < 64) : Op.shift .shl .u64 1 .u64 (c : Int) = pure (.int .u64 ((2 ^ c : Nat) : Int)) := by
  rw [shift_shl .u64 .u64 1 (c : Int) (by omega) (by simp [IntKind.bits]; omega)]
  have hp : 2 ^ c < 2 ^ 64 := Nat.pow_lt_pow_right (by omega) h
  have e : (1 : Int) * 2 ^ (c : Int).toNat = ((2 ^ c : Nat) : Int) := by simp
  rw [e, IntKind.wrap_u64]
  generalize 2 ^ c = p at *
  have e2 : (p : Int) % 18446744073709551616 = (p : Int) := by omega
  rw [e2]
theorem words_entry (w : World) : ∃ W, (w.alloc (.cells #[.int .u64 0, .int .u64 0, .int .u64 0, .int .u64 0, .int .u64 0, .int .u64 0, .int .u64 0, .int .u64 0, .int .u64 0, .int .u64 0, .int .u64 0, .int .u64 0, .int .u64 0, .int .u64 0, .int .u64 0, .int .u64 0] 25)).alloc (.cells #[.int .u64 0, .int .u64 0, .int .u64 0, .int .u64 0, .int .u64 0, .int .u64 0, .int .u64 0, .int .u64 0, .int .u64 0, .int .u64 0, .int .u64 0, .int .u64 0, .int .u64 0, .int .u64 0, .int .u64 0, .int .u64 0] 25) = W ∧ ABox W w.heap.size noneF ∧ ABox W (w.heap.size + 1) noneF ∧ Below w.heap.size w W := by
  rw [← cellsL_none]
  refine ⟨_, rfl, ⟨(Below.heap_alloc _ _ w.heap.size (by simp)).trans (heap_alloc_new w _)⟩, ⟨?_⟩, ((Below.refl _ _).alloc (Nat.le_refl _) _).alloc (by simp) _⟩
  have := heap_alloc_new (w.alloc (.cells (cellsL noneF).toArray 25)) (.cells (cellsL noneF).toArray 25)
  rwa [World.size_alloc] at this

set_option maxRecDepth 100000 in
set_option maxHeartbeats 2000000 in
theorem rWords_any (r : Nat) (g : Nat → Bool) (w : World) (h : RBox w r g) :
    Calls Tryd.prog 27 #[.pointer (some ⟨r, 0, none⟩)] w fun e w' => e = .returned (setV g) ∧ Below w.heap.size w w' := by
  have HR := Lib.hid h
  have hr := h.lt
  clear h
  go_enter Tryd.func27, Tryd.ntmps27
  go_upto_region 2 with fail
  obtain ⟨W, hW, b1, b2, hb⟩ := words_entry w
  rw [hW]
  clear hW
  go_wp2
  go_loopw [4] (fun i wr => ∃ k : Nat, k ≤ 1024 ∧ i = .int .i64 k ∧ ABox wr (w.heap.size + 1) (uptoF g k) ∧ ABox wr w.heap.size noneF ∧ Below w.heap.size w wr) (fun i _ => 1024 - (intOf i).toNat)
  case atStart => exact ⟨0, Nat.zero_le _, rfl, by rw [upto_0]; exact b2, b1, hb⟩
  case round =>
    clear b1 b2 hb
    obtain ⟨k, hk, rfl, c1, c3, hb1⟩ := hrel
    by_cases hlt : k < 1024
    · have hcell := (HR.out.below hb1 hr).cell k hlt
      have hdk : decide ((k : Int) < 1024) = true := decide_eq_true (by omega)
      have hi0 : (0 : Int) ≤ (k : Int) := by omega
      have hi1 : (k : Int) < 1024 := by omega
      generalize hgk : g k = b at *
      cases b with
      | false =>
        have HS := Lib.hid (upto_same g k hgk)
        go_wp2
        go_roundw
        case rel => exact ⟨k + 1, by omega, by go_num, by rw [HS.out]; exact c1, c3, hb1⟩
        case measure => simp [intOf]; omega
      | true =>
        have HS := Lib.hid (upto_succ g k hgk)
        have d1 := c1.cell (k / 64) (by omega)
        have d2 := c1.frozen (k / 64)
        have a1 : (k : Int).tdiv 64 = ((k / 64 : Nat) : Int) := by rw [Int.tdiv_eq_ediv_of_nonneg hi0]; omega
        have a2 : (k : Int).tmod 64 = ((k % 64 : Nat) : Int) := by rw [Int.tmod_eq_emod_of_nonneg hi0]; omega
        have a3 := shl1u (k % 64) (by omega)
        have a5 : IntKind.u64.wrap ((k % 64 : Nat) : Int) = ((k % 64 : Nat) : Int) := by rw [IntKind.wrap_u64]; omega
        have hq : k / 64 < 16 := by omega
        have hx := word_le (uptoF g k) (k / 64)
        have hp : 2 ^ (k % 64) < 18446744073709551616 := Nat.pow_lt_pow_right (a := 2) (n := 64) (by omega) (by omega)
        have a4 := u64_or_nat (word (uptoF g k) (k / 64)) (2 ^ (k % 64)) (by omega) hp
        have E0 := Lib.hid (word_ins (uptoF g k) k)
        have E1 := Lib.hid (fun j (hne : j ≠ k / 64) => (word_ins_other (uptoF g k) k j hne).symm)
        generalize word (uptoF g k) (k / 64) = x at *
        generalize 2 ^ (k % 64) = p at *
        generalize hQ : k / 64 = q at *
        generalize k % 64 = c at *
        generalize x ||| p = v at *
        have hq0 : (0 : Int) ≤ (q : Int) := by omega
        have hq1 : (q : Int) < 16 := by omega
        clear hQ
        go_wp2
        go_roundw
        case rel => exact ⟨k + 1, by omega, by go_num, by rw [HS.out]; exact c1.set q v E0.out (fun j hj hne => E1.out j hne), c3.setCell _ _ (by simp), hb1.setCell (p := ⟨w.heap.size + 1, q, none⟩) (Nat.le_succ _) _⟩
        case measure => simp [intOf]; omega
    · obtain rfl : k = 1024 := by omega
      have c4 := c1.of_eq (upto_all g)
      clear c1
      go_wp2_with (first
          | ((with_reducible show wpList _ _ _ (⟨some 27, _, _, _, _, _⟩ :: _) _ _); refine wpList_load_mid rfl 25 _ rfl _ _ rfl _ _ c4.range Tryd.underlying25 rfl (info25 _) ?_)
          | ((with_reducible show wpList _ _ _ (⟨none, Op.store 25 _ _, _, _, _, _⟩ :: _) _ _); refine wpList_store_mid rfl 25 _ _ rfl _ _ (cellsL g).toArray rfl rfl (c3.there _) (info25' _) (cellsL_all _) ?_)
          | ((with_reducible show bodyPost _ _ _ _ _ _); exact bodyPost_ret (results_abox rfl _ _ _ _ rfl (c3.setCells _)) rfl ⟨rfl, abelow_setCells hb1 c3 _ (Nat.le_refl _)⟩))
end Go.Proofs.YthmngibmpkgjkaaDoor
