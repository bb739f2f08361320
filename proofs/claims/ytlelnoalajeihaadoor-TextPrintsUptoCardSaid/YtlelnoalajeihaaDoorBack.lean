/- What is printed is read back: plain facts. -/
import Derived.Test.YtlelnoalajeihaaDoorFre
import Derived.Test.YtlelnoalajeihaaDoorRPrint
namespace Go.Proofs.YtlelnoalajeihaaDoor
open Go.RowKit
set_option linter.unusedVariables false

/-- A task that is read back: its name is a word, its numbers are those that a text can tell. -/
structure Tidy (x : Ts) : Prop where
  name : ∃ c r, x.n.data.toList = c :: r ∧ kind c = 1 ∧ runLen 1 r = r.length
  few : ∀ k, k < 6 → 0 ≤ numI x k ∧ numI x k ≤ 1099511627776
def allK : List Nat := [0, 1, 2, 3, 4, 5]
def lineL (x : Ts) : List UInt8 := [116, 97, 115, 107, 32] ++ (x.n.data.toList ++ (body (numF x) [] allK ++ [10]))
def printL (l : List Ts) : List UInt8 := l.flatMap lineL
theorem bs_data (b : ByteArray) : bs b.data.toList = b := by
  apply ByteArray.ext
  simp [bs]
theorem dgs_back {x : Ts} (h : Tidy x) {k : Nat} (hk : k < 6) : dgs (numI x k) = bs (Lib.decDigits (numF x k)) := by
  have := (h.few k hk).1
  rw [dgs, Lib.itoa, if_neg (by omega)]
  rfl
theorem line_is {x : Ts} (h : Tidy x) : lineS x = bs (lineL x) := by
  have e0 := dgs_back h (k := 0) (by omega)
  have e1 := dgs_back h (k := 1) (by omega)
  have e2 := dgs_back h (k := 2) (by omega)
  have e3 := dgs_back h (k := 3) (by omega)
  have e4 := dgs_back h (k := 4) (by omega)
  have e5 := dgs_back h (k := 5) (by omega)
  simp only [numI] at e0 e1 e2 e3 e4 e5
  obtain ⟨nl, hnl⟩ : ∃ nl, x.n.data.toList = nl := ⟨_, rfl⟩
  have en : bs nl = x.n := by rw [← hnl]; exact bs_data x.n
  unfold lineS lineB lineL
  rw [hnl, e0, e1, e2, e3, e4, e5, ← en]
  rw [show ({ data := #[116, 97, 115, 107, 32] } : ByteArray) = bs [116, 97, 115, 107, 32] from rfl, show ({ data := #[32, 99, 61] } : ByteArray) = bs [32, 99, 61] from rfl, show ({ data := #[32, 116, 61] } : ByteArray) = bs [32, 116, 61] from rfl, show ({ data := #[32, 100, 61] } : ByteArray) = bs [32, 100, 61] from rfl, show ({ data := #[32, 106, 61] } : ByteArray) = bs [32, 106, 61] from rfl, show ({ data := #[32, 113, 61] } : ByteArray) = bs [32, 113, 61] from rfl, show ({ data := #[32, 112, 61] } : ByteArray) = bs [32, 112, 61] from rfl, show chr 10 = bs [10] from rfl]
  simp only [bs_app]
  unfold body seg allK wordAt
  simp
theorem print_is : ∀ {l : List Ts}, (∀ x ∈ l, Tidy x) → printS l = bs (printL l) := by
  intro l h
  have key : ∀ (l : List Ts) (s : ByteArray) (X : List UInt8), (∀ x ∈ l, Tidy x) → s = bs X → l.foldl (fun s x => s ++ lineS x) s = bs (X ++ printL l) := by
    intro l
    induction l with
    | nil => intro s X _ e; simp [printL, e]
    | cons x l ih =>
      intro s X h e
      rw [List.foldl_cons, ih _ (X ++ lineL x) (fun y hy => h y (by simp [hy])) (by rw [e, line_is (h x (by simp)), bs_app])]
      simp [printL]
  exact key l _ [] h rfl
theorem all_back {x : Ts} (h : Tidy x) {c : UInt8} {r : List UInt8} (hn : x.n.data.toList = c :: r) : taskOf (c :: r) (fun i => if i ∈ allK then some (numF x i) else none) = x := by
  have f : ∀ k, k < 6 → ((numF x k : Nat) : Int) = numI x k := fun k hk => by
    have := (h.few k hk).1
    unfold numF
    omega
  have f0 := f 0 (by omega)
  have f1 := f 1 (by omega)
  have f2 := f 2 (by omega)
  have f3 := f 3 (by omega)
  have f4 := f 4 (by omega)
  have f5 := f 5 (by omega)
  have hb := bs_data x.n
  rw [hn] at hb
  unfold taskOf fv
  simp only [allK, List.mem_cons, List.not_mem_nil, or_false]
  simp [f0, f1, f2, f3, f4, f5, hb, numI]
theorem print_pcs : ∀ (l : List Ts), (∀ x ∈ l, Tidy x) → ∀ (a : Nat) (rest : List UInt8), ∃ T b, pcs a (printL l ++ rest) = T ++ pcs b rest ∧ (∀ y ∈ T, y.k ≠ 0) ∧ ∀ Z, tasksS (T ++ Z) = (l ++ (tasksS Z).1, (tasksS Z).2)
  | [], _, a, rest => ⟨[], a, rfl, by simp, fun Z => rfl⟩
  | x :: l, h, a, rest => by
    have hx := h x (by simp)
    obtain ⟨c, r, hn, hk, hr⟩ := hx.name
    obtain ⟨x', y', T, b, e1, x1, x2, y1, y2, hT, e3⟩ := line_pcs (k := 0) (K := [1, 2, 3, 4, 5]) (num := numF x) hk hr gap_nil (by decide) (fun i hi => by
      have hi6 : i < 6 := by simp at hi; omega
      have := hx.few i hi6
      exact ⟨hi6, by unfold numF; omega⟩) a (10 :: (printL l ++ rest)) (Stop.cons _ (by decide))
    obtain ⟨T2, b2, g1, g2, g3⟩ := print_pcs l (fun y hy => h y (by simp [hy])) (b + 1) rest
    have hb := all_back hx hn
    refine ⟨x' :: y' :: (T ++ ⟨4, b, [10], 0⟩ :: T2), b2, ?_, ?_, fun Z => ?_⟩
    · have e : printL (x :: l) ++ rest = [116, 97, 115, 107, 32] ++ ((c :: r) ++ (body (numF x) [] [0, 1, 2, 3, 4, 5] ++ 10 :: (printL l ++ rest))) := by
        simp [printL, lineL, hn, allK]
      rw [e, e1, pcs_line, g1]
      simp
    · intro w hw
      simp only [List.mem_cons, List.mem_append] at hw
      rcases hw with rfl | rfl | hw | rfl | hw
      · omega
      · omega
      · exact hT w hw
      · show 4 ≠ 0; decide
      · exact g2 w hw
    · have hfull : full (fun i => if i ∈ [0, 1, 2, 3, 4, 5] then some (numF x i) else none) = true := by simp [full]
      have hf : fieldsS (T ++ (⟨4, b, [10], 0⟩ :: (T2 ++ Z))) fnone = (true, (fun i => if i ∈ [0, 1, 2, 3, 4, 5] then some (numF x i) else none), T2 ++ Z) := by
        rw [e3, fieldsS_end rfl hfull]
      have ht := tasksS_ok (x := x') (y := y') (by omega) x2 y1 hf
      rw [y2, show taskOf (c :: r) (fun i => if i ∈ [0, 1, 2, 3, 4, 5] then some (numF x i) else none) = x from hb, g3] at ht
      rw [List.cons_append, List.cons_append, List.append_assoc, List.cons_append]
      exact ht
/-- What is printed is read back. -/
theorem print_read {l : List Ts} (h : ∀ x ∈ l, Tidy x) {s : ByteArray} (hs : s = printS l) : readS s = (l, s.size, 0) := by
  obtain ⟨T, b, e1, e2, e3⟩ := print_pcs l h 0 []
  rw [List.append_nil, pcs_nil, List.append_nil] at e1
  have hp : pieceL s = T := by rw [pieceL, hs, print_is h, bs_toList, e1]
  have hbad : badP s = none := badP_none (fun z hz => e2 z (by rw [← hp]; exact hz))
  have ha : allS s = (l, []) := by
    rw [allS, lexT_none hbad, hp, e3, tasksS_line rfl, tasksS_nil, List.append_nil]
  rw [readS_ok hbad ha]
theorem print_join {l m : List Ts} (hl : ∀ x ∈ l, Tidy x) (hm : ∀ x ∈ m, Tidy x) : printS l ++ printS m = printS (l ++ m) := by
  rw [print_is hl, print_is hm, print_is (fun x hx => by rcases List.mem_append.1 hx with h | h; exact hl x h; exact hm x h), bs_app]
  simp [printL]
end Go.Proofs.YtlelnoalajeihaaDoor
