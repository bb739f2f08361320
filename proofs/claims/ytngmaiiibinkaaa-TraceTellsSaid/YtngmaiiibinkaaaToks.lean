/- Rows of tokens in memory; the law's own each. -/
import Derived.Test.YtngmaiiibinkaaaEach1
import Derived.Maps.AppendAt
import Derived.Laws.AppendOwn
namespace Go.Proofs.Ytngmaiiibinkaaa
open Go.RowKit Go.Shelf
set_option linter.unusedVariables false
attribute [local go_sem] Oper.semAt_some

/-- The cells of a row of tokens. -/
def tkCells (ts : List Tk) : List Value := ts.flatMap fun x => [.int .i64 (x.k : Int), .int .i64 (x.at' : Int), .string (bs x.t), .int .i64 (x.n : Int)]
theorem tkCells_snoc (ts : List Tk) (x : Tk) : tkCells (ts ++ [x]) = tkCells ts ++ [.int .i64 (x.k : Int), .int .i64 (x.at' : Int), .string (bs x.t), .int .i64 (x.n : Int)] := by simp [tkCells]
theorem tkCells_length (ts : List Tk) : (tkCells ts).length = 4 * ts.length := by
  induction ts with
  | nil => rfl
  | cons a r ih => simp only [tkCells, List.flatMap_cons, List.length_append, List.length_cons, List.length_nil] at *; omega
theorem tkCells_get (ts : List Tk) : ∀ (i : Nat) (x : Tk), ts[i]? = some x → (tkCells ts)[4 * i]? = some (.int .i64 (x.k : Int)) ∧ (tkCells ts)[4 * i + 1]? = some (.int .i64 (x.at' : Int)) ∧ (tkCells ts)[4 * i + 2]? = some (.string (bs x.t)) ∧ (tkCells ts)[4 * i + 3]? = some (.int .i64 (x.n : Int)) := by
  induction ts with
  | nil => intro i x h; simp at h
  | cons a r ih =>
    intro i x h
    cases i with
    | zero => simp at h; subst h; exact ⟨rfl, rfl, rfl, rfl⟩
    | succ i =>
      simp only [List.getElem?_cons_succ] at h
      have := ih i x h
      simp only [tkCells, List.flatMap_cons] at *
      rw [show 4 * (i + 1) = 4 * i + 4 by omega]
      simpa [List.getElem?_append_right, show 4 * i + 4 + 1 = 4 * i + 1 + 4 by omega, show 4 * i + 4 + 2 = 4 * i + 2 + 4 by omega, show 4 * i + 4 + 3 = 4 * i + 3 + 4 by omega] using this
theorem bs_inj {a b : List UInt8} (h : bs a = bs b) : a = b := by rw [← bs_toList a, h, bs_toList]
theorem tkC_inj {x y : Tk} (h : (tkC x).toList = (tkC y).toList) : x = y := by
  cases x
  cases y
  simp at h
  obtain ⟨h1, h2, h3, h4⟩ := h
  have h3 := bs_inj h3
  subst h3
  congr 1 <;> omega

theorem infoTok : (Try.prog.info? 89).map (fun i => (i.zero, i.size, i.bytes)) = some (some (.agg #[.int .i64 0, .int .i64 0, .string { data := #[] }, .int .i64 0]), 4, 40) := by kernel_rfl

/-- A slice that reads as these tokens. -/
def Toks (w : World) (v : Value) (ts : List Tk) : Prop :=
  (v = .slice none 0 0 ∧ ts = []) ∨ ∃ g cap, v = .slice (some ⟨g, 0, none⟩) ts.length cap ∧ ts.length ≤ cap ∧ cap ≤ maxLen ∧ g < w.heap.size ∧
    ∀ i x, ts[i]? = some x → w.cell? ⟨g, 4 * i, none⟩ = some (.int .i64 (x.k : Int)) ∧ w.cell? ⟨g, 4 * i + 1, none⟩ = some (.int .i64 (x.at' : Int)) ∧ w.cell? ⟨g, 4 * i + 2, none⟩ = some (.string (bs x.t)) ∧ w.cell? ⟨g, 4 * i + 3, none⟩ = some (.int .i64 (x.n : Int))
theorem Toks.below {w w' : World} {v : Value} {ts : List Tk} {B : Nat} (h : Toks w v ts) (hb : Below B w w') (hB : ∀ g, v.ownBlock = some g → g < B) : Toks w' v ts := by
  rcases h with ⟨rfl, rfl⟩ | ⟨g, cap, rfl, h1, h2, h3, h4⟩
  · exact .inl ⟨rfl, rfl⟩
  · have hg : g < B := hB g rfl
    have e : ∀ o, w'.cell? ⟨g, o, none⟩ = w.cell? ⟨g, o, none⟩ := fun o => hb.cell (p := ⟨g, o, none⟩) hg
    exact .inr ⟨g, cap, rfl, h1, h2, by have := hb.size; omega, fun i x hx => by rw [e, e, e, e]; exact h4 i x hx⟩
theorem Toks.later {w w' : World} {v : Value} {ts : List Tk} (h : Toks w v ts) (hb : Below w.heap.size w w') : Toks w' v ts := h.below hb fun g hg => by
  rcases h with ⟨rfl, _⟩ | ⟨g', cap, rfl, _, _, h3, _⟩
  · simp [Value.ownBlock] at hg
  · simp [Value.ownBlock] at hg; omega
theorem addr_add (g k : Nat) : (⟨g, 0, none⟩ : Addr).add k = ⟨g, k, none⟩ := by
  unfold Addr.add
  by_cases h : k = 0
  · simp [h]
  · simp [h]
theorem toks_of_row {w : World} {n0 : Nat} {v : Value} {ts : List Tk} (h : w.ownsRow n0 89 4 v ts.length (tkCells ts)) : Toks w v ts := by
  have hc := fun g (hg : v.ownBlock = some g) => h.cells hg
  rcases h.2 with ⟨hv, h0⟩ | ⟨g, cap, cur, hv, _, hgb, hle, hmax, _, _⟩
  · exact .inl ⟨hv, List.eq_nil_of_length_eq_zero h0⟩
  · subst hv
    refine .inr ⟨g, cap, rfl, hle, hmax, (Array.getElem?_eq_some_iff.1 hgb).1, fun i x hx => ?_⟩
    have := tkCells_get ts i x hx
    rw [← addr_add g (4 * i), ← addr_add g (4 * i + 1), ← addr_add g (4 * i + 2), ← addr_add g (4 * i + 3)]
    exact ⟨hc g rfl _ _ this.1, hc g rfl _ _ this.2.1, hc g rfl _ _ this.2.2.1, hc g rfl _ _ this.2.2.2⟩

theorem four_new (V : World) (x : Tk) : ∀ j u, ([.int .i64 (x.k : Int), .int .i64 (x.at' : Int), .string (bs x.t), .int .i64 (x.n : Int)] : List Value)[j]? = some u → (V.alloc (.cells #[.int .i64 (x.k : Int), .int .i64 (x.at' : Int), .string (bs x.t), .int .i64 (x.n : Int)] 89)).cell? ((⟨V.heap.size, 0, none⟩ : Addr).add j) = some u := by
  intro j u hj
  rw [addr_add, cell_of_row _ _ j _ _ _ (TB.new V x).is]
  simpa using hj

end Go.Proofs.Ytngmaiiibinkaaa
