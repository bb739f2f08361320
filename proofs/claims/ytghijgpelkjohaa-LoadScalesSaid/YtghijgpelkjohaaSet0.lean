/- Rows of tasks of the call's own; one letter as a text. -/
import Derived.Test.YtghijgpelkjohaaSpec
import Derived.Test.YtghijgpelkjohaaFind
import Derived.Laws.BytesString
import Derived.Laws.AppendOwn
import Derived.RangeFuncBox
namespace Go.Proofs.Ytghijgpelkjohaa
open Go.RowKit
set_option linter.unusedVariables false
set_option linter.unusedSimpArgs false

/-! ### Cells of many tasks -/
def tsCells (ts : List Ts) : List Value := ts.flatMap tsL
theorem tsCells_snoc (ts : List Ts) (x : Ts) : tsCells (ts ++ [x]) = tsCells ts ++ tsL x := by simp [tsCells]
theorem tsCells_get (ts : List Ts) : ∀ (i : Nat) (x : Ts), ts[i]? = some x → ∀ j v, (tsL x)[j]? = some v → (tsCells ts)[i * 7 + j]? = some v := by
  induction ts with
  | nil => intro i x h; simp at h
  | cons a r ih =>
    intro i x h j v hv
    have hj : j < 7 := by
      rcases Nat.lt_or_ge j 7 with h | h
      · exact h
      · rw [List.getElem?_eq_none (by simp [tsL]; omega)] at hv; cases hv
    cases i with
    | zero =>
      simp at h; subst h
      rw [Nat.zero_mul, Nat.zero_add, tsCells, List.flatMap_cons, List.getElem?_append_left (by simp [tsL]; omega)]
      exact hv
    | succ i =>
      simp only [List.getElem?_cons_succ] at h
      have := ih i x h j v hv
      rw [tsCells, List.flatMap_cons, List.getElem?_append_right (by simp [tsL]; omega)]
      rw [show (i + 1) * 7 + j - (tsL a).length = i * 7 + j by simp [tsL]; omega]
      exact this
theorem infoTs : (Try.prog.info? 40).map (fun i => (i.zero, i.size, i.bytes)) = some (some (.agg #[.string { data := #[] }, .int .i64 0, .int .i64 0, .int .i64 0, .int .i64 0, .int .i64 0, .int .i64 0]), 7, 64) := by kernel_rfl
theorem seven_new (V : World) (x : Ts) : ∀ j u, (tsL x)[j]? = some u → (V.alloc (.cells #[.string x.n, .int .i64 x.c, .int .i64 x.t, .int .i64 x.d, .int .i64 x.j, .int .i64 x.q, .int .i64 x.p] 40)).cell? ((⟨V.heap.size, 0, none⟩ : Addr).add j) = some u := by
  intro j u hj
  rw [add_none, Nat.zero_add, cell_of_row _ _ j _ _ _ (heap_alloc_new V _)]
  simpa [tsL] using hj
theorem tsL_one (x : Ts) : ∀ u ∈ tsL x, u.oneCell' = true := by
  intro u hu
  simp only [tsL, List.mem_cons, List.not_mem_nil, or_false] at hu
  rcases hu with rfl | rfl | rfl | rfl | rfl | rfl | rfl <;> rfl
/-- A row of the call's own. -/
structure SetIn (B : Nat) (w : World) (v : Value) (k : Nat) (ts : List Ts) : Prop where
  len : ts.length = k
  wf : ∀ x ∈ ts, TsW x
  row : w.ownsRow B 40 7 v k (tsCells ts)
theorem SetIn.nil (B : Nat) (w : World) : SetIn B w (.slice none 0 0) 0 [] := ⟨rfl, by simp, World.ownsRow_nil _ _ _ _⟩
/-- A row that may be stored to. -/
structure OwnT (B : Nat) (w : World) (g cap : Nat) (ts : List Ts) : Prop where
  hB : B ≤ g
  lt : g < w.heap.size
  fz : ∀ i, w.frozen? ⟨g, i, none⟩ = false
  le : ts.length ≤ cap
  mx : cap ≤ 9223372036854775807
  wf : ∀ x ∈ ts, TsW x
  at_ : ∀ i x, ts[i]? = some x → TAt w g (i * 7) x
theorem SetIn.own {B : Nat} {w : World} {v : Value} {k : Nat} {ts : List Ts} (h : SetIn B w v k ts) (hk : 0 < k) : ∃ g cap, v = .slice (some ⟨g, 0, none⟩) k cap ∧ OwnT B w g cap ts := by
  have hc := fun g (hg : v.ownBlock = some g) => h.row.cells hg
  rcases h.row.2 with ⟨hv, h0⟩ | ⟨g, cap, cur, hv, hBg, hgb, hle, hmax, _, _⟩
  · omega
  · subst hv
    refine ⟨g, cap, rfl, hBg, (Array.getElem?_eq_some_iff.1 hgb).1, fun i => frozen_of_row w g i _ _ hgb, by rw [h.len]; exact hle, hmax, h.wf, fun i x hx => ⟨fun j u hu => ?_⟩⟩
    have := hc g rfl _ _ (tsCells_get ts i x hx j u hu)
    rwa [add_none, Nat.zero_add] at this
theorem OwnT.row {B : Nat} {w : World} {g cap : Nat} {ts : List Ts} (h : OwnT B w g cap ts) : Row w (some ⟨g, 0, none⟩) cap ts :=
  ⟨h.le, h.mx, h.wf, fun i x hx => ⟨g, 0, rfl, by rw [Nat.zero_add]; exact h.at_ i x hx⟩⟩
theorem OwnT.setP {B : Nat} {w : World} {g cap : Nat} {ts : List Ts} (h : OwnT B w g cap ts) {k : Nat} {x : Ts} (hx : ts[k]? = some x) (p : Int) (hp : in64 p) :
    OwnT B (w.setCell ⟨g, k * 7 + 6, none⟩ (.int .i64 p)) g cap (ts.set k { x with p := p }) := by
  have hxw := h.wf x (List.mem_of_getElem? hx)
  have hkl : k < ts.length := (List.getElem?_eq_some_iff.1 hx).1
  refine ⟨h.hB, by simp; exact h.lt, fun i => by simp [h.fz], by rw [List.length_set]; exact h.le, h.mx, fun y hy => ?_, fun i y hy => ⟨fun j u hu => ?_⟩⟩
  · rcases List.mem_or_eq_of_mem_set hy with hy | rfl
    · exact h.wf y hy
    · exact ⟨hxw.n, hxw.c, hxw.t, hxw.d, hxw.j, hxw.q, hp⟩
  · have hj : j < 7 := by
      rcases Nat.lt_or_ge j 7 with h | h
      · exact h
      · rw [List.getElem?_eq_none (by simp [tsL]; omega)] at hu; cases hu
    by_cases hik : k = i
    · subst hik
      rw [List.getElem?_set_self hkl] at hy
      obtain rfl : { x with p := p } = y := by simpa using hy
      have hc := (h.at_ k x hx).r
      by_cases hj6 : j = 6
      · subst hj6
        obtain rfl : Value.int .i64 p = u := by simpa [tsL] using hu
        exact World.cell?_setCell_same _ _ _ (h.at_ k x hx).c6
      · rw [World.cell?_setCell_other _ _ _ _ (by intro e; have := congrArg Addr.off e; simp only at this; omega)]
        refine hc j u ?_
        rw [← hu]
        rcases (by omega : j = 0 ∨ j = 1 ∨ j = 2 ∨ j = 3 ∨ j = 4 ∨ j = 5) with rfl | rfl | rfl | rfl | rfl | rfl <;> rfl
    · rw [List.getElem?_set_ne hik] at hy
      rw [World.cell?_setCell_other _ _ _ _ (by intro e; have := congrArg Addr.off e; simp only at this; omega)]
      exact (h.at_ i y hy).r j u hu
theorem setCell_own {B : Nat} {w w' : World} {g i : Nat} (h : Below B w w') (hB : B ≤ g) (u : Value) : Below B w (w'.setCell ⟨g, i, none⟩ u) := h.setCell (p := ⟨g, i, none⟩) hB u

/-! ### One letter as a text -/
def chr (n : Int) : ByteArray := bs [UInt8.ofNat n.toNat]
theorem conv_n (W : World) (n : Int) (h0 : 0 ≤ n) (h1 : n < 256) : (convert 60 9 (.slice (some ⟨W.heap.size, 0, none⟩) 1 1)).run Try.prog (W.alloc (.cells #[.int .u8 n] 5)) = .ok (.string (chr n)) (W.alloc (.cells #[.int .u8 n] 5)) := by
  rw [run_convert_bytes_string _ 60 9 5 _ _ _ Try.underlying60 Try.underlying5 Try.underlying9]
  rw [run_bytesToString (ns := [n])]
  · rfl
  · go_simp
theorem chr_size (n : Int) : (chr n).size = 1 := by rw [chr, bs_size]; rfl

end Go.Proofs.Ytghijgpelkjohaa
