/- Rows of tokens in memory; the law's own each. -/
import Derived.Test.YtpnngicglgceaaaEach1
import Derived.Maps.AppendAt
import Derived.Laws.AppendOwn
namespace Go.Proofs.Ytpnngicglgceaaa
open Go.RowKit Go.Shelf
set_option linter.unusedVariables false
attribute [local go_sem] Oper.semAt_some

/-- The cells of a row of tokens. -/
def tkCells (ts : List Tk) : List Value := ts.flatMap fun x => [.int .i64 (x.k : Int), .int .i64 (x.at' : Int), .string (bs x.t), .int .i64 (x.n : Int)]
theorem tkCells_snoc (ts : List Tk) (x : Tk) : tkCells (ts ++ [x]) = tkCells ts ++ [.int .i64 (x.k : Int), .int .i64 (x.at' : Int), .string (bs x.t), .int .i64 (x.n : Int)] := by simp [tkCells]
theorem tkCells_length (ts : List Tk) : (tkCells ts).length = 4 * ts.length := by
  induction ts with
  | nil => rfl
  | cons a r ih => simp only [tkCells, List.flatMap_cons, List.length_append, List.length_cons, List.length_nil] at *; omega
theorem tkCells_get (ts : List Tk) : ∀ (i : Nat) (x : Tk), ts[i]? = some x → (tkCells ts)[4 * i]? = some (.int .i64 (x.k : Int)) ∧ (tkCells ts)[4 * i + 1]? = some (.int .i64 (x.at' : Int)) ∧ (tkCells ts)[4 * i + 2]? = some (.string (bs x.t)) ∧ (tkCells ts)[4 * i + 3]? = some (.int .i64 (x.n : Int)) := by
  induction ts with
  | nil => intro i x h; simp at h
  | cons a r ih =>
    intro i x h
    cases i with
    | zero => simp at h; subst h; exact ⟨rfl, rfl, rfl, rfl⟩
    | succ i =>
      simp only [List.getElem?_cons_succ] at h
      have := ih i x h
      simp only [tkCells, List.flatMap_cons] at *
      rw [show 4 * (i + 1) = 4 * i + 4 by omega]
      simpa [List.getElem?_append_right, show 4 * i + 4 + 1 = 4 * i + 1 + 4 by omega, show 4 * i + 4 + 2 = 4 * i + 2 + 4 by omega, show 4 * i + 4 + 3 = 4 * i + 3 + 4 by omega] using this
theorem bs_inj {a b : List UInt8} (h : bs a = bs b) : a = b := by rw [← bs_toList a, h, bs_toList]
theorem tkC_inj {x y : Tk} (h : (tkC x).toList = (tkC y).toList) : x = y := by
  cases x
  cases y
  simp at h
  obtain ⟨h1, h2, h3, h4⟩ := h
  have h3 := bs_inj h3
  subst h3
  congr 1 <;> omega

theorem infoTok : (Try.prog.info? 36).map (fun i => (i.zero, i.size, i.bytes)) = some (some (.agg #[.int .i64 0, .int .i64 0, .string { data := #[] }, .int .i64 0]), 4, 40) := by kernel_rfl

/-- A token that is appended leaves what a round keeps. -/
theorem kp_append {V w1 : World} {bl n0 : Nat} {v v' : Value} {pre : List Tk} {x : Tk} {tmp : Obj} (hrow : V.ownsRow n0 36 4 v pre.length (tkCells pre)) (hv : v = .slice none 0 0 ↔ pre = [])
    (hg : (V.alloc tmp).grownBy w1 v.ownBlock) (hb : Boxed w1 bl 24 v) : Kp pre x V (w1.setCell ⟨bl, 0, none⟩ v') := by
  have hk : Kp pre x (V.alloc tmp) w1 := fun k o ho hk => by
    have hlt := (Array.getElem?_eq_some_iff.1 ho).1
    by_cases e : some k = v.ownBlock
    · exfalso
      rcases (hrow.alloc tmp).2 with ⟨rfl, _⟩ | ⟨g, cap, cur, rfl, _, hgb, _, _, hsz, htk⟩
      · simp [Value.ownBlock] at e
      · obtain rfl : k = g := by simpa [Value.ownBlock] using e
        rw [hgb] at ho
        cases ho
        rcases hk with hk | ⟨hx, hk⟩
        · simp [fixed] at hk
        · have hcur : cur = tkC x := by cases hk; rfl
          subst hcur
          cases pre with
          | nil => exact absurd (hv.2 rfl) (by simp)
          | cons p r =>
            refine hx ?_
            have : (tkC x).toList = (tkC p).toList := by
              have h := congrArg (List.take 4) htk
              rw [List.take_take, List.length_cons, Nat.min_eq_left (by omega)] at h
              simpa [tkCells] using h
            rw [tkC_inj this]
            simp
    · exact (hg.block k hlt e).trans ho
  exact ((Kp.alloc V tmp).trans hk).trans (Kp.setCell (a := ⟨bl, 0, none⟩) hb (by decide))

/-- A slice that reads as these tokens. -/
def Toks (w : World) (v : Value) (ts : List Tk) : Prop :=
  (v = .slice none 0 0 ∧ ts = []) ∨ ∃ g cap, v = .slice (some ⟨g, 0, none⟩) ts.length cap ∧ ts.length ≤ cap ∧ cap ≤ maxLen ∧ g < w.heap.size ∧
    ∀ i x, ts[i]? = some x → w.cell? ⟨g, 4 * i, none⟩ = some (.int .i64 (x.k : Int)) ∧ w.cell? ⟨g, 4 * i + 1, none⟩ = some (.int .i64 (x.at' : Int)) ∧ w.cell? ⟨g, 4 * i + 2, none⟩ = some (.string (bs x.t)) ∧ w.cell? ⟨g, 4 * i + 3, none⟩ = some (.int .i64 (x.n : Int))
theorem Toks.below {w w' : World} {v : Value} {ts : List Tk} {B : Nat} (h : Toks w v ts) (hb : Below B w w') (hB : ∀ g, v.ownBlock = some g → g < B) : Toks w' v ts := by
  rcases h with ⟨rfl, rfl⟩ | ⟨g, cap, rfl, h1, h2, h3, h4⟩
  · exact .inl ⟨rfl, rfl⟩
  · have hg : g < B := hB g rfl
    have e : ∀ o, w'.cell? ⟨g, o, none⟩ = w.cell? ⟨g, o, none⟩ := fun o => hb.cell (p := ⟨g, o, none⟩) hg
    exact .inr ⟨g, cap, rfl, h1, h2, by have := hb.size; omega, fun i x hx => by rw [e, e, e, e]; exact h4 i x hx⟩
theorem Toks.later {w w' : World} {v : Value} {ts : List Tk} (h : Toks w v ts) (hb : Below w.heap.size w w') : Toks w' v ts := h.below hb fun g hg => by
  rcases h with ⟨rfl, _⟩ | ⟨g', cap, rfl, _, _, h3, _⟩
  · simp [Value.ownBlock] at hg
  · simp [Value.ownBlock] at hg; omega
theorem addr_add (g k : Nat) : (⟨g, 0, none⟩ : Addr).add k = ⟨g, k, none⟩ := by
  unfold Addr.add
  by_cases h : k = 0
  · simp [h]
  · simp [h]
theorem toks_of_row {w : World} {n0 : Nat} {v : Value} {ts : List Tk} (h : w.ownsRow n0 36 4 v ts.length (tkCells ts)) : Toks w v ts := by
  have hc := fun g (hg : v.ownBlock = some g) => h.cells hg
  rcases h.2 with ⟨hv, h0⟩ | ⟨g, cap, cur, hv, _, hgb, hle, hmax, _, _⟩
  · exact .inl ⟨hv, List.eq_nil_of_length_eq_zero h0⟩
  · subst hv
    refine .inr ⟨g, cap, rfl, hle, hmax, (Array.getElem?_eq_some_iff.1 hgb).1, fun i x hx => ?_⟩
    have := tkCells_get ts i x hx
    rw [← addr_add g (4 * i), ← addr_add g (4 * i + 1), ← addr_add g (4 * i + 2), ← addr_add g (4 * i + 3)]
    exact ⟨hc g rfl _ _ this.1, hc g rfl _ _ this.2.1, hc g rfl _ _ this.2.2.1, hc g rfl _ _ this.2.2.2⟩

theorem run_eql_func_nil (fn : Fn) (a b : Array Value) (w : World) : (binOp .eql 45 (.func fn a b) .nilFunc).run Try.prog w = .ok (.bool false) w := by
  have h : ∀ d, (Op.equalIn (d + 1) 45 (.func fn a b) .nilFunc).run Try.prog w = .ok false w := fun d => by simp [Op.equalIn, run_underlying Try.underlying45]
  simp only [binOp]
  simp [Op.equal, Op.maxDepth, h 9999]

theorem four_new (V : World) (x : Tk) : ∀ j u, ([.int .i64 (x.k : Int), .int .i64 (x.at' : Int), .string (bs x.t), .int .i64 (x.n : Int)] : List Value)[j]? = some u → (V.alloc (.cells #[.int .i64 (x.k : Int), .int .i64 (x.at' : Int), .string (bs x.t), .int .i64 (x.n : Int)] 36)).cell? ((⟨V.heap.size, 0, none⟩ : Addr).add j) = some u := by
  intro j u hj
  rw [addr_add, cell_of_row _ _ j _ _ _ (TB.new V x).is]
  simpa using hj

/-- What the collecting loop holds. -/
def Coll (n0 bl : Nat) (pre : List Tk) (V : World) : Prop := ∃ v, Boxed V bl 24 v ∧ V.ownsRow n0 36 4 v pre.length (tkCells pre) ∧ (v = .slice none 0 0 ↔ pre = [])

set_option maxRecDepth 100000 in
set_option maxHeartbeats 4000000 in
theorem each_any (s : ByteArray) (w : World) (hs : s.size ≤ 100000) :
    Calls Try.prog 12 #[.string s] w fun e w' => ∃ v, e = .returned (.tuple #[v, .bool true]) ∧ Toks w' v (tokL s) ∧ Below w.heap.size w w' := by
  have hfn := run_eql_func_nil
  refine (callsIn_wide (n := 9)).1 ?_
  refine callsIn_of_wp_marks Try.func12 rfl trivial ?_ rfl
  simp only [Try.ntmps12, List.size_toArray, List.length_cons, List.length_nil, Nat.reduceAdd, Nat.reduceSub, Array.replicate_succ, Array.replicate_zero, List.push_toArray, List.append_toArray, List.nil_append, List.cons_append]
  obtain ⟨W1, hW1, B1, b1⟩ : ∃ W1, w.alloc (.cells #[.string s] 9) = W1 ∧ Boxed W1 w.heap.size 9 (.string s) ∧ Below w.heap.size w W1 := ⟨_, rfl, Boxed.new _ _ _, (Below.refl _ _).alloc (Nat.le_refl _) _⟩
  gi_wp2_with (refine ⟨trivial, ?_⟩; gi_at_call 19; refine (callsIn_wide.2 (each_seq_any _ _)).mono ?_; rintro e w' ⟨rfl, rfl⟩)
  clear hfn
  obtain ⟨W2, hW2, L2, P2, B2, hbl⟩ : ∃ W2, W1.alloc (.cells #[.slice none 0 0] 24) = W2 ∧ Boxed W2 W1.heap.size 24 (.slice none 0 0) ∧ Boxed W2 w.heap.size 9 (.string s) ∧ Below w.heap.size w W2 ∧ W1.heap.size < W2.heap.size :=
    ⟨_, rfl, Boxed.new _ _ _, Boxed.alloc B1 _, b1.trans ((Below.refl _ _).alloc b1.size _), by simp⟩
  rw [hW2]
  have hw1 : w.heap.size ≤ W1.heap.size := b1.size
  clear hW1 hW2 B1 b1
  generalize W1.heap.size = bl at *
  have hw2 := B2.size
  obtain ⟨i0, hi, hz0, hz1, hz2⟩ := info_parts infoTok
  refine rangeO (gf := 22) (lb := #[.pointer (some ⟨w.heap.size, 0, none⟩)]) rfl (enters_of Try.func22 (by kernel_rfl) rfl)
    (each1_seq (9 - 1) (by omega) w.heap.size s hs W2 P2) (Below.refl _ _) rfl
    (fun pre V => Coll w.heap.size bl pre V ∧ Below w.heap.size w V) (fun _ _ _ => False)
    (OwnFrom.and (Own.from (holdsRow_own w.heap.size bl 24 36 4 List.length tkCells (fun pre v => v = .slice none 0 0 ↔ pre = [])) _) (ownFrom_below (Nat.le_refl _) hw2))
    (fun _ _ _ _ _ h _ _ => h)
    ⟨⟨_, L2, World.ownsRow_nil _ _ _ _, by simp⟩, B2⟩
    (fun x a' V => ∃ Bx, TB V Bx x ∧ a' = { tmps := #[.string s, undef, .slice none 0 0, .bool false, .func (.func 22) #[] #[.pointer (some ⟨w.heap.size, 0, none⟩)], .pointer (some ⟨bl, 0, none⟩), .pointer (some ⟨Bx, 0, none⟩), .string s, .func (.func 22) #[] #[.pointer (some ⟨w.heap.size, 0, none⟩)], .func (.func 22) #[] #[.pointer (some ⟨w.heap.size, 0, none⟩)], .bool false, .func (.func 22) #[] #[.pointer (some ⟨w.heap.size, 0, none⟩)], tkV x, undef, undef, undef, undef, undef], defers := [] })
    (fun x a' _ X Y row hs hg hr => hs.imp fun Bx h => ⟨h.1.kept hg (fun r e => (hr r e).2), h.2⟩)
    ?assign ?body ?done ?stop
  case assign =>
    intro l2 pre x V K hI hK
    gi_wp2
    obtain ⟨⟨v, hv, hrow, hnil⟩, hB⟩ := hI
    exact hK _ _ ((KeepsOthers.alloc _ _).from _) (Kp.alloc _ _) ⟨⟨v, Boxed.alloc hv _, hrow.alloc _, hnil⟩, hB.trans ((Below.refl _ _).alloc hB.size _)⟩ ⟨_, TB.new V x, rfl⟩
  case body =>
    rintro l2 pre x a' V ⟨⟨v, hv, hrow, hnil⟩, hB⟩ ⟨Bx, hT, rfl⟩ hlen
    have c0 := hT.c0
    have c1 := hT.c1
    have c2 := hT.c2
    have c3 := hT.c3
    have cv := hv.cell
    gi_wp2_with (gi_at_builtin; refine wpListIn_append_own _ rfl _ _ 24 rfl w.heap.size 36 i0 _ 4 40 Try.underlying24 hi hz0 hz1 hz2 rfl (by decide) _ _ _ rfl (hrow.alloc _) ⟨V.heap.size, 0, none⟩ 1 1 [.int .i64 (x.k : Int), .int .i64 (x.at' : Int), .string (bs x.t), .int .i64 (x.n : Int)] rfl rfl (four_new V x) (by simp [Value.oneCell']) (by unfold maxLen; omega) (by omega) (by have := hB.size; simp; omega) ?_; intro v' w1 hown' hgrow hnil'; obtain ⟨g', cap', rfl⟩ := ownsRow_succ hown'; obtain ⟨hv1, hv2, hr2, hk2, hb2⟩ := hv.appended (by decide) hrow hB.size hw1 hown' hgrow; have hc1 := hv1.cell; have hf1 := hv1.frozen)
    exact ⟨hk2.from _, kp_append hrow hnil hgrow hv1, ⟨⟨_, hv2, by rw [List.length_append, tkCells_snoc]; exact hr2, by simp⟩, hB.trans hb2⟩⟩
  case done =>
    rintro D xs V hD rfl ⟨⟨v, hv, hrow, hnil⟩, hB⟩ hK
    have cv := hv.cell
    gi_wp2
    refine ⟨by simp, .inl ⟨_, _, rfl, run_takeDeferred hK, ?_⟩⟩
    exact ⟨.tuple #[v, .bool true], by simp [results, Try.f12, go_sem], v, rfl, toks_of_row (ownsRow_putObj hrow _ hK rfl), hB.trans (belowK_b (w := w) (Nat.le_refl _) V D _ _ (by omega) hK rfl rfl)⟩
  case stop =>
    rintro D c pre V hD hpre h hK
    exact h.elim
end Go.Proofs.Ytpnngicglgceaaa
