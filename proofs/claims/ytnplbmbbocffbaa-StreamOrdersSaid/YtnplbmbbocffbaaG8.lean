/- Texts about the program, one after the other: OwnI, It, MgI, MsI, Srt. -/
import Derived.Test.YtnplbmbbocffbaaG7
import Derived.Test.YtnplbmbbocffbaaG6
import Derived.Sort.CutIn
/- Rows of rows of I of the call's own; those that are filled. -/
namespace Go.Proofs.Ytnplbmbbocffbaa
open Go.RowKit Go.Shelf
set_option linter.unusedVariables false
set_option linter.unusedSimpArgs false
attribute [local go_sem ↓] Go.wp_at_zero Go.wp_at_succ
theorem own_mono {w : World} {B B' e size n : Nat} {v : Value} {xs : List Value} (h : w.ownsRow B' e size v n xs) (hB : B ≤ B') : w.ownsRow B e size v n xs := by
  refine ⟨h.1, ?_⟩
  rcases h.2 with h2 | ⟨g, cap, cur, h1, hb, r⟩
  · exact .inl h2
  · exact .inr ⟨g, cap, cur, h1, by omega, r⟩
theorem own_rowAtI {B : Nat} {w : World} {u : Value} {l : List Int} (h : w.ownsRow B 3 1 u l.length (cLI l)) : RowAtI w.heap.size w u l := by
  obtain ⟨A, cap, hv, hle, hmx⟩ := own_len h
  refine ⟨A, cap, hv, hle, by unfold maxLen at hmx; omega, fun i x hx => ?_⟩
  have hi := (List.getElem?_eq_some_iff.1 hx).1
  obtain ⟨g, cap', hv', hB, hl, _, _, _⟩ := own_form h (by omega)
  rw [hv] at hv'
  simp only [Value.slice.injEq] at hv'
  obtain ⟨rfl, _, rfl⟩ := hv'
  refine ⟨g, 0, rfl, hl, hl, fun j v hv2 => ?_⟩
  rw [Nat.zero_add]
  exact own_cell h (g := g) (by rw [hv]; rfl) (cL_getI l i x hx j v hv2)
/-- A slice that reads as a row of rows. -/
structure RInI (N : Nat) (w : World) (A : Option Addr) (cap : Nat) (rs : List (List Int)) : Prop where
  le : rs.length ≤ cap
  mx : cap ≤ 9223372036854775807
  at_ : ∀ i l, rs[i]? = some l → ∃ b o v, A = some ⟨b, o, none⟩ ∧ w.cell? ⟨b, o + i, none⟩ = some v ∧ RowAtI N w v l
theorem RInI.later {N cap : Nat} {w w' : World} {A : Option Addr} {rs : List (List Int)} (h : RInI N w A cap rs) (hb : Below w.heap.size w w') : RInI N w' A cap rs := ⟨h.le, h.mx, fun i l hl => by
  obtain ⟨b, o, v, h1, h2, h3⟩ := h.at_ i l hl
  exact ⟨b, o, v, h1, (hb.cell (p := ⟨b, o + i, none⟩) (World.block_lt_of_cell? w _ h2)).trans h2, h3.later hb⟩⟩
structure Own2I (B : Nat) (w : World) (v : Value) (vs : List Value) (rs : List (List Int)) : Prop where
  row : w.ownsRow B 34 1 v vs.length vs
  len : vs.length = rs.length
  each : ∀ (i : Nat) (u : Value) (l : List Int), vs[i]? = some u → rs[i]? = some l → w.ownsRow B 3 1 u l.length (cLI l)
section
variable {B : Nat} {w w' : World} {v : Value} {vs : List Value} {rs : List (List Int)}
theorem Own2I.nil (B : Nat) (w : World) : Own2I B w (.slice none 0 0) [] [] := ⟨World.ownsRow_nil _ _ _ _, rfl, by simp⟩
theorem Own2I.later (h : Own2I B w v vs rs) (hb : Below w.heap.size w w') : Own2I B w' v vs rs := ⟨(Kept.of [] hb).row h.row (by simp), h.len, fun i u l hu hl => (Kept.of [] hb).row (h.each i u l hu hl) (by simp)⟩
theorem Own2I.rin (h : Own2I B w v vs rs) : ∃ A cap, v = .slice A rs.length cap ∧ RInI w.heap.size w A cap rs := by
  obtain ⟨A, cap, hv, hle, hmx⟩ := own_len h.row
  rw [h.len] at hv hle
  refine ⟨A, cap, hv, ⟨hle, by unfold maxLen at hmx; omega, fun i l hl => ?_⟩⟩
  have hi := (List.getElem?_eq_some_iff.1 hl).1
  obtain ⟨u, hu⟩ : ∃ u, vs[i]? = some u := ⟨vs[i]'(by rw [h.len]; exact hi), List.getElem?_eq_getElem _⟩
  obtain ⟨g, cap', hv', hB, hgl, _, _, _⟩ := own_form h.row (by rw [h.len]; omega)
  rw [hv] at hv'
  simp only [Value.slice.injEq] at hv'
  obtain ⟨rfl, _, rfl⟩ := hv'
  refine ⟨g, 0, u, rfl, ?_, own_rowAtI (h.each i u l hu hl)⟩
  rw [Nat.zero_add]
  exact own_cell h.row (g := g) (by rw [hv]; rfl) hu
theorem Own2I.push {v' u : Value} {l : List Int} (h : Own2I B w v vs rs) (hu : w.ownsRow B 3 1 u l.length (cLI l)) (hown : w'.ownsRow B 34 1 v' (vs.length + 1) (vs ++ [u])) (hgr : w.grownBy w' v.ownBlock) : Own2I B w' v' (vs ++ [u]) (rs ++ [l]) := by
  have hk : ∀ {u : Value} {l : List Int}, w.ownsRow B 3 1 u l.length (cLI l) → w'.ownsRow B 3 1 u l.length (cLI l) := fun {u l} h0 =>
    (kept_grown (X := v.ownBlock.toList) hgr (fun k e => by simp [e])).row h0 (fun g hg hm => by
      rw [Option.mem_toList] at hm
      obtain ⟨g0, cap, hv, -, hgl, -⟩ : ∃ g0 cap, u = .slice (some ⟨g0, 0, none⟩) l.length cap ∧ B ≤ g0 ∧ g0 < w.heap.size ∧ True := by
        rcases h0.2 with ⟨rfl, _⟩ | ⟨g0, cap, cur, rfl, hb, hh, _⟩
        · simp [Value.ownBlock] at hg
        · exact ⟨g0, cap, rfl, hb, (Array.getElem?_eq_some_iff.1 hh).1, trivial⟩
      rcases h0.2 with ⟨h1, _⟩ | ⟨g1, cap1, cur, h1, hb, hh, _⟩
      · rw [hv] at h1; cases h1
      · rw [h1] at hg
        simp only [Value.ownBlock, Option.some.injEq] at hg
        subst hg
        exact own_ne h.row hh (by decide) hm)
  refine ⟨by rw [List.length_append]; exact hown, by simp [h.len], fun i a b ha hb => ?_⟩
  rw [List.getElem?_append] at ha hb
  rw [h.len] at ha
  split at ha
  · rename_i hlt
    rw [if_pos hlt] at hb
    exact hk (h.each i a b ha hb)
  · rename_i hlt
    rw [if_neg hlt] at hb
    rw [List.getElem?_singleton] at ha hb
    split at ha
    · rename_i he
      rw [if_pos he] at hb
      cases ha; cases hb
      exact hk hu
    · cases ha
end
def FilPostI (rs : List (List Int)) (w : World) (e : Ending) (w' : World) : Prop := ∃ v vs, e = .returned v ∧ Own2I w.heap.size w' v vs rs ∧ Below w.heap.size w w'
structure FilInI (w wr : World) (v : Value) (rs : List (List Int)) : Prop where
  own : ∃ vs, Own2I w.heap.size wr v vs rs
  bel : Below w.heap.size w wr
set_option maxRecDepth 100000 in
set_option maxHeartbeats 8000000 in
theorem filI_any {N cap : Nat} {A : Option Addr} {rs : List (List Int)} (w : World) (hR : RInI N w A cap rs) (hn : rs.length ≤ 1000) (hl : ∀ l ∈ rs, l.length ≤ 1000) :
    Calls Try.prog 47 #[.slice A rs.length cap] w (FilPostI (fil rs) w) := by
  obtain ⟨i0, hi, hz0, hz1, hz2⟩ := info_parts infoEII
  have HR := Lib.hid hR
  have HLL := Lib.hid hl
  obtain ⟨n, hn0⟩ : ∃ n, rs.length = n := ⟨_, rfl⟩
  have HN := Lib.hid hn0
  rw [hn0] at hn ⊢
  clear hR hl hn0
  go_enter Try.func47, Try.ntmps47
  go_wp2
  go_loopw [3, 8] (fun v i wr => ∃ k : Nat, k ≤ n ∧ i = .int .i64 (k : Int) ∧ Hid (FilInI w wr v (fil (rs.take k)))) (fun _ i _ => n - (intOf i).toNat)
  case atStart => exact ⟨0, Nat.zero_le _, rfl, Lib.hid ⟨⟨[], Own2I.nil _ _⟩, Below.refl _ _⟩⟩
  case round =>
    obtain ⟨k, hk, rfl, hI⟩ := hrel
    by_cases hlt : k < n
    · obtain ⟨l, hx⟩ : ∃ l, rs[k]? = some l := ⟨rs[k]'(by rw [HN.out]; exact hlt), List.getElem?_eq_getElem _⟩
      obtain ⟨b, o, u, rfl, e1, hRow⟩ := HR.out.at_ k l hx
      have e2 := (hI.out.bel.cell (p := ⟨b, o + k, none⟩) (World.block_lt_of_cell? w _ e1)).trans e1
      have hRw := hRow.later hI.out.bel
      have hi0 : (0 : Int) ≤ (k : Int) := by omega
      have hi1 : (k : Int) < (n : Int) := by omega
      have HT : Hid (fil (rs.take (k + 1)) = if l = [] then fil (rs.take k) else fil (rs.take k) ++ [l]) := Lib.hid (by
        rw [List.take_add_one, hx]
        simp only [fil, List.filter_append, Option.toList_some]
        cases l <;> simp)
      have HLK := Lib.hid (HLL.out l (List.mem_of_getElem? hx))
      have HRW := Lib.hid hRw
      clear hRow hRw hx
      cases l with
      | nil =>
        obtain ⟨A1, c1, rfl, _⟩ := HRW.out.ex
        clear e1
        go_wp2
        refine ⟨⟨k + 1, by omega, by go_num, ?_⟩, by first | (simp [intOf]; done) | (simp [intOf]; omega)⟩
        rw [HT.out, if_pos rfl]
        exact hI
      | cons x xs =>
        obtain ⟨vs, hO⟩ := hI.out.own
        obtain ⟨g, q, c1, rfl, a1, a2, a3, a4, _⟩ := HRW.out.head
        have hz : (0 : Int) < ((xs.length + 1 : Nat) : Int) := by omega
        have hall : ∀ j u, (cLI (x :: xs))[j]? = some u → wr.cell? ⟨g, q + j, none⟩ = some u := by
          intro j u hu
          obtain ⟨A2, cap2, e, _, _, h3⟩ := HRW.out.ex
          simp only [Value.slice.injEq] at e
          obtain ⟨rfl, _, rfl⟩ := e
          have hjl := (List.getElem?_eq_some_iff.1 hu).1
          rw [cL_lenI] at hjl
          obtain ⟨i, r, rfl, hr⟩ : ∃ i r, j = i * 1 + r ∧ r < 1 := ⟨j / 1, j % 1, by omega, by omega⟩
          have hil : i < (x :: xs).length := by omega
          obtain ⟨g2, q2, b1, b2, b3, b4⟩ := h3 i _ (List.getElem?_eq_getElem hil)
          simp only [Option.some.injEq, Addr.mk.injEq] at b1
          obtain ⟨rfl, rfl, _⟩ := b1
          obtain ⟨u', hu'⟩ : ∃ u', (cEI ((x :: xs)[i]'hil))[r]? = some u' := ⟨(cEI ((x :: xs)[i]'hil))[r]'(by simp [cEI]; omega), List.getElem?_eq_getElem _⟩
          have h5 := cL_getI (x :: xs) i _ (List.getElem?_eq_getElem hil) r u' hu'
          rw [hu] at h5
          cases h5
          rw [← Nat.add_assoc]
          exact b4 r u hu'
        have CL := cloneI g q (xs.length + 1) c1 (cLI (x :: xs)) wr hall (by rw [cL_lenI]; rfl) (cL_oneI _) (by have := HLK.out; rw [List.length_cons] at this; omega) a4
        have HCL := Lib.hid CL
        have HO := Lib.hid hO
        have HBW := Lib.hid hI.out.bel
        have HVL := Lib.hid (show vs.length ≤ 1000 by
          rw [hO.len]
          have h1 : (fil (rs.take k)).length ≤ (rs.take k).length := List.length_filter_le _ _
          rw [List.length_take] at h1
          omega)
        clear CL hO hI hall e1 a1 a2 a3 a4
        generalize hm : xs.length + 1 = m at *
        have HM := Lib.hid hm
        clear hm
        go_wp2_with (first
          | (go_at_call 39; (with_reducible refine HCL.out.mono ?_); rintro e w1 ⟨u, rfl, hu, hB1⟩; have HU := Lib.hid hu; have HB1 := Lib.hid hB1; have HO1 := Lib.hid (HO.out.later hB1); have HS := Lib.hid (Nat.le_trans HBW.out.size hB1.size); obtain ⟨Au, cu, rfl, _, _⟩ := own_len hu; clear hu hB1)
          | (refine wpList_append_own _ rfl _ _ 45 rfl w.heap.size 34 i0 _ 1 24 Try.underlying45 hi hz0 hz1 hz2 rfl (by decide) _ vs.length vs rfl (HO1.out.row.alloc _) ⟨w1.heap.size, 0, none⟩ 1 1 [.slice Au m cu] rfl rfl (fun j v hv => by cases j with | zero => simp only [List.getElem?_cons_zero, Option.some.injEq] at hv; rw [add_none, Nat.zero_add, cell_of_row _ _ 0 _ _ _ (heap_alloc_new _ _), ← hv]; rfl | succ j => simp at hv) (by intro v hv; simp only [List.mem_singleton] at hv; subst hv; rfl) (by have := HVL.out; unfold maxLen; omega) (by have := HVL.out; omega) (by have := HS.out; simp; omega) ?_; intro v' w8 hown' hgrow hnil'))
        refine ⟨⟨k + 1, by omega, by go_num, ?_⟩, by first | (simp [intOf]; done) | (simp [intOf]; omega)⟩
        rw [HT.out, if_neg (by simp)]
        have ba : Below w1.heap.size w1 (w1.alloc (.cells #[.slice Au m cu] 34)) := (Below.refl _ _).alloc (Nat.le_refl _) _
        have hu : w1.ownsRow w.heap.size 3 1 (.slice Au m cu) (x :: xs).length (cLI (x :: xs)) := by
          rw [List.length_cons, HM.out]
          exact own_mono HU.out HBW.out.size
        have hO8 := (HO1.out.later ba).push ((Kept.of [] ba).row hu (by simp)) hown' hgrow
        exact Lib.hid ⟨⟨_, hO8⟩, ((HBW.out.trans (HB1.out.mono HBW.out.size)).trans (ba.mono HS.out)).grown hgrow (by have := HS.out; simp; omega) (fun q hq => (HO1.out.row.lt q hq).1)⟩
    · obtain rfl : k = n := by omega
      obtain ⟨vs, hO⟩ := hI.out.own
      obtain ⟨Av, cv, rfl, _, _⟩ := own_len hO.row
      go_wp2
      go_ret
      rw [List.take_of_length_le (by rw [HN.out]; exact Nat.le_refl _)] at hO
      exact ⟨_, vs, rfl, hO, hI.out.bel⟩
end Go.Proofs.Ytnplbmbbocffbaa
/- Rows of things by numbers. -/
namespace Go.Proofs.Ytnplbmbbocffbaa
open Go.RowKit Go.Shelf
set_option linter.unusedVariables false
set_option linter.unusedSimpArgs false
attribute [local go_sem ↓] Go.wp_at_zero Go.wp_at_succ
def half (l : List Int) : Int := (l.map (fun x => x % 5 / 2)).sum
def itK (s : Bool) (l : List Int) (k : Nat) : Int := if s then half (l.take (k + 1)) else ((l[k]?).getD 0) % 5
def itR (s : Bool) (i : Nat) (l : List Int) : List (Int × Int) := (List.range l.length).map (fun k => (itK s l k, (10 * i + k : Int)))
def itS (s : Bool) (rows : List (List Int)) : List (List (Int × Int)) := (rows.take 8).mapIdx (fun i l => itR s i (l.take 8))
theorem half_snoc (l : List Int) (x : Int) : half (l ++ [x]) = half l + x % 5 / 2 := by simp [half]
theorem itR_len (s : Bool) (i : Nat) (l : List Int) : (itR s i l).length = l.length := by simp [itR]
theorem itR_get (s : Bool) (i : Nat) (l : List Int) (k : Nat) (h : k < l.length) : (itR s i l)[k]? = some (itK s l k, (10 * i + k : Int)) := by simp [itR, h]
theorem itS_len (s : Bool) (rows : List (List Int)) : (itS s rows).length = min 8 rows.length := by simp [itS]
theorem itS_get (s : Bool) (rows : List (List Int)) (k : Nat) (l : List Int) (h : rows[k]? = some l) (hk : k < 8) : (itS s rows)[k]? = some (itR s k (l.take 8)) := by
  simp [itS, h, hk, List.getElem?_take]
theorem half_bd : ∀ l : List Int, 0 ≤ half l ∧ half l ≤ 2 * l.length
  | [] => by simp [half]
  | x :: l => by
    have ih := half_bd l
    have e : half (x :: l) = x % 5 / 2 + half l := by simp [half]
    rw [e, List.length_cons]
    omega
structure InIt (W1 wr : World) (v : Value) (k : Nat) (l : List (Int × Int)) : Prop where
  own : wr.ownsRow W1.heap.size 54 2 v k (cLM l)
  bel : Below W1.heap.size W1 wr
theorem pair_new (W : World) (T : TypeId) (a b : Value) : ∀ jj u, ([a, b] : List Value)[jj]? = some u → (W.alloc (.cells #[a, b] T)).cell? ((⟨W.heap.size, 0, none⟩ : Addr).add jj) = some u := fun jj u hu => by
  rw [add_none, Nat.zero_add, cell_of_row _ _ jj _ _ _ (heap_alloc_new W _)]
  simpa using hu
theorem one_new (W : World) (T : TypeId) (a : Value) : ∀ jj u, ([a] : List Value)[jj]? = some u → (W.alloc (.cells #[a] T)).cell? ((⟨W.heap.size, 0, none⟩ : Addr).add jj) = some u := fun jj u hu => by
  rw [add_none, Nat.zero_add, cell_of_row _ _ jj _ _ _ (heap_alloc_new W _)]
  simpa using hu
theorem pair_one (a b : Int) : ∀ u ∈ ([.int .i64 a, .int .i64 b] : List Value), u.oneCell' = true := by
  intro u hu
  simp only [List.mem_cons, List.not_mem_nil, or_false] at hu
  rcases hu with rfl | rfl <;> rfl
theorem cLM_snoc (l : List (Int × Int)) (x : Int × Int) : cLM (l ++ [x]) = cLM l ++ [.int .i64 x.1, .int .i64 x.2] := by simp [cLM, cEM]
theorem InIt.step {W1 wr w8 : World} {s : Bool} {v v' : Value} {i j : Nat} {l : List Int} {a b : Int} (h : InIt W1 wr v j ((itR s i l).take j)) (hj : j < l.length) (ha : itK s l j = a) (hb : (10 * i + j : Int) = b)
    (hown : w8.ownsRow W1.heap.size 54 2 v' (j + 1) (cLM ((itR s i l).take j) ++ [.int .i64 a, .int .i64 b])) (hgr : (wr.alloc (.cells #[.int .i64 a, .int .i64 b] 54)).grownBy w8 v.ownBlock) : InIt W1 w8 v' (j + 1) ((itR s i l).take (j + 1)) := by
  refine ⟨?_, ((h.bel).alloc h.bel.size _).grown hgr (by have := h.bel.size; simp; omega) (fun q hq => (h.own.lt q hq).1)⟩
  rw [take_one (itR_get s i l j hj), cLM_snoc, ha, hb]
  exact hown
def ItPost (s : Bool) (rows : List (List Int)) (w : World) (e : Ending) (w' : World) : Prop := ∃ v vs, e = .returned v ∧ Own2M w.heap.size w' v vs (itS s rows) ∧ Below w.heap.size w w'
set_option maxRecDepth 100000 in
set_option maxHeartbeats 8000000 in
theorem items_any {N cap : Nat} {A : Option Addr} {rows : List (List Int)} (s : Bool) (w : World) (hR : RInI N w A cap rows) (hw : ∀ l ∈ rows, ∀ x ∈ l, in64 x) :
    Calls Try.prog 19 #[.slice A rows.length cap, .bool s] w (ItPost s rows w) := by
  obtain ⟨i0, hi, hz0, hz1, hz2⟩ := info_parts infoEM
  obtain ⟨j0, hj, hy0, hy1, hy2⟩ := info_parts infoEMM
  have hle := hR.le
  have hmx := hR.mx
  have HR := Lib.hid hR
  have HWF := Lib.hid hw
  obtain ⟨n, hn0⟩ : ∃ n, rows.length = n := ⟨_, rfl⟩
  have HN := Lib.hid hn0
  rw [hn0] at hle ⊢
  clear hR hw hn0
  go_enter Try.func19, Try.ntmps19
  go_wp2
  go_loopw [5, 6] (fun v i wr => ∃ k : Nat, k ≤ n ∧ k ≤ 8 ∧ i = .int .i64 (k : Int) ∧ Hid (FilInM w wr v ((itS s rows).take k))) (fun _ i _ => 8 - (intOf i).toNat)
  case atStart => exact ⟨0, Nat.zero_le _, by omega, rfl, Lib.hid ⟨⟨[], Own2M.nil _ _⟩, Below.refl _ _⟩⟩
  case round =>
    generalize wr = W1 at *
    obtain ⟨i, hin, hi8, rfl, hI⟩ := hrel
    by_cases hlt : i < n ∧ i < 8
    · obtain ⟨hl1, hl2⟩ := hlt
      obtain ⟨l, hx⟩ : ∃ l, rows[i]? = some l := ⟨rows[i]'(by rw [HN.out]; exact hl1), List.getElem?_eq_getElem _⟩
      obtain ⟨b, o, u, rfl, e1, hRow⟩ := HR.out.at_ i l hx
      have g1 : decide ((i : Int) < (n : Int)) = true := decide_eq_true (by omega)
      have g2 : decide ((i : Int) < 8) = true := decide_eq_true (by omega)
      have hi0 : (0 : Int) ≤ (i : Int) := by omega
      have hi1 : (i : Int) < (n : Int) := by omega
      obtain ⟨A2, c2, rfl, a1, a2, a3⟩ := hRow.ex
      have E1 : Hid (∀ W, Below W1.heap.size W1 W → W.cell? ⟨b, o + i, none⟩ = some (.slice A2 l.length c2)) := Lib.hid (fun W hW => (hW.cell (p := ⟨b, o + i, none⟩) (Nat.lt_of_lt_of_le (World.block_lt_of_cell? w _ e1) hI.out.bel.size)).trans ((hI.out.bel.cell (p := ⟨b, o + i, none⟩) (World.block_lt_of_cell? w _ e1)).trans e1))
      have A3 : Hid (∀ W k x, Below W1.heap.size W1 W → l[k]? = some x → ∃ g q, A2 = some ⟨g, q, none⟩ ∧ W.cell? ⟨g, q + k, none⟩ = some (.int .i64 x) ∧ in64 x) := Lib.hid (fun W k x hW hk => by
        obtain ⟨g, q, h1, h2, h3, h4⟩ := a3 k x hk
        have h5 := h4 0 _ rfl
        rw [Nat.mul_one, Nat.add_zero] at h5
        exact ⟨g, q, h1, (hW.cell (p := ⟨g, q + k, none⟩) (Nat.lt_of_lt_of_le h3 hI.out.bel.size)).trans ((hI.out.bel.cell (p := ⟨g, q + k, none⟩) h3).trans h5), HWF.out l (List.mem_of_getElem? hx) x (List.mem_of_getElem? hk)⟩)
      have HTK := Lib.hid (take_one (itS_get s rows i l hx hl2))
      obtain ⟨m, hm⟩ : ∃ m, l.length = m := ⟨_, rfl⟩
      have HM := Lib.hid hm
      obtain ⟨vs, hO⟩ := hI.out.own
      obtain ⟨Ao, co, rfl, _, _⟩ := own_len hO.row
      have hvl : vs.length = i := by rw [hO.len, List.length_take, itS_len, HN.out]; omega
      have HVL := Lib.hid hvl
      have HO := Lib.hid hO
      have HBW := Lib.hid hI.out.bel
      rw [hm] at E1 a1
      clear hx e1 hRow a3 hm hI hO hvl
      go_wp2
      go_loopw [7, 8, 9] (fun v key k wr => ∃ (j : Nat) (ky : Int), j ≤ m ∧ j ≤ 8 ∧ k = .int .i64 (j : Int) ∧ key = .int .i64 ky ∧ 0 ≤ ky ∧ ky ≤ 16 ∧ Hid (s = true → ky = half ((l.take 8).take j)) ∧ Hid (InIt W1 wr v j ((itR s i (l.take 8)).take j))) (fun _ _ k _ => 8 - (intOf k).toNat)
      case atStart => exact ⟨0, 0, Nat.zero_le _, by omega, rfl, rfl, by omega, by omega, Lib.hid (fun _ => rfl), Lib.hid ⟨World.ownsRow_nil _ _ _ _, Below.refl _ _⟩⟩
      case round =>
        obtain ⟨j, ky, hj1, hj2, rfl, rfl, hk0, hk1, hKY, hIn⟩ := hrel
        have e1 := E1.out wr hIn.out.bel
        by_cases hjl : j < m ∧ j < 8
        · obtain ⟨hjm, hj8⟩ := hjl
          obtain ⟨x, hx⟩ : ∃ x, l[j]? = some x := ⟨l[j]'(by rw [HM.out]; exact hjm), List.getElem?_eq_getElem _⟩
          obtain ⟨g, q, rfl, x0, hwx⟩ := A3.out wr j x hIn.out.bel hx
          have g3 : decide ((j : Int) < (m : Int)) = true := decide_eq_true (by omega)
          have g4 : decide ((j : Int) < 8) = true := decide_eq_true (by omega)
          have hj0 : (0 : Int) ≤ (j : Int) := by omega
          have hj1' : (j : Int) < (m : Int) := by omega
          have KR0 := fun W => lrest_any x 5 W hwx (by omega) (by omega)
          have hq0 : 0 ≤ x % 5 := Int.emod_nonneg _ (by omega)
          have hq5 : x % 5 < 5 := Int.emod_lt_of_pos _ (by omega)
          obtain ⟨r, hr⟩ : ∃ r, x % 5 = r := ⟨_, rfl⟩
          rw [hr] at KR0 hq0 hq5
          have KR := Lib.hid KR0
          have HRR := Lib.hid hr
          have HX := Lib.hid hx
          have HOW := Lib.hid hIn.out.own
          have HBL := Lib.hid hIn.out.bel
          obtain ⟨Av, cv, rfl, _, _⟩ := own_len hIn.out.own
          clear KR0 hr hx hwx hIn
          have HX8 : Hid ((l.take 8)[j]? = some x) := Lib.hid (by rw [List.getElem?_take, if_pos hj8]; exact HX.out)
          have hkb : s = true → ky ≤ 2 * j := fun h => by
            have h1 := half_bd ((l.take 8).take j)
            rw [← hKY.out h, List.length_take] at h1
            omega
          cases s with
          | true =>
            have hkb2 := hkb rfl
            have hky0 := hKY.out rfl
            have HKY := Lib.hid hky0
            clear hkb hky0 hKY
            have HST := Lib.hid (show itK true (l.take 8) j = ky + r / 2 from by rw [itK, if_pos rfl, take_one HX8.out, half_snoc, HRR.out, ← HKY.out])
            have HP := Lib.hid (pair_new wr 54 (.int .i64 (ky + r / 2)) (.int .i64 (10 * (i : Int) + (j : Int))))
            go_upto_region 14 with (go_at_call 22; (with_reducible refine (KR.out _).mono ?_); rintro e w2 ⟨rfl, rfl⟩)
            go_wp2_with (refine wpList_append_own _ rfl _ _ 56 rfl W1.heap.size 54 i0 _ 2 16 Try.underlying56 hi hz0 hz1 hz2 rfl (by decide) _ j (cLM ((itR true i (l.take 8)).take j)) rfl (HOW.out.alloc _) ⟨wr.heap.size, 0, none⟩ 1 1 [.int .i64 (ky + r / 2), .int .i64 (10 * (i : Int) + (j : Int))] rfl rfl HP.out (pair_one _ _) (by unfold maxLen; omega) (by omega) (by have := HBL.out.size; simp; omega) ?_; intro v' w8 hown' hgrow hnil')
            go_roundw
            case rel =>
              exact ⟨j + 1, ky + r / 2, by omega, by omega, by go_num, rfl, by omega, by omega, Lib.hid (fun h => by rw [take_one HX8.out, half_snoc, HRR.out, ← HKY.out]), Lib.hid (InIt.step ⟨HOW.out, HBL.out⟩ (by rw [List.length_take, HM.out]; omega) HST.out rfl hown' hgrow)⟩
            case measure => first | (simp [intOf]; done) | (simp [intOf]; omega)
          | false =>
            clear hkb
            have HST := Lib.hid (show itK false (l.take 8) j = r from by rw [itK, if_neg (by simp), HX8.out, Option.getD_some, HRR.out])
            have HP := Lib.hid (pair_new wr 54 (.int .i64 (r)) (.int .i64 (10 * (i : Int) + (j : Int))))
            go_upto_region 14 with (go_at_call 22; (with_reducible refine (KR.out _).mono ?_); rintro e w2 ⟨rfl, rfl⟩)
            go_wp2_with (refine wpList_append_own _ rfl _ _ 56 rfl W1.heap.size 54 i0 _ 2 16 Try.underlying56 hi hz0 hz1 hz2 rfl (by decide) _ j (cLM ((itR false i (l.take 8)).take j)) rfl (HOW.out.alloc _) ⟨wr.heap.size, 0, none⟩ 1 1 [.int .i64 (r), .int .i64 (10 * (i : Int) + (j : Int))] rfl rfl HP.out (pair_one _ _) (by unfold maxLen; omega) (by omega) (by have := HBL.out.size; simp; omega) ?_; intro v' w8 hown' hgrow hnil')
            go_roundw
            case rel =>
              exact ⟨j + 1, r, by omega, by omega, by go_num, rfl, by omega, by omega, Lib.hid (fun h => by cases h), Lib.hid (InIt.step ⟨HOW.out, HBL.out⟩ (by rw [List.length_take, HM.out]; omega) HST.out rfl hown' hgrow)⟩
            case measure => first | (simp [intOf]; done) | (simp [intOf]; omega)
        · have HBL := Lib.hid hIn.out.bel
          have hjl2 : j = (l.take 8).length := by rw [List.length_take, HM.out]; omega
          obtain ⟨Av, cv, rfl, _, _⟩ := own_len hIn.out.own
          have HU : Hid (wr.ownsRow w.heap.size 54 2 (.slice Av j cv) (itR s i (l.take 8)).length (cLM (itR s i (l.take 8)))) := Lib.hid (by
            have h1 := hIn.out.own
            have h2 : (itR s i (l.take 8)).length = j := by rw [itR_len, hjl2]
            rw [List.take_of_length_le (by omega)] at h1
            rw [h2]
            exact own_monoM h1 HBW.out.size)
          have HO2 := Lib.hid (HO.out.later HBL.out)
          have HP := Lib.hid (one_new wr 56 (.slice Av j cv))
          have HSZ := Lib.hid (Nat.le_trans HBW.out.size HBL.out.size)
          clear hIn hjl2
          by_cases hjm : j < m
          · have g3 : decide ((j : Int) < (m : Int)) = true := decide_eq_true (by omega)
            have g4 : decide ((j : Int) < 8) = false := decide_eq_false (by omega)
            have g4' : decide (j < 8) = false := decide_eq_false (by omega)
            go_wp2_with (refine wpList_append_own _ rfl _ _ 47 rfl w.heap.size 56 j0 _ 1 24 Try.underlying47 hj hy0 hy1 hy2 rfl (by decide) _ vs.length vs rfl (HO2.out.row.alloc _) ⟨wr.heap.size, 0, none⟩ 1 1 [.slice Av j cv] rfl rfl HP.out (by intro v hv; simp only [List.mem_singleton] at hv; subst hv; rfl) (by have := HVL.out; unfold maxLen; omega) (by have := HVL.out; omega) (by have := HSZ.out; simp; omega) ?_; intro v' w8 hown' hgrow hnil')
            refine ⟨⟨i + 1, by omega, by omega, by go_num, ?_⟩, by first | (simp [intOf]; done) | (simp [intOf]; omega)⟩
            rw [HTK.out]
            have ba : Below wr.heap.size wr (wr.alloc (.cells #[.slice Av j cv] 56)) := (Below.refl _ _).alloc (Nat.le_refl _) _
            have hO8 := (HO2.out.later ba).push ((Kept.of [] ba).row HU.out (by simp)) hown' hgrow
            exact Lib.hid ⟨⟨_, hO8⟩, ((HBW.out.trans (HBL.out.mono HBW.out.size)).trans (ba.mono HSZ.out)).grown hgrow (by have := HSZ.out; simp; omega) (fun q hq => (HO2.out.row.lt q hq).1)⟩
          · have g3 : decide ((j : Int) < (m : Int)) = false := decide_eq_false (by omega)
            have g3' : decide (j < m) = false := decide_eq_false hjm
            go_wp2_with (refine wpList_append_own _ rfl _ _ 47 rfl w.heap.size 56 j0 _ 1 24 Try.underlying47 hj hy0 hy1 hy2 rfl (by decide) _ vs.length vs rfl (HO2.out.row.alloc _) ⟨wr.heap.size, 0, none⟩ 1 1 [.slice Av j cv] rfl rfl HP.out (by intro v hv; simp only [List.mem_singleton] at hv; subst hv; rfl) (by have := HVL.out; unfold maxLen; omega) (by have := HVL.out; omega) (by have := HSZ.out; simp; omega) ?_; intro v' w8 hown' hgrow hnil')
            refine ⟨⟨i + 1, by omega, by omega, by go_num, ?_⟩, by first | (simp [intOf]; done) | (simp [intOf]; omega)⟩
            rw [HTK.out]
            have ba : Below wr.heap.size wr (wr.alloc (.cells #[.slice Av j cv] 56)) := (Below.refl _ _).alloc (Nat.le_refl _) _
            have hO8 := (HO2.out.later ba).push ((Kept.of [] ba).row HU.out (by simp)) hown' hgrow
            exact Lib.hid ⟨⟨_, hO8⟩, ((HBW.out.trans (HBL.out.mono HBW.out.size)).trans (ba.mono HSZ.out)).grown hgrow (by have := HSZ.out; simp; omega) (fun q hq => (HO2.out.row.lt q hq).1)⟩
    · obtain ⟨vs, hO⟩ := hI.out.own
      obtain ⟨Ao, co, rfl, _, _⟩ := own_len hO.row
      have hfull : (itS s rows).take i = itS s rows := List.take_of_length_le (by rw [itS_len, HN.out]; omega)
      have HFL := Lib.hid hfull
      have HO := Lib.hid hO
      have HBW := Lib.hid hI.out.bel
      clear hO hI hfull
      by_cases hin2 : i < n
      · have g1 : decide ((i : Int) < (n : Int)) = true := decide_eq_true (by omega)
        have g2 : decide ((i : Int) < 8) = false := decide_eq_false (by omega)
        have g2' : decide (i < 8) = false := decide_eq_false (by omega)
        go_wp2
        go_ret
        have h1 := HO.out
        rw [HFL.out] at h1
        exact ⟨_, vs, rfl, h1, HBW.out⟩
      · have g1 : decide ((i : Int) < (n : Int)) = false := decide_eq_false (by omega)
        have g1' : decide (i < n) = false := decide_eq_false hin2
        go_wp2
        go_ret
        have h1 := HO.out
        rw [HFL.out] at h1
        exact ⟨_, vs, rfl, h1, HBW.out⟩
end Go.Proofs.Ytnplbmbbocffbaa
/- Rows of I merged. -/
namespace Go.Proofs.Ytnplbmbbocffbaa
open Go.RowKit Go.Shelf
set_option linter.unusedVariables false
set_option linter.unusedSimpArgs false
attribute [local go_sem] Oper.semAt_some
/-- What the iterator holds. -/
structure MgI (N : Nat) (w : World) (b1 b2 : Nat) (rs : List (List Int)) : Prop where
  ex : ∃ w1 v vs, N = w1.heap.size ∧ Below N w1 w ∧ Boxed w1 b1 45 v ∧ Own2I 0 w1 v vs rs ∧ Boxed w1 b2 62 (.func (.func 24) #[] #[])
  ne : ∀ l ∈ rs, l ≠ []
  few : rs.length ≤ 1000
theorem MgI.later {N b1 b2 : Nat} {w w' : World} {rs : List (List Int)} (h : MgI N w b1 b2 rs) (hb : Below w.heap.size w w') : MgI N w' b1 b2 rs := by
  obtain ⟨w1, v, vs, h1, h2, h3⟩ := h.ex
  exact ⟨⟨w1, v, vs, h1, h2.trans (hb.mono (by rw [h1] at h2 ⊢; exact h2.size)), h3⟩, h.ne, h.few⟩
theorem fil_neI (rs : List (List Int)) : ∀ l ∈ fil rs, l ≠ [] := fun l hl => by
  have := (List.mem_filter.1 hl).2
  intro h
  subst h
  simp at this
section
attribute [local go_sem ↓] Go.wp_at_zero Go.wp_at_succ
set_option maxRecDepth 100000 in
set_option maxHeartbeats 2000000 in
theorem mergeI {N cap : Nat} {A : Option Addr} {rs : List (List Int)} (w : World) (hR : RInI N w A cap rs) (hn : rs.length ≤ 1000) (hl : ∀ l ∈ rs, l.length ≤ 1000) :
    Calls Try.prog 23 #[.func (.func 24) #[] #[], .slice A rs.length cap] w fun e w' => ∃ b1 b2, e = .returned (.func (.func 48) #[] #[.pointer (some ⟨b1, 0, none⟩), .pointer (some ⟨b2, 0, none⟩)]) ∧ MgI w'.heap.size w' b1 b2 (fil rs) ∧ Below w.heap.size w w' := by
  have hb0 : Below w.heap.size w (w.alloc (.cells #[.func (.func 24) #[] #[]] 62)) := (Below.refl _ _).alloc (Nat.le_refl _) _
  have PF := filI_any (w.alloc (.cells #[.func (.func 24) #[] #[]] 62)) (hR.later hb0) hn hl
  have HP := Lib.hid PF
  have HB0 := Lib.hid hb0
  have HF : Hid ((fil rs).length ≤ 1000) := Lib.hid (by
    have : (fil rs).length ≤ rs.length := List.length_filter_le _ _
    omega)
  generalize rs.length = n at *
  clear hR hl PF hb0
  go_enter Try.func23, Try.ntmps23
  go_wp2_with (go_at_call 47; (with_reducible refine HP.out.mono ?_); rintro e w1 ⟨v, vs, rfl, hO, hB1⟩; have HO := Lib.hid hO; have HB1 := Lib.hid hB1; obtain ⟨Av, cv, rfl, _, _⟩ := own_len hO.row; clear hO hB1)
  go_ret
  have hsz := HB1.out.size
  simp only [World.size_alloc] at hsz
  have hbx := Boxed.new w 62 (.func (.func 24) #[] #[])
  have hba : Below w1.heap.size w1 (w1.alloc (.cells #[.slice Av vs.length cv] 45)) := (Below.refl _ _).alloc (Nat.le_refl _) _
  have hO2 := HO.out.later hba
  refine ⟨_, _, rfl, ⟨⟨_, .slice Av vs.length cv, vs, rfl, Below.refl _ _, Boxed.new _ _ _, ⟨own_mono hO2.row (Nat.zero_le _), hO2.len, fun i u l hu hl => own_mono (hO2.each i u l hu hl) (Nat.zero_le _)⟩, ?_⟩, fil_neI rs, HF.out⟩, ?_⟩
  · exact (hba.block _ (by omega)).trans ((HB1.out.block _ (by simp)).trans hbx)
  · exact (HB0.out.trans (HB1.out.mono (by simp))).trans (hba.mono (by omega))
end
/-- What is left. -/
structure LeftI (N B0 : Nat) (w : World) (v : Value) (rs : List (List Int)) : Prop where
  ex : ∃ vs, w.ownsRow B0 34 1 v vs.length vs ∧ vs.length = rs.length ∧ ∀ (i : Nat) (u : Value) (l : List Int), vs[i]? = some u → rs[i]? = some l → RowAtI N w u l
section
variable {N B0 : Nat} {w w' : World} {v : Value} {rs : List (List Int)}
theorem LeftI.keep {X : List Nat} (h : LeftI N B0 w v rs) (hk : KeepC X w w') (hX : ∀ k ∈ X, N ≤ k ∧ k < B0) : LeftI N B0 w' v rs := by
  obtain ⟨vs, h1, h2, h3⟩ := h.ex
  refine ⟨vs, hk.row h1 (fun g hg hm => ?_), h2, fun i u l hu hl => (h3 i u l hu hl).keep hk (fun k hk => (hX k hk).1)⟩
  have := (h1.lt g hg).1
  have := (hX g hm).2
  omega
theorem LeftI.later (h : LeftI N B0 w v rs) (hb : Below w.heap.size w w') : LeftI N B0 w' v rs := h.keep (KeepC.below (X := []) hb) (by simp)
theorem LeftI.rws {g cap : Nat} (h : LeftI N B0 w (.slice (some ⟨g, 0, none⟩) rs.length cap) rs) : RwsI N w g 0 rs := ⟨fun i l hl => by
  obtain ⟨vs, h1, h2, h3⟩ := h.ex
  have hi := (List.getElem?_eq_some_iff.1 hl).1
  obtain ⟨u, hu⟩ : ∃ u, vs[i]? = some u := ⟨vs[i]'(by omega), List.getElem?_eq_getElem _⟩
  rw [Nat.zero_add]
  exact ⟨u, own_cell h1 (g := g) rfl hu, h3 i u l hu hl⟩⟩
/-- One row's rest is stored. -/
theorem LeftI.set {g cap i : Nat} {u : Value} {xs : List Int} (h : LeftI N B0 w (.slice (some ⟨g, 0, none⟩) rs.length cap) rs) (hi : i < rs.length) (hu : RowAtI N w u xs) (hN : N ≤ B0) : LeftI N B0 (w.setCell ⟨g, i, none⟩ u) (.slice (some ⟨g, 0, none⟩) rs.length cap) (rs.set i xs) := by
  obtain ⟨vs, h1, h2, h3⟩ := h.ex
  have hgB := (h1.lt g rfl).1
  have hk : KeepC [g] w (w.setCell ⟨g, i, none⟩ u) := KeepC.kept ((Kept.refl [g] w).set g i u (by simp))
  refine ⟨vs.set i u, ?_, by simp [h2], fun j a l ha hl => ?_⟩
  · have := own_set h1 (g := g) rfl (i := i) (by omega) u
    rwa [List.length_set]
  · by_cases hj : i = j
    · subst hj
      rw [List.getElem?_set_self (by omega)] at ha hl
      cases ha; cases hl
      exact hu.keep hk (fun k hk2 => by simp at hk2; omega)
    · rw [List.getElem?_set_ne hj] at ha hl
      exact (h3 j a l ha hl).keep hk (fun k hk2 => by simp at hk2; omega)
end
end Go.Proofs.Ytnplbmbbocffbaa
/- The iterator over rows of I merged. -/
namespace Go.Proofs.Ytnplbmbbocffbaa
open Go.RowKit Go.Shelf
set_option linter.unusedVariables false
set_option linter.unusedSimpArgs false
attribute [local go_sem] Oper.semAt_some
theorem LeftI.pick {N B0 g cap i : Nat} {w : World} {rs : List (List Int)} {x : Int} {xs : List Int} (h : LeftI N B0 w (.slice (some ⟨g, 0, none⟩) rs.length cap) rs) (hx : rs[i]? = some (x :: xs)) :
    ∃ g1 q1 c1, w.cell? ⟨g, i, none⟩ = some (.slice (some ⟨g1, q1, none⟩) (xs.length + 1) c1) ∧ w.frozen? ⟨g, i, none⟩ = false ∧ xs.length + 1 ≤ c1 ∧ c1 ≤ 9223372036854775807 ∧ g1 < N ∧ g1 < w.heap.size ∧ (∀ j u, (cEI x)[j]? = some u → w.cell? ⟨g1, q1 + j, none⟩ = some u) ∧ RowAtI N w (.slice (some ⟨g1, q1, none⟩) (xs.length + 1) c1) (x :: xs) := by
  obtain ⟨vs, h1, h2, h3⟩ := h.ex
  have hi := (List.getElem?_eq_some_iff.1 hx).1
  obtain ⟨u, hu⟩ : ∃ u, vs[i]? = some u := ⟨vs[i]'(by omega), List.getElem?_eq_getElem _⟩
  have hr := h3 i u _ hu hx
  obtain ⟨g1, q1, c1, rfl, a1, a2, a3, a4, a5⟩ := hr.head
  refine ⟨g1, q1, c1, own_cell h1 (g := g) rfl hu, ?_, a1, a2, a3, a4, a5, hr⟩
  rcases h1.2 with ⟨h0, _⟩ | ⟨g', cap', cur, e, _, hh, _⟩
  · cases h0
  · simp only [Value.slice.injEq, Option.some.injEq, Addr.mk.injEq] at e
    obtain ⟨⟨rfl, _⟩, _, _⟩ := e
    exact frozen_of_row w g i _ _ hh
theorem LeftI.form {N B0 : Nat} {w : World} {v : Value} {rs : List (List Int)} (h : LeftI N B0 w v rs) : ∃ A cap, v = .slice A rs.length cap ∧ (rs ≠ [] → ∃ g, A = some ⟨g, 0, none⟩ ∧ B0 ≤ g ∧ g < w.heap.size ∧ ∃ cs, w.heap[g]? = some (.cells cs 34 (0, 0))) := by
  obtain ⟨vs, h1, h2, h3⟩ := h.ex
  rcases h1.2 with ⟨hv, h0⟩ | ⟨g, cap, cur, hv, hb, hh, _⟩
  · refine ⟨none, 0, by rw [hv, ← h2, h0], fun hne => ?_⟩
    exact absurd (List.eq_nil_of_length_eq_zero (by omega)) hne
  · exact ⟨_, cap, by rw [hv, h2], fun _ => ⟨g, rfl, hb, (Array.getElem?_eq_some_iff.1 hh).1, cur, hh⟩⟩
theorem RowAtI.keepN {N B : Nat} {T : TypeId} {w w' : World} {v : Value} {l : List Int} (h : RowAtI N w v l) (hk : KeepN (· < N) T B w w') : RowAtI N w' v l := by
  obtain ⟨A, cap, e, h1, h2, h3⟩ := h.ex
  refine ⟨A, cap, e, h1, h2, fun i x hx => ?_⟩
  obtain ⟨g, q, a1, a2, a3, a4⟩ := h3 i x hx
  exact ⟨g, q, a1, a2, Nat.lt_of_lt_of_le a3 hk.size, fun j u hu => hk.cell (a4 j u hu) a2⟩
theorem LeftI.keepN {N B0 : Nat} {w w' : World} {v : Value} {rs : List (List Int)} (h : LeftI N B0 w v rs) (hk : KeepN (· < N) 34 B0 w w') : LeftI N B0 w' v rs := by
  obtain ⟨vs, h1, h2, h3⟩ := h.ex
  exact ⟨vs, hk.row h1 (Nat.le_refl _), h2, fun i u l hu hl => (h3 i u l hu hl).keepN hk⟩
/-- One row is taken out. -/
theorem del_leftI {N B0 g cap i : Nat} {rs : List (List Int)} (w : World) (h : LeftI N B0 w (.slice (some ⟨g, 0, none⟩) rs.length cap) rs) (hi : i < rs.length) (hN : N ≤ B0) :
    Calls Try.prog 51 #[.slice (some ⟨g, 0, none⟩) rs.length cap, .int .i64 (i : Int), .int .i64 ((i : Int) + 1)] w fun e w' => e = .returned (.slice (some ⟨g, 0, none⟩) (rs.length - 1) cap) ∧ LeftI N B0 w' (.slice (some ⟨g, 0, none⟩) (rs.length - 1) cap) (rs.eraseIdx i) ∧ Kept [g] w w' := by
  obtain ⟨vs, h1, h2, h3⟩ := h.ex
  have hgB := (h1.lt g rfl).1
  rw [← h2] at hi ⊢
  have h1' : w.ownsRow B0 34 1 (.slice (some ⟨g, 0, none⟩) vs.length cap) vs.length vs := by rw [h2] at h1 ⊢; exact h1
  refine Calls.mono (delI w h1' (fun v hv => ?_) hi) ?_
  · obtain ⟨j, hj, rfl⟩ := List.getElem_of_mem hv
    obtain ⟨A, c, e, _⟩ := (h3 j _ rs[j] (List.getElem?_eq_getElem hj) (List.getElem?_eq_getElem (by omega))).ex
    exact ⟨(A, _, c), e⟩
  · rintro e w' ⟨rfl, hO, hK⟩
    refine ⟨rfl, ⟨vs.eraseIdx i, ?_, by rw [List.length_eraseIdx, List.length_eraseIdx, h2], fun j a l ha hl => ?_⟩, hK⟩
    · rw [List.length_eraseIdx, if_pos hi]; exact hO
    · rw [List.getElem?_eraseIdx] at ha hl
      have hk : KeepC [g] w w' := KeepC.kept hK
      split at ha
      · rename_i hji
        rw [if_pos hji] at hl
        exact (h3 j a l ha hl).keep hk (fun k hk2 => by simp at hk2; omega)
      · rename_i hji
        rw [if_neg hji] at hl
        exact (h3 (j + 1) a l ha hl).keep hk (fun k hk2 => by simp at hk2; omega)
set_option maxRecDepth 100000 in
set_option maxHeartbeats 8000000 in
theorem seqnI (n : Nat) (hn1 : 1 ≤ n) {N b1 b2 : Nat} {rs : List (List Int)} {w0 : World} (hM : MgI N w0 b1 b2 rs) :
    SeqN 34 (fun x : Int => #[(.int .i64 x : Value)]) n 48 #[.pointer (some ⟨b1, 0, none⟩), .pointer (some ⟨b2, 0, none⟩)] (· < N) (mrg keyI rs) w0 := by
  intro l J Jx W hW hJB hY hJ
  have hM2 := hM.later hW
  obtain ⟨w1, v, vs, hNw, hB1, x1, hO, x2⟩ := hM2.ex
  have hB1' : Below w1.heap.size w1 W := by rw [← hNw]; exact hB1
  have y1 : Boxed W b1 45 v := (hB1'.block b1 x1.lt).trans x1
  have y2 : Boxed W b2 62 (.func (.func 24) #[] #[]) := (hB1'.block b2 x2.lt).trans x2
  have hb2 : b2 < N := by rw [hNw]; exact x2.lt
  have hNW : N ≤ W.heap.size := by rw [hNw]; exact hB1'.size
  have hOW := hO.later hB1'
  have hrows : ∀ (i : Nat) (u : Value) (l : List Int), vs[i]? = some u → rs[i]? = some l → RowAtI N W u l := fun i u l hu hl => by
    rw [hNw]; exact (own_rowAtI (hO.each i u l hu hl)).later hB1'
  have hvs1 : ∀ u ∈ vs, u.oneCell' = true := fun u hu => by
    obtain ⟨j, hj, rfl⟩ := List.getElem_of_mem hu
    obtain ⟨A, c, e, _⟩ := (hrows j _ (rs[j]'(by rw [← hO.len]; exact hj)) (List.getElem?_eq_getElem hj) (List.getElem?_eq_getElem (by rw [← hO.len]; exact hj))).ex
    rw [e]; rfl
  have CL : Calls Try.prog 49 #[v] W (ClonePII vs.length vs W) := by
    rcases hOW.row.2 with ⟨rfl, h0⟩ | ⟨g, cap, cur, rfl, _, hh, _⟩
    · have : vs = [] := List.eq_nil_of_length_eq_zero h0
      subst this
      exact cloneNilII W
    · exact cloneII g 0 _ cap vs W (fun j u hu => by rw [Nat.zero_add]; exact own_cell hOW.row (g := g) rfl hu) (by rw [Nat.mul_one]) hvs1 (by rw [hO.len]; have := hM.few; omega) (Array.getElem?_eq_some_iff.1 hh).1
  have c1 := y1.cell
  have c2 := y2.cell
  have HCL := Lib.hid CL
  have HY := Lib.hid hY
  have HJ := Lib.hid hJ
  have HB := Lib.hid hJB
  have HRS := Lib.hid (show vs.length = rs.length from hO.len)
  have HRW := Lib.hid hrows
  have HNE := Lib.hid hM.ne
  have HFW := Lib.hid hM.few
  have HY2 := Lib.hid y2
  have HNW := Lib.hid hNW
  have HB2 := Lib.hid hb2
  clear hW hJB hY hJ hM hM2 hNw hB1 hB1' x1 hO x2 y1 y2 hOW hrows hvs1 CL hNW hb2
  refine callsIn_of_wp Try.func48 rfl trivial ?_ rfl
  simp only [Try.ntmps48, List.size_toArray, List.length_cons, List.length_nil, Nat.reduceAdd, Nat.reduceSub, Array.replicate_succ, Array.replicate_zero, List.push_toArray, List.append_toArray, List.nil_append, List.cons_append]
  gi_wp2_with (refine ⟨trivial, ?_⟩; gi_at_call 49; refine (callsIn_wide.2 HCL.out).mono ?_; rintro e w1 ⟨v0, rfl, ho, hB1⟩; have HL0 : Hid (LeftI N W.heap.size w1 v0 rs) := Lib.hid ⟨⟨vs, ho, HRS.out, fun i u l hu hl => (HRW.out i u l hu hl).later hB1⟩⟩; have HJ1 := Lib.hid (HB.out _ _ _ HJ.out (KeptT.below hB1)); have HY2 := Lib.hid ((hB1.block b2 HY2.out.lt).trans HY2.out); have HSZ := Lib.hid hB1.size; clear ho hB1)
  gi_loopg [4] (tot rs + 1) (fun m v4 wr => ∃ (pre : List Int) (r : List (List Int)), tot r < m ∧ Hid (mrg keyI rs = pre ++ mrg keyI r) ∧ Hid (J pre wr) ∧ Hid (LeftI N W.heap.size wr v4 r) ∧ Hid (Boxed wr b2 62 (.func (.func 24) #[] #[])) ∧ Hid (W.heap.size ≤ wr.heap.size) ∧ Hid (∀ l ∈ r, l ≠ []) ∧ Hid (r.length ≤ 1000))
  case atStart => exact ⟨[], rs, by omega, Lib.hid rfl, HJ1, HL0, HY2, HSZ, HNE, HFW⟩
  case round =>
    obtain ⟨pre, r, hm, hL, hJ1, hLf, hY2, hSz, hNe, hFw⟩ := hrel
    clear HJ1 HL0 HJ c1 c2
    obtain ⟨A, cap, rfl, hform⟩ := hLf.out.form
    have k2 := hY2.out.cell
    by_cases h0 : r = []
    · subst h0
      gi_wp2
      go_end0
      refine ⟨⟨_, rfl⟩, .inl ?_⟩
      have e := hL.out
      rw [show mrg keyI ([] : List (List Int)) = [] from rfl, List.append_nil] at e
      rw [e]
      exact hJ1.out
    · obtain ⟨g, rfl, hgB, hgl, cs, hgc⟩ := hform h0
      have h1 : 1 ≤ r.length := by
        cases r with
        | nil => exact absurd rfl h0
        | cons _ _ => simp
      have PF := firstI (cap := cap) wr hLf.out.rws rfl h1 hNe.out (by have := hFw.out; omega)
      have HPF := Lib.hid PF
      have hz : (0 : Int) < (r.length : Int) := by omega
      have HGC := Lib.hid hgc
      have HGB := Lib.hid hgB
      have HGL := Lib.hid hgl
      obtain ⟨nr, hnr⟩ : ∃ nr, r.length = nr := ⟨_, rfl⟩
      have HNR := Lib.hid hnr
      rw [hnr] at hz HPF hLf
      clear PF h1 h0 hform hgc hgB hgl
      simp only [hnr]
      clear hnr
      gi_upto_region 3 with (refine ⟨trivial, ?_⟩; gi_at_call 50; refine (callsIn_wide.2 HPF.out).mono ?_; rintro e w1 ⟨i, x, xs, rfl, hF, hB1⟩; have HF := Lib.hid hF; have HB1 := Lib.hid hB1; clear hF hB1)
      have HJ2 := Lib.hid (HB.out _ _ _ hJ1.out (KeptT.below HB1.out))
      have HL2 := Lib.hid (hLf.out.later HB1.out)
      have HL2 : Hid (LeftI N W.heap.size w1 (.slice (some ⟨g, 0, none⟩) r.length cap) r) := Lib.hid (by rw [HNR.out]; exact HL2.out)
      have HG2 : Hid (w1.heap[g]? = some (.cells cs 34 (0, 0))) := Lib.hid ((HB1.out.block g HGL.out).trans HGC.out)
      have HY3 : Hid (Boxed w1 b2 62 (.func (.func 24) #[] #[])) := Lib.hid ((HB1.out.block b2 hY2.out.lt).trans hY2.out)
      have HSZ2 := Lib.hid (Nat.le_trans hSz.out HB1.out.size)
      obtain ⟨g1, q1, c1, e1, f1, a1, a2, a3, a4, x0, hr⟩ := HL2.out.pick HF.out.at_
      have hi : i < nr := by have := (List.getElem?_eq_some_iff.1 HF.out.at_).1; rw [HNR.out] at this; exact this
      have ii0 : (0 : Int) ≤ (i : Int) := by omega
      have ii1 : (i : Int) < (nr : Int) := by omega
      have hz1 : (0 : Int) < ((xs.length + 1 : Nat) : Int) := by omega
      have HRow := Lib.hid hr
      have HX0 := Lib.hid x0
      have x00 : w1.cell? ⟨g1, q1, none⟩ = some (.int .i64 x) := HX0.out 0 _ rfl
      clear hr HPF HGC HGL HGB hY2 hLf hJ1 hSz k2 x0
      gi_upto_region 4 with (fail)
      have HBB := Lib.hid (Below.refl w1.heap.size w1)
      have e2 := (HBB.out.cell (p := ⟨g, i, none⟩) (World.block_lt_of_cell? w1 _ e1)).trans e1
      have f2 : w1.frozen? ⟨g, i, none⟩ = false := by
        have : w1.heap[g]? = some (.cells cs 34 (0, 0)) := (HBB.out.block g (Array.getElem?_eq_some_iff.1 HG2.out).1).trans HG2.out
        exact frozen_of_row w1 g i _ _ this
      have HA1 := Lib.hid a1
      have HA4 := Lib.hid a4
      clear e1 f1
      gi_upto_region 5 with (fail)
      generalize hAt : (if c1 = 1 then some (⟨g1, q1, none⟩ : Addr) else some ⟨g1, q1 + 1, none⟩) = At at *
      have HAt : Hid (0 < xs.length → At = some ⟨g1, q1 + 1, none⟩) := Lib.hid (fun h => by rw [← hAt, if_neg (by have := HA1.out; omega)])
      have hgl2 : g < w1.heap.size := (Array.getElem?_eq_some_iff.1 HG2.out).1
      have hgB : W.heap.size ≤ g := by
        obtain ⟨vs', h1', _⟩ := HL2.out.ex
        exact (h1'.lt g rfl).1
      have HTl := Lib.hid ((HRow.out.later HBB.out).tail HAt.out)
      have HL3 := Lib.hid ((HL2.out.later HBB.out).set (by rw [HNR.out]; exact hi) HTl.out HNW.out)
      have HK3 := Lib.hid ((Kept.refl [g] w1).set g i (.slice At xs.length (c1 - 1)) (by simp))
      have HG3 : Hid (w1.heap[g]? = some (.cells cs 34 (0, 0))) := Lib.hid ((HBB.out.block g hgl2).trans HG2.out)
      have HJ3 := Lib.hid (HB.out _ _ _ (HB.out _ _ _ HJ2.out (KeptT.below HBB.out)) (KeptT.kept HK3.out (fun k hk => by simp only [List.mem_singleton] at hk; subst hk; exact ⟨hgB, cs, _, HG3.out⟩)))
      have HY4 : Hid (Boxed (w1.setCell ⟨g, i, none⟩ (.slice At xs.length (c1 - 1))) b2 62 (.func (.func 24) #[] #[])) := Lib.hid ((HK3.out.block b2 (Nat.lt_of_lt_of_le HY3.out.lt HBB.out.size) (by have := HB2.out; have := HNW.out; simp; omega)).trans ((HBB.out.block b2 HY3.out.lt).trans HY3.out))
      have e3 := World.cell?_setCell_same _ _ (.slice At xs.length (c1 - 1)) e2
      have HSZ3 := Lib.hid (Nat.le_trans (Nat.le_trans HSZ2.out HBB.out.size) HK3.out.size)
      have HG4 : Hid (∃ cs', (w1.setCell ⟨g, i, none⟩ (.slice At xs.length (c1 - 1))).heap[g]? = some (.cells cs' 34 (0, 0))) := Lib.hid ⟨_, heap_setCell_same _ _ _ _ _ _ HG3.out⟩
      have HNX := Lib.hid (mrg_next keyI HF.out)
      have HPT := Lib.hid (pick_tot keyI r x _ (pick_at keyI r i x xs HF.out))
      have HGL2 := Lib.hid hgl2
      have HGB := Lib.hid hgB
      have HI := Lib.hid hi
      have HNES : Hid (∀ l ∈ r.set i xs, l = xs ∨ l ≠ []) := Lib.hid (fun l hl => by
        rcases List.mem_or_eq_of_mem_set hl with h | h
        · exact .inr (hNe.out l h)
        · exact .inl h)
      clear hAt e2 f2 hgl2 hgB hi
      generalize hW3 : w1.setCell ⟨g, i, none⟩ (.slice At xs.length (c1 - 1)) = W3 at *
      have HW3 := Lib.hid hW3
      clear hW3
      by_cases hxs : xs = []
      · have hx0 : xs.length = 0 := by rw [hxs]; rfl
        have DL := del_leftI (cap := cap) (rs := r.set i xs) W3 (by rw [List.length_set]; exact HL3.out) (by rw [List.length_set, HNR.out]; exact HI.out) HNW.out
        rw [List.length_set, HNR.out] at DL
        have HDL := Lib.hid DL
        have hwi : wrap64 ((i : Int) + 1) = (i : Int) + 1 := IntWalk.wrap64_in _ (by have := HI.out; have := hFw.out; have := HNR.out; omega)
        have HXS := Lib.hid hxs
        have HM2 : Hid (mrg keyI ((r.set i xs).eraseIdx i) = mrg keyI (r.set i xs)) := Lib.hid (by
          rw [mrg_gone keyI (by rw [List.length_set, HNR.out]; exact HI.out), List.set_set, HXS.out])
        rw [hx0] at e3
        clear DL hxs HTl HRow HL3
        rw [hx0]
        gi_wp2_with (refine ⟨trivial, ?_⟩; gi_at_call 51; go_loud ((with_reducible refine (callsIn_wide.2 HDL.out).mono ?_); rintro e w4 ⟨rfl, hL4, hK4⟩; have HL4 := Lib.hid hL4; have HK4 := Lib.hid hK4; have HJ4 := Lib.hid (HB.out _ _ _ HJ3.out (KeptT.kept hK4 (fun k hk => by simp only [List.mem_singleton] at hk; subst hk; exact ⟨HGB.out, HG4.out.choose, _, HG4.out.choose_spec⟩))); have HY5 : Hid (Boxed w4 b2 62 (.func (.func 24) #[] #[])) := (Lib.hid ((hK4.block b2 HY4.out.lt (by have := HB2.out; have := HNW.out; have := HGB.out; simp; omega)).trans HY4.out)); have HSZ4 := Lib.hid (Nat.le_trans HSZ3.out hK4.size); have HLE : Hid (mrg keyI rs = pre ++ x :: mrg keyI ((r.set i xs).eraseIdx i)) := Lib.hid (by rw [hL.out, HNX.out, HM2.out]); clear hL4 hK4; obtain ⟨fn, tmps, assign, body, hy, hRd⟩ := HY.out pre x (mrg keyI ((r.set i xs).eraseIdx i)) _ HJ4.out HLE.out; try dsimp only at hy))
        refine hRd.mono ?_
        rintro e W5 (⟨rfl, hJ5, hk5⟩ | ⟨rfl, hJx5⟩)
        · have HL5 := Lib.hid (HL4.out.keepN hk5)
          have HY6 : Hid (Boxed W5 b2 62 (.func (.func 24) #[] #[])) := Lib.hid (hk5.box HY5.out HB2.out)
          have HSZ5 := Lib.hid (Nat.le_trans HSZ4.out hk5.size)
          have HJ5 := Lib.hid hJ5
          have HLE5 : Hid (mrg keyI rs = (pre ++ [x]) ++ mrg keyI ((r.set i xs).eraseIdx i)) := Lib.hid (by rw [HLE.out]; simp)
          have htot : tot ((r.set i xs).eraseIdx i) + 1 = tot r := (by have h1 := mrg_len keyI _ ((r.set i xs).eraseIdx i) (Nat.le_refl _); have h2 := mrg_len keyI _ (r.set i xs) (Nat.le_refl _); rw [HM2.out, h2] at h1; have h3 := HPT.out; omega)
          have HTOT := Lib.hid htot
          clear hJ5 hk5 hy hRd htot
          gi_wp2
          gi_roundg (tot ((r.set i xs).eraseIdx i) + 1)
          case measure => have := HTOT.out; omega
          case rel => exact ⟨pre ++ [x], ((r.set i xs).eraseIdx i), Nat.lt_succ_self _, HLE5, HJ5, HL5, HY6, HSZ5, Lib.hid (fun l hl => by rw [List.eraseIdx_set_eq] at hl; exact hNe.out l (List.mem_of_mem_eraseIdx hl)), Lib.hid (by rw [List.length_eraseIdx]; split <;> simp only [List.length_set] <;> have := hFw.out <;> omega)⟩
        · clear hy hRd
          gi_wp2
          refine bodyPost_ret (results_none rfl _ _ _) rfl ?_
          exact ⟨⟨_, rfl⟩, .inr ⟨pre, x, _, HLE.out, hJx5⟩⟩
      · have HXS := Lib.hid hxs
        have hx0 : (((xs.length : Nat) : Int) == 0) = false := by
          rw [beq_eq_false_iff_ne]
          have : xs.length ≠ 0 := fun h => hxs (List.eq_nil_of_length_eq_zero h)
          omega
        have HL4 : Hid (LeftI N W.heap.size W3 (.slice (some ⟨g, 0, none⟩) nr cap) (r.set i xs)) := Lib.hid (by have := HL3.out; rw [HNR.out] at this; exact this)
        have HY5 := HY4
        have HSZ4 := HSZ3
        have HLE : Hid (mrg keyI rs = pre ++ x :: mrg keyI (r.set i xs)) := Lib.hid (by rw [hL.out, HNX.out])
        obtain ⟨fn, tmps, assign, body, hy, hRd⟩ := HY.out pre x (mrg keyI (r.set i xs)) _ HJ3.out HLE.out
        try dsimp only at hy
        clear hxs HTl HRow HL3
        gi_wp2
        refine hRd.mono ?_
        rintro e W5 (⟨rfl, hJ5, hk5⟩ | ⟨rfl, hJx5⟩)
        · have HL5 := Lib.hid (HL4.out.keepN hk5)
          have HY6 : Hid (Boxed W5 b2 62 (.func (.func 24) #[] #[])) := Lib.hid (hk5.box HY5.out HB2.out)
          have HSZ5 := Lib.hid (Nat.le_trans HSZ4.out hk5.size)
          have HJ5 := Lib.hid hJ5
          have HLE5 : Hid (mrg keyI rs = (pre ++ [x]) ++ mrg keyI (r.set i xs)) := Lib.hid (by rw [HLE.out]; simp)
          have htot : tot (r.set i xs) + 1 = tot r := HPT.out.symm
          have HTOT := Lib.hid htot
          clear hJ5 hk5 hy hRd htot
          gi_wp2
          gi_roundg (tot (r.set i xs) + 1)
          case measure => have := HTOT.out; omega
          case rel => exact ⟨pre ++ [x], (r.set i xs), Nat.lt_succ_self _, HLE5, HJ5, HL5, HY6, HSZ5, Lib.hid (fun l hl => by rcases HNES.out l hl with h | h; exact (fun e => HXS.out (h.symm.trans e)); exact h), Lib.hid (by rw [List.length_set]; exact hFw.out)⟩
        · clear hy hRd
          gi_wp2
          refine bodyPost_ret (results_none rfl _ _ _) rfl ?_
          exact ⟨⟨_, rfl⟩, .inr ⟨pre, x, _, HLE.out, hJx5⟩⟩
theorem seqI (n : Nat) (hn1 : 1 ≤ n) {N b1 b2 : Nat} {X : List Nat} {rs : List (List Int)} {w0 : World} (hM : MgI N w0 b1 b2 rs) (hX : ∀ k ∈ X, N ≤ k ∧ k < w0.heap.size) :
    SeqT 34 (fun x : Int => #[(.int .i64 x : Value)]) n 48 #[.pointer (some ⟨b1, 0, none⟩), .pointer (some ⟨b2, 0, none⟩)] X (mrg keyI rs) w0 := (seqnI n hn1 hM).toT (fun k hk => ⟨by have := (hX k hk).1; omega, (hX k hk).2⟩)
end Go.Proofs.Ytnplbmbbocffbaa
/- The order of jobs: what is compared. -/
namespace Go.Proofs.Ytnplbmbbocffbaa
open Go.RowKit Go.Shelf Go.Lib Go.Sort
set_option linter.unusedVariables false
set_option linter.unusedSimpArgs false
attribute [local go_sem ↓] Go.wp_at_zero Go.wp_at_succ
theorem cmp64_any (x y : Int) (w : World) : Calls Try.prog 55 #[.int .i64 x, .int .i64 y] w fun e w' => e = .returned (.int .i64 (Lib.compareInt x y)) ∧ w' = w := by
  unfold Lib.compareInt
  by_cases h1 : x < y
  · have t1 : decide (x < y) = true := decide_eq_true h1
    rw [if_pos h1]
    clear h1
    go_enter Try.func55, Try.ntmps55
    go_wp2
    go_ret
    exact ⟨rfl, rfl⟩
  · have t1 : decide (x < y) = false := decide_eq_false h1
    rw [if_neg h1]
    by_cases h2 : x > y
    · have t2 : decide (x > y) = true := decide_eq_true h2
      have t3 : decide (y < x) = true := decide_eq_true h2
      rw [if_pos h2]
      clear h1 h2
      go_enter Try.func55, Try.ntmps55
      go_wp2
      go_ret
      exact ⟨rfl, rfl⟩
    · have t2 : decide (x > y) = false := decide_eq_false h2
      have t3 : decide (y < x) = false := decide_eq_false h2
      rw [if_neg h2]
      clear h1 h2
      go_enter Try.func55, Try.ntmps55
      go_wp2
      go_ret
      exact ⟨rfl, rfl⟩
theorem cmpI_any (x y : Int) (w : World) : Calls Try.prog 56 #[.int .i64 x, .int .i64 y] w fun e w' => e = .returned (.int .i64 (Lib.compareInt x y)) ∧ w' = w := by
  unfold Lib.compareInt
  by_cases h1 : x < y
  · have t1 : decide (x < y) = true := decide_eq_true h1
    rw [if_pos h1]
    clear h1
    go_enter Try.func56, Try.ntmps56
    go_wp2
    go_ret
    exact ⟨rfl, rfl⟩
  · have t1 : decide (x < y) = false := decide_eq_false h1
    rw [if_neg h1]
    by_cases h2 : x > y
    · have t2 : decide (x > y) = true := decide_eq_true h2
      have t3 : decide (y < x) = true := decide_eq_true h2
      rw [if_pos h2]
      clear h1 h2
      go_enter Try.func56, Try.ntmps56
      go_wp2
      go_ret
      exact ⟨rfl, rfl⟩
    · have t2 : decide (x > y) = false := decide_eq_false h2
      have t3 : decide (y < x) = false := decide_eq_false h2
      rw [if_neg h2]
      clear h1 h2
      go_enter Try.func56, Try.ntmps56
      go_wp2
      go_ret
      exact ⟨rfl, rfl⟩
set_option maxRecDepth 100000 in
set_option maxHeartbeats 2000000 in
theorem or_any (g : Nat) (a b : Int) (w : World) (h0 : w.cell? ⟨g, 0, none⟩ = some (.int .i64 a)) (h1 : w.cell? ⟨g, 1, none⟩ = some (.int .i64 b)) :
    Calls Try.prog 54 #[.slice (some ⟨g, 0, none⟩) 2 2] w fun e w' => e = .returned (.int .i64 (if a = 0 then b else a)) ∧ w' = w := by
  by_cases ha : a = 0
  · subst ha
    rw [if_pos rfl]
    by_cases hb : b = 0
    · subst hb
      go_enter Try.func54, Try.ntmps54
      go_wp2
      go_loopw [8] (fun i wr => ∃ k : Nat, k ≤ 2 ∧ i = .int .i64 (k : Int) ∧ wr = w) (fun i _ => 2 - (intOf i).toNat)
      case atStart => exact ⟨0, by omega, rfl, rfl⟩
      case round =>
        obtain ⟨k, hk, rfl, rfl⟩ := hrel
        rcases (show k = 0 ∨ k = 1 ∨ k = 2 by omega) with rfl | rfl | rfl
        · go_wp2
          refine ⟨⟨1, by omega, by go_num, by first | rfl | trivial⟩, by first | (simp [intOf]; done) | omega⟩
        · go_wp2
          refine ⟨⟨2, by omega, by go_num, by first | rfl | trivial⟩, by first | (simp [intOf]; done) | omega⟩
        · go_wp2
          go_ret
          exact ⟨rfl, rfl⟩
    · have tb : (b == 0) = false := by simpa using hb
      have tb2 : (b != 0) = true := by simpa using hb
      clear hb
      go_enter Try.func54, Try.ntmps54
      go_wp2
      go_loopw [8] (fun i wr => ∃ k : Nat, k ≤ 1 ∧ i = .int .i64 (k : Int) ∧ wr = w) (fun i _ => 2 - (intOf i).toNat)
      case atStart => exact ⟨0, by omega, rfl, rfl⟩
      case round =>
        obtain ⟨k, hk, rfl, rfl⟩ := hrel
        rcases (show k = 0 ∨ k = 1 by omega) with rfl | rfl
        · go_wp2
          refine ⟨⟨1, by omega, by go_num, by first | rfl | trivial⟩, by first | (simp [intOf]; done) | omega⟩
        · go_wp2
          go_ret
          exact ⟨rfl, rfl⟩
  · rw [if_neg ha]
    have tb : (a == 0) = false := by simpa using ha
    have tb2 : (a != 0) = true := by simpa using ha
    clear ha
    go_enter Try.func54, Try.ntmps54
    go_wp2
    go_loopw [8] (fun i wr => i = .int .i64 0 ∧ wr = w) (fun i _ => 0)
    case atStart => exact ⟨rfl, rfl⟩
    case round =>
      obtain ⟨rfl, rfl⟩ := hrel
      go_wp2
      go_ret
      exact ⟨rfl, rfl⟩
/-- What is compared. -/
def cf2 (rx ry x y : Int) : Int := if Lib.compareInt rx ry = 0 then Lib.compareInt x y else Lib.compareInt rx ry
set_option maxRecDepth 100000 in
set_option maxHeartbeats 8000000 in
theorem ord1_any (bx b o n cap x y : Nat) (rx ry : Int) (W : World) (hb : W.cell? ⟨bx, 0, none⟩ = some (.slice (some ⟨b, o, none⟩) n cap)) (hx : W.cell? ⟨b, o + x * 5 + 2, none⟩ = some (.int .i64 rx)) (hy : W.cell? ⟨b, o + y * 5 + 2, none⟩ = some (.int .i64 ry)) (hxn : x < n) (hyn : y < n) :
    Calls Try.prog 53 #[.int .i64 (x : Int), .int .i64 (y : Int), .pointer (some ⟨bx, 0, none⟩)] W fun e w' => e = .returned (.int .i64 (cf2 rx ry x y)) ∧ ∃ q os', w' = grow (W.drewN q) os' := by
  have ix0 : (0 : Int) ≤ (x : Int) := by omega
  have ix1 : (x : Int) < (n : Int) := by omega
  have iy0 : (0 : Int) ≤ (y : Int) := by omega
  have iy1 : (y : Int) < (n : Int) := by omega
  have K1 := Lib.hid (fun V => cmp64_any rx ry V)
  have K2 := Lib.hid (fun V => cmpI_any (x : Int) (y : Int) V)
  obtain ⟨r, hr⟩ : ∃ r, cf2 rx ry x y = r := ⟨_, rfl⟩
  rw [hr]
  unfold cf2 at hr
  generalize Lib.compareInt rx ry = c1 at *
  generalize Lib.compareInt (x : Int) (y : Int) = c2 at *
  have HR := Lib.hid hr
  have T0 := Lib.hid (show W.drew.cell? ⟨bx, 0, none⟩ = some (.slice (some ⟨b, o, none⟩) n cap) ∧ W.drew.cell? ⟨b, o + x * 5 + 2, none⟩ = some (.int .i64 rx) ∧ W.drew.cell? ⟨b, o + y * 5 + 2, none⟩ = some (.int .i64 ry) from ⟨hb, hx, hy⟩)
  have T1 : Hid ((W.alloc (.cells #[.int .i64 c1, .int .i64 c2] 3)).drew.cell? ⟨bx, 0, none⟩ = some (.slice (some ⟨b, o, none⟩) n cap) ∧ (W.alloc (.cells #[.int .i64 c1, .int .i64 c2] 3)).drew.cell? ⟨b, o + x * 5 + 2, none⟩ = some (.int .i64 rx) ∧ (W.alloc (.cells #[.int .i64 c1, .int .i64 c2] 3)).drew.cell? ⟨b, o + y * 5 + 2, none⟩ = some (.int .i64 ry)) := Lib.hid (by
    have l1 := World.block_lt_of_cell? W _ hb
    have l2 := World.block_lt_of_cell? W _ hx
    have l3 := World.block_lt_of_cell? W _ hy
    exact ⟨(World.cell?_alloc_lt W _ _ l1).trans hb, (World.cell?_alloc_lt W _ _ l2).trans hx, (World.cell?_alloc_lt W _ _ l3).trans hy⟩)
  have KO := (or_any W.heap.size c1 c2 (W.alloc (.cells #[.int .i64 c1, .int .i64 c2] 3)).drew (by show (W.alloc (.cells #[.int .i64 c1, .int .i64 c2] 3)).cell? _ = _; rw [cell_of_row _ _ 0 _ _ _ (heap_alloc_new _ _)]; rfl) (by show (W.alloc (.cells #[.int .i64 c1, .int .i64 c2] 3)).cell? _ = _; rw [cell_of_row _ _ 1 _ _ _ (heap_alloc_new _ _)]; rfl))
  rw [hr] at KO
  have KO := Lib.hid KO
  clear hr hb hx hy
  go_enter Try.func53, Try.ntmps53
  go_upto_region 1 with (fail)
  go_region_held_law (fun V => V.cell? ⟨bx, 0, none⟩ = some (.slice (some ⟨b, o, none⟩) n cap) ∧ V.cell? ⟨b, o + x * 5 + 2, none⟩ = some (.int .i64 rx) ∧ V.cell? ⟨b, o + y * 5 + 2, none⟩ = some (.int .i64 ry))
    (first | (with_reducible assumption) | (with_reducible exact T0.out) | (with_reducible exact T1.out) | fail)
    (first
    | (go_at_call 55; (with_reducible refine (K1.out _).mono ?_); rintro e w1 ⟨rfl, rfl⟩)
    | (go_at_call 56; (with_reducible refine (K2.out _).mono ?_); rintro e w1 ⟨rfl, rfl⟩)
    | (go_at_call 54; (with_reducible refine KO.out.mono ?_); rintro e w1 ⟨rfl, rfl⟩)
    | fail)
  all_goals (
    go_wp2
    go_ret
    exact ⟨rfl, 1, #[.cells #[.int .i64 c1, .int .i64 c2] 3], by rw [alloc_eq_grow]; rfl⟩)
end Go.Proofs.Ytnplbmbbocffbaa
