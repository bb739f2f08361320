/- The document's own answer: its walks. -/
import Derived.Test.YtlelnoalajeihaaRefE
namespace Go.Proofs.Ytlelnoalajeihaa
open Go.RowKit
set_option linter.unusedVariables false

structure EB (W : World) (b : Nat) (v : Value) (e : Nat) : Prop where
  is : W.heap[b]? = some (.cells #[v, .int .i64 (e : Int)] 58 (0, 0))
theorem EB.lt {W : World} {b : Nat} {v : Value} {e : Nat} (h : EB W b v e) : b < W.heap.size := (Array.getElem?_eq_some_iff.1 h.is).1
theorem EB.c0 {W : World} {b : Nat} {v : Value} {e : Nat} (h : EB W b v e) : W.cell? ⟨b, 0, none⟩ = some v := by rw [cell_of_row W b 0 _ _ _ h.is]; rfl
theorem EB.c1 {W : World} {b : Nat} {v : Value} {e : Nat} (h : EB W b v e) : W.cell? ⟨b, 1, none⟩ = some (.int .i64 (e : Int)) := by rw [cell_of_row W b 1 _ _ _ h.is]; rfl
theorem EB.frozen {W : World} {b : Nat} {v : Value} {e : Nat} (h : EB W b v e) (i : Nat) : W.frozen? ⟨b, i, none⟩ = false := frozen_of_row W b i _ _ h.is
theorem EB.later {W W' : World} {b : Nat} {v : Value} {e : Nat} (h : EB W b v e) (hb : Below W.heap.size W W') : EB W' b v e := ⟨(hb.block b h.lt).trans h.is⟩
theorem EB.alloc {W : World} {b : Nat} {v : Value} {e : Nat} (h : EB W b v e) (o : Obj) : EB (W.alloc o) b v e := ⟨(Below.heap_alloc W o b h.lt).trans h.is⟩
theorem EB.other {W : World} {b : Nat} {v : Value} {e : Nat} (h : EB W b v e) (a : Addr) (u : Value) (hb : b ≠ a.block) : EB (W.setCell a u) b v e := ⟨(heap_setCell_other W a b u hb).trans h.is⟩
theorem EB.set0 {W : World} {b : Nat} {v : Value} {e : Nat} (h : EB W b v e) (v' : Value) : EB (W.setCell ⟨b, 0, none⟩ v') b v' e := ⟨heap_setCell_same _ b 0 _ _ v' h.is⟩
theorem EB.set1 {W : World} {b : Nat} {v : Value} {e : Nat} (h : EB W b v e) (e' : Nat) : EB (W.setCell ⟨b, 1, none⟩ (.int .i64 (e' : Int))) b v e' := ⟨heap_setCell_same _ b 1 _ _ _ h.is⟩
theorem EB.not_row {W : World} {b : Nat} {u : Value} {e : Nat} (h : EB W b u e) {base size k : Nat} {v : Value} {xs : List Value} (hr : W.ownsRow base 53 size v k xs) : some b ≠ v.ownBlock := fun e' => by
  rcases hr.2 with ⟨rfl, _⟩ | ⟨g, cap, cur, rfl, _, hgb, _⟩
  · simp [Value.ownBlock] at e'
  · obtain rfl : b = g := by simpa [Value.ownBlock] using e'
    rw [h.is] at hgb
    cases hgb
theorem EB.kept {W W' : World} {b : Nat} {u : Value} {e : Nat} {row : Option Nat} (h : EB W b u e) (hg : W.grownBy W' row) (hne : some b ≠ row) : EB W' b u e := ⟨(hg.block b h.lt hne).trans h.is⟩
theorem own_later' {W W' : World} {base size k : Nat} {v : Value} {xs : List Value} (hr : W.ownsRow base 53 size v k xs) (hb : Below W.heap.size W W') : W'.ownsRow base 53 size v k xs :=
  hr.kept (row := none) ⟨hb.os, hb.tape, hb.output, hb.size, fun k hk _ => hb.block k hk⟩ (by
    rcases hr.2 with ⟨rfl, _⟩ | ⟨g, cap, cur, rfl, _⟩
    · exact .inl rfl
    · exact .inr (by simp [Value.ownBlock]))
theorem grown_set (W : World) (b o : Nat) (u : Value) : W.grownBy (W.setCell ⟨b, o, none⟩ u) (some b) := ⟨rfl, rfl, rfl, by simp, fun k hk hne => heap_setCell_other W ⟨b, o, none⟩ k u (fun e => hne (by rw [e]))⟩
/-- Behind the last two stores: what is handed back. -/
theorem got_end {W w : World} {b e n' c' : Nat} {A : Option Addr} {pre : List Tk} (hb : b = w.heap.size) (G4 : EB W b (.slice none 0 0) 0) (hrow : W.ownsRow b 53 4 (.slice A n' c') pre.length (tkCells pre)) (hB : Below w.heap.size w W) :
    ∃ W', (W.setCell ⟨b, 0, none⟩ (.slice A n' c')).setCell ⟨b, 1, none⟩ (.int .i64 (e : Int)) = W' ∧ EB W' b (.slice A n' c') e ∧ Toks W' (.slice A n' c') pre ∧ Below w.heap.size w W' := by
  have r1 := hrow.kept (grown_set W b 0 (.slice A n' c')) (.inr (G4.not_row hrow).symm)
  have G5 := G4.set0 (.slice A n' c')
  have r2 := r1.kept (grown_set _ b 1 (.int .i64 (e : Int))) (.inr (G5.not_row r1).symm)
  exact ⟨_, rfl, G5.set1 e, toks_of_row r2, (hB.setCell (p := ⟨b, 0, none⟩) (Nat.le_of_eq hb.symm) _).setCell (p := ⟨b, 1, none⟩) (Nat.le_of_eq hb.symm) _⟩
theorem infoEG : (Try.prog.info? 58).map (·.size) = some 2 := by kernel_rfl
theorem results_egot {fn : Func} {p : Tmp} (h : fn.results = #[.cell p 58]) (tmps : Array Value) (w : World) (b : Nat) (v : Value) (e : Nat) (hp : tmps.getD p undef = .pointer (some ⟨b, 0, none⟩)) (hb : EB w b v e) :
    (results fn tmps).run Try.prog w = .ok (.agg #[v, .int .i64 (e : Int)]) w :=
  results_cell_row h tmps w b _ _ _ _ hp hb.is Try.underlying58 rfl infoEG
/-- A token's block is laid behind a callee. -/
theorem tok_laid {w wr w2 : World} {v : Value} {e n : Nat} {xs : List Value} (x : Tk) (hB : Below w.heap.size w wr) (h2 : Below wr.heap.size wr w2) (G4 : EB wr w.heap.size (.slice none 0 0) 0) (G5 : EB wr (w.heap.size + 1) v e) (hrow : wr.ownsRow w.heap.size 53 4 v n xs) :
    ∃ W3, w2.alloc (.cells #[.int .i64 (x.k : Int), .int .i64 (x.at' : Int), .string (bs x.t), .int .i64 (x.n : Int)] 53) = W3 ∧ TB W3 w2.heap.size x ∧ EB W3 w.heap.size (.slice none 0 0) 0 ∧ EB W3 (w.heap.size + 1) v e ∧ W3.ownsRow w.heap.size 53 4 v n xs ∧ Below w.heap.size w W3 ∧ (some w2.heap.size ≠ v.ownBlock) :=
  ⟨_, rfl, TB.new w2 x, (G4.later h2).alloc _, (G5.later h2).alloc _, (own_later' hrow h2).alloc _, (hB.trans (h2.mono hB.size)).trans ((Below.refl w.heap.size w2).alloc (Nat.le_trans hB.size h2.size) _), fun e => by have := (hrow.lt _ e.symm).2; have := h2.size; omega⟩
/-- Behind an append to the row that a block holds. -/
theorem got_appended {w W3 w4 : World} {b2 e : Nat} {v v' : Value} {pre : List Tk} {x : Tk} {tmp : Obj} (hB3 : Below w.heap.size w W3) (T3 : TB W3 b2 x) (H4 : EB W3 w.heap.size (.slice none 0 0) 0) (H5 : EB W3 (w.heap.size + 1) v e) (r3 : W3.ownsRow w.heap.size 53 4 v pre.length (tkCells pre)) (hs3 : some b2 ≠ v.ownBlock)
    (hown' : w4.ownsRow w.heap.size 53 4 v' (pre.length + 1) (tkCells pre ++ [.int .i64 (x.k : Int), .int .i64 (x.at' : Int), .string (bs x.t), .int .i64 (x.n : Int)])) (hgrow : (W3.alloc tmp).grownBy w4 v.ownBlock) :
    EB w4 (w.heap.size + 1) v e ∧ ∃ W5, w4.setCell ⟨w.heap.size + 1, 0, none⟩ v' = W5 ∧ EB W5 w.heap.size (.slice none 0 0) 0 ∧ EB W5 (w.heap.size + 1) v' e ∧ TB W5 b2 x ∧ W5.ownsRow w.heap.size 53 4 v' (pre ++ [x]).length (tkCells (pre ++ [x])) ∧ Below w.heap.size w W5 := by
  have hbV : w.heap.size ≤ W3.heap.size := hB3.size
  have I5 := EB.kept (H5.alloc tmp) hgrow (H5.not_row r3)
  have I4 := EB.kept (H4.alloc tmp) hgrow (H4.not_row r3)
  have IT : TB w4 b2 x := ⟨(hgrow.block _ ((T3.alloc tmp).lt) hs3).trans (T3.alloc tmp).is⟩
  have IB : Below w.heap.size w w4 := (hB3.trans ((Below.refl w.heap.size W3).alloc hbV tmp)).grown hgrow (by simp; omega) (fun k hk => ((r3.alloc tmp).lt k hk).1)
  refine ⟨I5, _, rfl, I4.other _ _ (by simp), I5.set0 _, IT.other _ _ (fun he => ?_), ?_, IB.setCell (p := ⟨w.heap.size + 1, 0, none⟩) (Nat.le_succ _) _⟩
  · have h1 := IT.is
    have h2 := I5.is
    simp only at he
    rw [he, h2] at h1
    cases h1
  · rw [List.length_append, tkCells_snoc]; exact hown'.kept (grown_set _ _ 0 _) (.inr (I5.not_row hown').symm)
def endAt (b : Nat) (W : World) : Nat := match W.cell? ⟨b, 1, none⟩ with
  | some (.int _ n) => n.toNat
  | _ => 0
theorem EB.endAt {W : World} {b : Nat} {v : Value} {e : Nat} (h : EB W b v e) : endAt b W = e := by unfold Proofs.Ytlelnoalajeihaa.endAt; rw [h.c1]; simp

set_option maxRecDepth 100000 in
set_option maxHeartbeats 4000000 in
theorem reach_any (s : ByteArray) (w : World) (hs : s.size ≤ 100000) : Calls Try.prog 25 #[.string s] w fun e w' => ∃ v, e = .returned (.agg #[v, .int .i64 (endP s : Int)]) ∧ Toks w' v (tokL s) ∧ Below w.heap.size w w' := by
  obtain ⟨i0, hi, hz0, hz1, hz2⟩ := info_parts infoTok
  have M0 := Mid.start s
  have k0 : ∀ w, Calls Try.prog 38 #[.string s, .int .i64 0] w fun e w' => e = .returned (.int .i64 (skip s.data.toList : Int)) ∧ w = w' := fun w => by
    have := skip_any s 0 w (Nat.zero_le _) hs
    rw [List.drop_zero, Nat.zero_add] at this
    exact this
  have K0 := Lib.hid k0
  clear k0
  generalize skip s.data.toList = e0 at *
  obtain ⟨W1, hW1, G4, G5, B1⟩ : ∃ W1, (w.alloc (.cells #[.slice none 0 0, .int .i64 0] 58)).alloc (.cells #[.slice none 0 0, .int .i64 (e0 : Int)] 58) = W1 ∧ EB W1 w.heap.size (.slice none 0 0) 0 ∧ EB W1 (w.heap.size + 1) (.slice none 0 0) e0 ∧ Below w.heap.size w W1 := by
    refine ⟨_, rfl, ?_, ?_, ((Below.refl _ _).alloc (Nat.le_refl _) _).alloc (by simp) _⟩
    · exact EB.alloc ⟨heap_alloc_new w _⟩ _
    · have := heap_alloc_new (w.alloc (.cells #[.slice none 0 0, .int .i64 0] 58)) (.cells #[.slice none 0 0, .int .i64 (e0 : Int)] 58)
      rw [World.size_alloc] at this
      exact ⟨this⟩
  have HW := Lib.hid hW1
  clear hW1
  go_enter Try.func25, Try.ntmps25
  go_upto_region 2 with (go_at_call 38; (with_reducible refine (K0.out _).mono ?_); rintro e w' ⟨rfl, rfl⟩)
  rw [HW.out]
  clear HW K0
  have hw1 : w.heap.size + 1 < W1.heap.size := G5.lt
  go_loopw [4] (fun _ wr => ∃ (e : Nat) (pre : List Tk) (v : Value), Mid s pre e ∧ EB wr w.heap.size (.slice none 0 0) 0 ∧ EB wr (w.heap.size + 1) v e ∧ wr.ownsRow w.heap.size 53 4 v pre.length (tkCells pre) ∧ Below w.heap.size w wr) (fun _ wr => s.size - endAt (w.heap.size + 1) wr)
  case atStart => exact ⟨e0, [], _, M0, G4, G5, World.ownsRow_nil _ _ _ _, B1⟩
  case round =>
    clear M0 G4 G5 B1
    obtain ⟨e, pre, v, hM, G4, G5, hrow, hB⟩ := hrel
    obtain ⟨A, n', c', rfl⟩ := row_form hrow
    have hE := Lib.hid G5.endAt
    have hle := hM.le
    have d0 := G5.c0
    have d1 := G5.c1
    by_cases hlt : e < s.size
    · have hdk : decide ((e : Int) < (s.size : Int)) = true := decide_eq_true (by omega)
      obtain ⟨c, hc⟩ : ∃ c, s[e] = c := ⟨_, rfl⟩
      have O := Lib.hid (fun w => one_any s e w hlt (by omega))
      rw [hc] at O
      by_cases hk : kind c = 0
      · have hD := Lib.hid (hM.bad hlt hc hk)
        rw [oneT, if_pos hk] at O
        obtain ⟨x, hx, hxk⟩ : ∃ x : Tk, x = ⟨0, 0, [], 0⟩ ∧ x.k = 0 := ⟨_, rfl, rfl⟩
        rw [← hx] at O
        have t0 : ((x.k : Int) == 0) = true := by simp; omega
        clear hM hk hc hx hxk
        go_upto_region 4 with (go_at_call 39; (with_reducible refine (O.out _).mono ?_); rintro e' w2 ⟨rfl, h2⟩)
        obtain ⟨W3, hW3, T3, H4, H5, r3, hB3, hs3⟩ := tok_laid x hB h2 G4 G5 hrow
        rw [hW3]
        clear hW3 h2 hB G4 G5 hrow d0 d1
        have d0 := H5.c0
        have d1 := H5.c1
        have f4 := H4.frozen
        have g0 := H4.c0
        have g1 := H4.c1
        have c0 := T3.c0
        go_wp2
        obtain ⟨W', hW', R, hT, hB'⟩ := got_end (e := e) rfl H4 r3 hB3
        rw [hW']
        exact bodyPost_ret (v := .agg #[.slice A n' c', .int .i64 (e : Int)]) (results_egot rfl _ _ _ _ _ rfl R) rfl ⟨_, by rw [hD.out.2], by rw [hD.out.1]; exact hT, hB'⟩
      · have hM2 := hM.next hlt hc hk
        rw [oneT, if_neg hk] at O
        have hkx : (tkOf e c (s.data.toList.drop (e + 1))).k = kind c := rfl
        rw [← hkx] at hk
        have hlen : e + (tkOf e c (s.data.toList.drop (e + 1))).t.length ≤ s.size ∧ 1 ≤ (tkOf e c (s.data.toList.drop (e + 1))).t.length := by
          have := runLen_le (kind c) (s.data.toList.drop (e + 1))
          rw [List.length_drop, ← Lib.size_eq] at this
          simp only [tkOf, List.length_cons, List.length_take, List.length_drop]
          have := Lib.size_eq s
          omega
        clear hkx
        generalize tkOf e c (s.data.toList.drop (e + 1)) = x at *
        have hM2' := Lib.hid hM2
        have hplen : pre.length ≤ s.size := by
          have h1 : (pieceL s).length ≤ s.data.toList.length := pcs_length _ 0 s.data.toList (Nat.le_refl _)
          rw [hM.eq, List.length_append, ← Lib.size_eq] at h1
          omega
        have K : Hid (∀ w, Calls Try.prog 38 #[.string s, .int .i64 ((e : Int) + (x.t.length : Int))] w fun e' w' => e' = .returned (.int .i64 ((e + x.t.length + skip (s.data.toList.drop (e + x.t.length)) : Nat) : Int)) ∧ w = w') := Lib.hid (fun w => skip_any s (e + x.t.length) w hlen.1 hs)
        have t0 : ((x.k : Int) == 0) = false := by simp; omega
        have hbn := bs_size x.t
        have HM := Lib.hid hM
        have he2 : e < e + x.t.length + skip (s.data.toList.drop (e + x.t.length)) := by have := hlen.2; omega
        clear hM2 hM hk hc
        generalize e + x.t.length + skip (s.data.toList.drop (e + x.t.length)) = e2 at *
        go_upto_region 4 with (go_at_call 39; (with_reducible refine (O.out _).mono ?_); rintro e' w2 ⟨rfl, h2⟩)
        obtain ⟨W3, hW3, T3, H4, H5, r3, hB3, hs3⟩ := tok_laid x hB h2 G4 G5 hrow
        rw [hW3]
        clear hW3 h2 hB G4 G5 hrow d0 d1
        have d0 := H5.c0
        have d1 := H5.c1
        have f5 := H5.frozen
        have c0 := T3.c0
        have c1 := T3.c1
        have c2 := T3.c2
        have c3 := T3.c3
        have hbV : w.heap.size ≤ W3.heap.size := hB3.size
        go_upto_region 7 with (at_builtin; refine wpList_append_own _ rfl _ _ 49 rfl w.heap.size 53 i0 _ 4 40 Try.underlying49 hi hz0 hz1 hz2 rfl (by decide) _ _ _ rfl (r3.alloc _) ⟨W3.heap.size, 0, none⟩ 1 1 [.int .i64 (x.k : Int), .int .i64 (x.at' : Int), .string (bs x.t), .int .i64 (x.n : Int)] rfl rfl (four_new W3 x) (by simp [Value.oneCell']) (by unfold maxLen; omega) (by omega) (by simp; omega) ?_; intro v' w4 hown' hgrow hnil'; obtain ⟨g', cap', rfl⟩ := ownsRow_succ hown'; obtain ⟨I5, W5, hW5, J4, J5, JT, jr, JB⟩ := got_appended hB3 T3 H4 H5 r3 hs3 hown' hgrow; have e5 := I5.frozen; have e0' := I5.c0)
        clear hW5 I5 hown' hgrow e5 e0' d0 d1 f5 c0 c1 c2 c3 T3 H4 H5 r3 hB3 hs3 hnil'
        have d1 := J5.c1
        have f5 := J5.frozen
        have c2 := JT.c2
        go_wp2_with (go_at_call 38; (with_reducible refine (K.out _).mono ?_); rintro e' w6 ⟨rfl, rfl⟩)
        have Jn := J5.set1 e2
        refine ⟨⟨e2, pre ++ [x], _, hM2'.out, J4.other _ _ (by simp), Jn, jr.kept (grown_set _ _ 1 _) (.inr (J5.not_row jr).symm), JB.setCell (p := ⟨w.heap.size + 1, 1, none⟩) (Nat.le_succ _) _⟩, ?_⟩
        rw [Jn.endAt, hE.out]
        omega
    · have hdk : decide ((e : Int) < (s.size : Int)) = false := decide_eq_false (by omega)
      have hD := Lib.hid (hM.done (by omega))
      have f4 := G4.frozen
      have g0 := G4.c0
      have g1 := G4.c1
      go_wp2
      obtain ⟨W', hW', R, hT, hB'⟩ := got_end (e := e) rfl G4 hrow hB
      rw [hW']
      exact bodyPost_ret (v := .agg #[.slice A n' c', .int .i64 (e : Int)]) (results_egot rfl _ _ _ _ _ rfl R) rfl ⟨_, by rw [hD.out.2.1], by rw [hD.out.1]; exact hT, hB'⟩

end Go.Proofs.Ytlelnoalajeihaa
