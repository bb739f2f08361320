/- The document's Read: the walk. -/
import Derived.Test.YtlelnoalajeihaaRTask2
import Derived.Test.YtlelnoalajeihaaRead
import Derived.Test.YtlelnoalajeihaaRefF
namespace Go.Proofs.Ytlelnoalajeihaa
open Go.RowKit
set_option linter.unusedVariables false
set_option linter.unusedSimpArgs false

/-- Where none begins is ahead of the end. -/
theorem pcs_at : ∀ (n a : Nat) (l : List UInt8), l.length ≤ n → ∀ y ∈ pcs a l, y.at' < a + l.length := by
  intro n
  induction n with
  | zero => intro a l h y hy; have : l = [] := List.eq_nil_of_length_eq_zero (by omega); subst this; rw [pcs_nil] at hy; simp at hy
  | succ n ih =>
    intro a l h y hy
    cases l with
    | nil => rw [pcs_nil] at hy; simp at hy
    | cons c r =>
      simp only [List.length_cons] at h ⊢
      by_cases hb : blank c = true
      · rw [pcs_blank hb] at hy
        have := ih (a + 1) r (by omega) y hy
        omega
      · by_cases h35 : c.toNat = 35
        · rw [pcs_hash h35] at hy
          have hn := noteLen_le r
          have := ih (a + 1 + noteLen r) (r.drop (noteLen r)) (by simp; omega) y hy
          simp at this; omega
        · by_cases hk : kind c = 0
          · rw [pcs_none (by simpa using hb) h35 hk, List.mem_singleton] at hy
            subst hy; simp
          · have hr := runLen_le (kind c) r
            rw [pcs_tok hk, List.mem_cons] at hy
            rcases hy with rfl | hy
            · simp [tkOf]
            · have := ih (a + 1 + runLen (kind c) r) (r.drop (runLen (kind c) r)) (by simp; omega) y hy
              simp at this; omega
theorem bad_at {s : ByteArray} {x : Tk} (h : badP s = some x) : x.at' < s.size := by
  have hm : x ∈ pieceL s := List.mem_of_find?_eq_some h
  have := pcs_at _ 0 s.data.toList (Nat.le_refl _) x hm
  rwa [Nat.zero_add, ← Lib.size_eq] at this
theorem tw_all {α : Type} {p : α → Bool} : ∀ {l : List α}, (∀ x ∈ l, p x = true) → l.takeWhile p = l
  | [], _ => rfl
  | a :: r, h => by rw [List.takeWhile_cons, if_pos (h a (by simp)), tw_all fun x hx => h x (by simp [hx])]
theorem tok_all {s : ByteArray} (h : badP s = none) : tokL s = lexT s := by
  rw [lexT_none h]
  unfold badP at h
  rw [List.find?_eq_none] at h
  exact tw_all (fun x hx => by simpa using h x hx)

/-- Block b holds tasks, a place, and an error. -/
structure GR (W : World) (b : Nat) (v : Value) (a e : Int) : Prop where
  is : W.heap[b]? = some (.cells #[v, .int .i64 a, .int .i64 e] 46 (0, 0))
theorem GR.c0 {W : World} {b : Nat} {v : Value} {a e : Int} (h : GR W b v a e) : W.cell? ⟨b, 0, none⟩ = some v := by rw [cell_of_row W b 0 _ _ _ h.is]; rfl
theorem GR.c1 {W : World} {b : Nat} {v : Value} {a e : Int} (h : GR W b v a e) : W.cell? ⟨b, 1, none⟩ = some (.int .i64 a) := by rw [cell_of_row W b 1 _ _ _ h.is]; rfl
theorem GR.c2 {W : World} {b : Nat} {v : Value} {a e : Int} (h : GR W b v a e) : W.cell? ⟨b, 2, none⟩ = some (.int .i64 e) := by rw [cell_of_row W b 2 _ _ _ h.is]; rfl
theorem GR.f {W : World} {b : Nat} {v : Value} {a e : Int} (h : GR W b v a e) (i : Nat) : W.frozen? ⟨b, i, none⟩ = false := frozen_of_row W b i _ _ h.is
theorem GR.lt {W : World} {b : Nat} {v : Value} {a e : Int} (h : GR W b v a e) : b < W.heap.size := (Array.getElem?_eq_some_iff.1 h.is).1
theorem GR.kept {X : List Nat} {W W' : World} {b : Nat} {v : Value} {a e : Int} (h : GR W b v a e) (hk : Kept X W W') (hb : b ∉ X) : GR W' b v a e := ⟨(hk.block b h.lt hb).trans h.is⟩
theorem GR.later {W W' : World} {b : Nat} {v : Value} {a e : Int} (h : GR W b v a e) (hb : Below W.heap.size W W') : GR W' b v a e := h.kept (Kept.of [] hb) (by simp)
theorem GR.whole {W : World} {b : Nat} {v v' : Value} {a e a' e' : Int} (h : GR W b v a e) : GR (((W.setCell ⟨b, 0, none⟩ v').setCell ⟨b, 1, none⟩ (.int .i64 a')).setCell ⟨b, 2, none⟩ (.int .i64 e')) b v' a' e' := by
  have h0 := heap_setCell_same W b 0 _ _ v' h.is
  have h1 := heap_setCell_same _ b 1 _ _ (.int .i64 a') h0
  exact ⟨heap_setCell_same _ b 2 _ _ (.int .i64 e') h1⟩
theorem infoGR : (Try.prog.info? 46).map (·.size) = some 3 := by kernel_rfl
theorem results_gr {fn : Func} {p : Tmp} (h : fn.results = #[.cell p 46]) (tmps : Array Value) (w : World) (b : Nat) (v : Value) (a e : Int) (hp : tmps.getD p undef = .pointer (some ⟨b, 0, none⟩)) (hb : GR w b v a e) :
    (results fn tmps).run Try.prog w = .ok (.agg #[v, .int .i64 a, .int .i64 e]) w :=
  results_cell_row h tmps w b _ _ _ _ hp hb.is Try.underlying46 rfl infoGR
def RReadPost (s : ByteArray) (w : World) (e : Ending) (w' : World) : Prop := ∃ A cap, e = .returned (.agg #[.slice A (readS s).1.length cap, .int .i64 ((readS s).2.1 : Int), .int .i64 ((readS s).2.2 : Int)]) ∧ Row w' A cap (readS s).1 ∧ Below w.heap.size w w'

theorem SetIn.row3 {B k n cap : Nat} {w : World} {A : Option Addr} {ts : List Ts} (h : SetIn B w (.slice A n cap) k ts) : Row w A cap ts := by
  obtain ⟨A', cap', e, hr⟩ := h.row2
  cases e
  exact hr
/-- What the loop over lines holds. -/
structure RdI (w0 : World) (B0 br bg : Nat) (A : Option Addr) (cap : Nat) (ts : List Tk) (n g : Nat) (v : Value) (W : World) (j : Nat) (acc : List Ts) : Prop where
  rr : RR W br A cap ts j n
  gr : GR W bg (.slice none 0 0) 0 0
  own : SetIn B0 W v acc.length acc
  kept : Below w0.heap.size w0 W
  eq : tasksS (restS ts 0 n) = (acc ++ (tasksS (restS ts j n)).1, (tasksS (restS ts j n)).2)
  hi : j ≤ ts.length
  le : ts.length - j ≤ g
  bsz : B0 ≤ W.heap.size
theorem RPost.bool {w : World} {br bt : Nat} {A : Option Addr} {cap : Nat} {ts : List Tk} {i n : Nat} {e : Ending} {w' : World} (h : RPost w br bt A cap ts i n e w') : ∃ b : Bool, e = .returned (.bool b) ∧ (b = false → ∃ j, RR w' br A cap ts j n ∧ Kept [br, bt] w w' ∧ tasksS (restS ts i n) = ([], restS ts j n) ∧ j ≤ ts.length) ∧
    (b = true → ∃ j t, RR w' br A cap ts j n ∧ w'.heap[bt]? = some (.cells (tsL t).toArray 33 (0, 0)) ∧ Kept [br, bt] w w' ∧ TsW t ∧ tasksS (restS ts i n) = (t :: (tasksS (restS ts j n)).1, (tasksS (restS ts j n)).2) ∧ i < j ∧ j ≤ ts.length) := by
  rcases h with ⟨j, he, h⟩ | ⟨j, t, he, h⟩
  · exact ⟨false, he, fun _ => ⟨j, h⟩, fun h => by cases h⟩
  · exact ⟨true, he, fun h => (by cases h), fun _ => ⟨j, t, h⟩⟩
theorem pAt_hd {ts : List Tk} {i n : Nat} : pAt ts i n = (hd ts i n).at' := by
  unfold pAt hd
  cases ts[i]? <;> rfl
theorem RdI.step {w0 : World} {B0 br bg : Nat} {A : Option Addr} {cap : Nat} {ts : List Tk} {n g m : Nat} {v : Value} {W W' : World} {j j' : Nat} {acc : List Ts} (h : RdI w0 B0 br bg A cap ts n g v W j acc) (hR : RR W' br A cap ts j' n) (hk : Kept [br] W W') (hb : w0.heap.size ≤ br) (hg : bg ≠ br) (hB : br < B0)
    (he : tasksS (restS ts j n) = tasksS (restS ts j' n)) (hi : j' ≤ ts.length) (hm : ts.length - j' ≤ m) : RdI w0 B0 br bg A cap ts n m v W' j' acc :=
  ⟨hR, h.gr.kept hk (by simp; exact hg), h.own.kept hk (fun g' e => by have := h.own.block g' e; simp; omega), h.kept.trans (hk.below h.kept.size (by simp; exact hb)), by rw [← he]; exact h.eq, hi, hm, Nat.le_trans h.bsz hk.size⟩

set_option maxRecDepth 100000 in
set_option maxHeartbeats 4000000 in
theorem rread_any (s : ByteArray) (w : World) (hs : s.size ≤ 100000) : Calls Try.prog 20 #[.string s] w (RReadPost s w) := by
  have L := Lib.hid (fun W => reach_any s W hs)
  obtain ⟨W0, hW0, G0, B0⟩ : ∃ W0, w.alloc (.cells #[.slice none 0 0, .int .i64 0, .int .i64 0] 46) = W0 ∧ GR W0 w.heap.size (.slice none 0 0) 0 0 ∧ Below w.heap.size w W0 :=
    ⟨_, rfl, ⟨heap_alloc_new w _⟩, (Below.refl _ _).alloc (Nat.le_refl _) _⟩
  have HW := Lib.hid hW0
  have HG0 := Lib.hid G0
  have HB0 := Lib.hid B0
  clear hW0 G0 B0
  cases hb : badP s with
  | some x =>
    have he : endP s = x.at' := by rw [endP, hb]
    have hx := bad_at hb
    rw [he] at L
    have HR := Lib.hid (readS_bad hb)
    have t1 : decide ((x.at' : Int) < (s.size : Int)) = true := decide_eq_true (by omega)
    clear hb he
    go_enter Try.func20, Try.ntmps20
    go_upto_region 1 with (fail)
    rw [HW.out]
    have hsz0 : w.heap.size < W0.heap.size := HG0.out.lt
    go_upto_region 2 with (go_at_call 25; (with_reducible refine (L.out _).mono ?_); rintro e W1 ⟨v, rfl, hT, hB1⟩; obtain ⟨A, cap, rfl, hTk, -⟩ := tks_of hT)
    obtain ⟨W2, hW2, G2, B2, d1⟩ : ∃ W2, W1.alloc (.cells #[.slice A (tokL s).length cap, .int .i64 (x.at' : Int)] 58) = W2 ∧ GR W2 w.heap.size (.slice none 0 0) 0 0 ∧ Below w.heap.size w W2 ∧ W2.cell? ⟨W1.heap.size, 1, none⟩ = some (.int .i64 (x.at' : Int)) := by
      have hbl := HB0.out.trans (hB1.mono HB0.out.size)
      refine ⟨_, rfl, (HG0.out.later hB1).later ((Below.refl _ _).alloc (Nat.le_refl _) _), hbl.alloc hbl.size _, ?_⟩
      rw [cell_of_row _ _ 1 _ _ _ (heap_alloc_new W1 _)]; rfl
    rw [hW2]
    have k0 := G2.c0
    have k1 := G2.c1
    have k2 := G2.c2
    have gf := G2.f
    have HG2 := Lib.hid G2
    have HB2 := Lib.hid B2
    clear hW2 G2 B2 hTk hT hB1
    go_wp2
    exact bodyPost_ret (v := .agg #[.slice none 0 0, .int .i64 (x.at' : Int), .int .i64 10]) (results_gr rfl _ _ _ _ _ _ rfl HG2.out.whole) rfl ⟨none, 0, by rw [HR.out]; rfl, by rw [HR.out]; exact Row.nil _ _ (by omega), ((HB2.out.setCell (p := ⟨w.heap.size, 0, none⟩) (Nat.le_refl _) _).setCell (p := ⟨w.heap.size, 1, none⟩) (Nat.le_refl _) _).setCell (p := ⟨w.heap.size, 2, none⟩) (Nat.le_refl _) _⟩
  | none =>
    have he : endP s = s.size := by rw [endP, hb]
    rw [he, tok_all hb] at L
    have t1 : decide (s.size < s.size) = false := decide_eq_false (by omega)
    have HNO := Lib.hid hb
    have HGD := Lib.hid (fun x hx => (all_rds hb).good x (List.mem_append_left _ hx))
    have HK0 : Hid (∀ x ∈ lexT s, x.k ≠ 0) := Lib.hid (fun x hx => by
      rw [lexT_none hb] at hx
      obtain ⟨_, _, _, hk, h0, _⟩ := (piece_good hb hx).1
      exact h0)
    have HSM := Lib.hid (all_small hb hs)
    have HA : Hid (allS s = tasksS (restS (lexT s) 0 s.size)) := Lib.hid rfl
    have hlen := lexT_len s
    clear hb he
    generalize lexT s = ts at *
    obtain ⟨i0, hi, hz0, hz1, hz2⟩ := info_parts infoTs
    go_enter Try.func20, Try.ntmps20
    go_upto_region 1 with (fail)
    rw [HW.out]
    have hsz0 : w.heap.size < W0.heap.size := HG0.out.lt
    go_upto_region 5 with (go_at_call 25; (with_reducible refine (L.out _).mono ?_); rintro e W1 ⟨v, rfl, hT, hB1⟩; obtain ⟨A, cap, rfl, hTk, hgA⟩ := tks_of hT)
    obtain ⟨W2, hW2, R2, G2, B2⟩ : ∃ W2, (W1.alloc (.cells #[.slice A ts.length cap, .int .i64 (s.size : Int)] 58)).alloc (.cells #[.slice A ts.length cap, .int .i64 0, .int .i64 (s.size : Int)] 64) = W2 ∧ RR W2 (W1.heap.size + 1) A cap ts 0 s.size ∧ GR W2 w.heap.size (.slice none 0 0) 0 0 ∧ Below w.heap.size w W2 := by
      have hbl := HB0.out.trans (hB1.mono HB0.out.size)
      have hb2 := ((Below.refl W1.heap.size W1).alloc (Nat.le_refl _) (.cells #[.slice A ts.length cap, .int .i64 (s.size : Int)] 58)).alloc (by simp) (.cells #[.slice A ts.length cap, .int .i64 0, .int .i64 (s.size : Int)] 64)
      refine ⟨_, rfl, ⟨?_, hTk.kept (Kept.of [] hb2) (by simp), fun g e => by have := hgA g e; omega⟩, (HG0.out.later hB1).later hb2, hbl.trans (hb2.mono hbl.size)⟩
      have := heap_alloc_new (W1.alloc (.cells #[.slice A ts.length cap, .int .i64 (s.size : Int)] 58)) (.cells #[.slice A ts.length cap, .int .i64 0, .int .i64 (s.size : Int)] 64)
      rw [World.size_alloc] at this
      exact this
    rw [hW2]
    have hbr0 : w.heap.size ≤ W1.heap.size := Nat.le_trans HB0.out.size hB1.size
    have hgbr : w.heap.size < W1.heap.size + 1 := by omega
    have hI := Lib.hid (show RdI w (W1.heap.size + 2) (W1.heap.size + 1) w.heap.size A cap ts s.size ts.length (.slice none 0 0) W2 0 [] from ⟨R2, G2, SetIn.nil _ _, B2, by simp, Nat.zero_le _, by omega, by rw [← hW2]; simp⟩)
    have hgA : Hid (∀ g, A = some ⟨g, 0, none⟩ → g < W1.heap.size) := Lib.hid hgA
    clear R2 G2 B2 hTk hT hB1 L
    have hW1br : W1.heap.size < W1.heap.size + 1 := by omega
    have hbB : W1.heap.size + 1 < W1.heap.size + 2 := by omega
    have hBsz : W1.heap.size + 2 ≤ W2.heap.size := by rw [← hW2]; simp
    clear hW2
    generalize W1.heap.size + 2 = B0 at *
    generalize W1.heap.size + 1 = br at *
    go_wp2
    go_loopg [5] ts.length (fun gg s5 wr => ∃ j acc, RdI w B0 br w.heap.size A cap ts s.size gg s5 wr j acc)
    case atStart => exact ⟨_, _, hI.out⟩
    case round =>
      clear hI
      obtain ⟨j, acc, hJ⟩ := hrel
      have HJ := Lib.hid hJ
      have c0 := hJ.rr.c0
      have c1 := hJ.rr.c1
      by_cases hj : j < ts.length
      · have t2 : decide (j < ts.length) = true := decide_eq_true hj
        clear hJ
        go_upto_region 6 with (fail)
        go_quiet (fail)
        have I1 := HJ.out.step (m := gk) (HJ.out.rr.later (below_drewN (Below.refl _ _) nq)) (Kept.of [br] (below_drewN (Below.refl _ _) nq)) (by omega) (by omega) hbB rfl HJ.out.hi HJ.out.le
        have HJ := Lib.hid I1
        clear I1 c0 c1
        generalize wr.drewN nq = Wd at *
        have K1 := Lib.hid (kind_any HJ.out.rr)
        have hjb : (j : Int) + 1 ≤ 9223372036854775807 := by have := HJ.out.rr.tk.le; have := HJ.out.rr.tk.mx; omega
        by_cases hk : kAt ts j = 4
        · have ek : ((kAt ts j : Nat) : Int) = 4 := by omega
          rw [ek] at K1
          have H4 := Lib.hid ((kAt_four (n := s.size) HK0.out).1 (.inr hk))
          clear ek hk
          go_upto_region 8 with (go_at_call 27; (with_reducible refine K1.out.mono ?_); rintro e W3 ⟨rfl, hB3⟩)
          have HR3 := Lib.hid (HJ.out.rr.later hB3)
          have HK3 := Lib.hid (Kept.of [br] hB3)
          have c1 := HR3.out.c1
          have f1 := HR3.out.frozen 1
          clear hB3
          go_wp2
          have hle := HJ.out.le
          go_roundg (ts.length - (j + 1))
          case measure => omega
          case rel => exact ⟨_, _, HJ.out.step HR3.out.inc (HK3.out.set br 1 _ (by simp)) (by omega) (by omega) hbB (by rw [restS_hd ts j, tlS_lt hj]; exact tasksS_line H4.out) (by omega) (Nat.le_refl _)⟩
        · obtain ⟨t3, t4⟩ := knot (a := kAt ts j) (c := 4) (by omega)
          have h4 : (hd ts j s.size).k ≠ 4 := fun e => by
            rcases (kAt_four (n := s.size) HK0.out).2 e with h | h
            · have : kAt ts j ≠ 0 := by
                rw [kAt, List.getElem?_eq_getElem hj]
                exact HK0.out _ (List.getElem_mem hj)
              exact this h
            · exact hk h
          have H4 := Lib.hid h4
          clear h4 hk
          go_upto_region 10 with (go_at_call 27; (with_reducible refine K1.out.mono ?_); rintro e W3 ⟨rfl, hB3⟩)
          have J3 := HJ.out.step (m := gk) (HJ.out.rr.later hB3) (Kept.of [br] hB3) (by omega) (by omega) hbB rfl HJ.out.hi HJ.out.le
          obtain ⟨bt, hbt⟩ : ∃ bt, W3.heap.size = bt := ⟨_, rfl⟩
          have hbl : ∀ g', u5.ownBlock = some g' → g' < bt := fun g' e => by rw [← hbt]; exact (J3.own.block g' e).2
          obtain ⟨W4, hW4, J4, T4⟩ : ∃ W4, W3.alloc (.cells #[.string { data := #[] }, .int .i64 0, .int .i64 0, .int .i64 0, .int .i64 0, .int .i64 0, .int .i64 0] 33) = W4 ∧ RdI w B0 br w.heap.size A cap ts s.size gk u5 W4 j acc ∧ W4.heap[bt]? = some (.cells (tsL ⟨{ data := #[] }, 0, 0, 0, 0, 0, 0⟩).toArray 33 (0, 0)) := by
            refine ⟨_, rfl, J3.step (J3.rr.later ((Below.refl _ _).alloc (Nat.le_refl _) _)) (Kept.of [br] ((Below.refl _ _).alloc (Nat.le_refl _) _)) (by omega) (by omega) hbB rfl J3.hi J3.le, ?_⟩
            rw [← hbt]
            exact heap_alloc_new W3 _
          try rw [hW4]
          try rw [hbt]
          have hbrt : br < bt := by rw [← hbt]; exact J3.rr.lt
          have hb0t : w.heap.size ≤ bt := by omega
          have RT := Lib.hid (rtask_any J4.rr hj H4.out HGD.out HK0.out (Small.left (q := ts.take j) (by rw [restS, ← List.append_assoc, List.take_append_drop]; exact HSM.out)) T4 (by omega) (fun g e => by have := hgA.out g e; omega))
          have HJ4 := Lib.hid J4
          have hBW4 := Lib.hid J4.bsz
          have hbl := Lib.hid hbl
          clear hW4 J3 J4 T4 hB3 K1 t2 t3 t4 hbt
          go_upto_region 11 with (go_at_call 28; (with_reducible refine RT.out.mono ?_); rintro e W5 hP; obtain ⟨b, rfl, hP0, hP1⟩ := hP.bool; have HP0 := Lib.hid hP0; have HP1 := Lib.hid hP1; clear hP hP0 hP1)
          cases b with
          | false =>
            obtain ⟨j', R5, K5, hq, hj'⟩ := HP0.out rfl
            clear HP0 HP1
            have HALL := Lib.hid (show allS s = (acc, hd ts j' s.size :: tlS ts j' s.size) by
              rw [HA.out, HJ4.out.eq, hq, restS_hd ts j']; simp)
            have HR := Lib.hid (readS_no HNO.out HALL.out)
            have PL := place_any R5
            rw [pAt_hd] at PL
            have PL := Lib.hid PL
            have G5 := Lib.hid (HJ4.out.gr.kept K5 (by simp; omega))
            have B5 := Lib.hid (HJ4.out.kept.trans (K5.below (B := w.heap.size) HJ4.out.kept.size (by simp; omega)))
            clear R5 K5 hq hj' t1
            go_wp2_with (go_at_call 29; (with_reducible refine PL.out.mono ?_); rintro e W6 ⟨rfl, hB6⟩; have G6 := G5.out.later hB6; have gf := G6.f; have k0 := G6.c0; have k1 := G6.c1; have k2 := G6.c2; have HG6 := Lib.hid G6; clear G6)
            have b6 := B5.out.trans (hB6.mono B5.out.size)
            exact bodyPost_ret (v := .agg #[.slice none 0 0, .int .i64 ((hd ts j' s.size).at' : Int), .int .i64 10]) (results_gr rfl _ _ _ _ _ _ rfl HG6.out.whole) rfl ⟨none, 0, by rw [HR.out]; rfl, by rw [HR.out]; exact Row.nil _ _ (by omega), ((b6.setCell (p := ⟨w.heap.size, 0, none⟩) (Nat.le_refl _) _).setCell (p := ⟨w.heap.size, 1, none⟩) (Nat.le_refl _) _).setCell (p := ⟨w.heap.size, 2, none⟩) (Nat.le_refl _) _⟩
          | true =>
            obtain ⟨j', t, R5, T5, K5, hwf, hq, hlt, hj'⟩ := HP1.out rfl
            clear HP0 HP1
            have own5 := HJ4.out.own.kept K5 (fun g' e => by have := HJ4.out.own.block g' e; have := hbl.out g' e; simp; omega)
            have kw := HJ4.out.kept.trans (K5.below (B := w.heap.size) HJ4.out.kept.size (by simp; omega))
            have G5 := HJ4.out.gr.kept K5 (by simp; omega)
            have hcnt : acc.length ≤ 200000 := by
              have h1 := tasks_count (restS ts 0 s.size).length (restS ts 0 s.size) (Nat.le_refl _)
              rw [HJ4.out.eq] at h1
              simp [restS] at h1
              omega
            have hc7 : ∀ i, W5.cell? ⟨bt, i, none⟩ = (tsL t)[i]? := fun i => by rw [cell_of_row W5 bt i _ _ _ T5]; simp
            have c0 := hc7 0
            have c1 := hc7 1
            have c2 := hc7 2
            have c3 := hc7 3
            have c4 := hc7 4
            have c5 := hc7 5
            have c6 := hc7 6
            simp only [tsL, List.getElem?_cons_succ, List.getElem?_cons_zero] at c0 c1 c2 c3 c4 c5 c6
            have hbase : B0 ≤ W5.heap.size := by have h1 := K5.size; have h2 := HJ4.out.kept.size; have h3 := hBW4.out; omega
            have H7 := Lib.hid (seven_new W5 t)
            have OWN := Lib.hid own5
            have HR5 := Lib.hid R5
            have HKW := Lib.hid kw
            have HG5 := Lib.hid G5
            have HEQ := Lib.hid (show tasksS (restS ts 0 s.size) = ((acc ++ [t]) ++ (tasksS (restS ts j' s.size)).1, (tasksS (restS ts j' s.size)).2) by rw [HJ4.out.eq, hq]; simp)
            clear hc7 T5 K5 own5 R5 kw G5 hq
            go_wp2_with (at_builtin; refine wpList_append_own _ rfl _ _ 26 rfl B0 33 i0 _ 7 64 Try.underlying26 hi hz0 hz1 hz2 rfl (by decide) _ _ _ rfl (OWN.out.row.alloc _) ⟨W5.heap.size, 0, none⟩ 1 1 (tsL t) rfl rfl H7.out (tsL_one _) (by unfold maxLen; omega) (by omega) (by simp; omega) ?_; intro v' w8 hown' hgrow hnil')
            have hle := HJ4.out.le
            go_roundg (ts.length - j')
            case measure => omega
            case rel =>
              have ka : Below W5.heap.size W5 (W5.alloc (.cells #[.string t.n, .int .i64 t.c, .int .i64 t.t, .int .i64 t.d, .int .i64 t.j, .int .i64 t.q, .int .i64 t.p] 33)) := (Below.refl _ _).alloc (Nat.le_refl _) _
              have hgrow : (W5.alloc (.cells #[.string t.n, .int .i64 t.c, .int .i64 t.t, .int .i64 t.d, .int .i64 t.j, .int .i64 t.q, .int .i64 t.p] 33)).grownBy w8 u5.ownBlock := hgrow
              have kg := kept_grown (X := u5.ownBlock.toList) hgrow (fun k e => by simpa using e)
              have hob := OWN.out.block
              refine ⟨j', acc ++ [t], (HR5.out.later ka).kept kg (fun h => ?_) (fun g e h => ?_), (HG5.out.later ka).kept kg (fun h => ?_), ⟨by simp, fun x hx => ?_, by rw [List.length_append, tsCells_snoc]; exact hown'⟩, ?_, HEQ.out, hj', Nat.le_refl _, by have h1 := ka.size; have h2 := kg.size; omega⟩
              · have := hob br (mem_own h); omega
              · have := hob g (mem_own h); have := hgA.out g e; omega
              · have := hob w.heap.size (mem_own h); omega
              · rcases List.mem_append.1 hx with hx | hx
                · exact OWN.out.wf x hx
                · obtain rfl := List.mem_singleton.1 hx; exact hwf
              · exact (HKW.out.alloc HKW.out.size _).grown hgrow (by simp; have := HKW.out.size; omega) (fun k e => by have := (hob k e).1; omega)
      · have t2 : decide (j < ts.length) = false := decide_eq_false hj
        have hje : j = ts.length := by have := hJ.hi; omega
        have HEQ := Lib.hid (show tasksS (restS ts 0 s.size) = (acc, []) by
          rw [hJ.eq, restS_end (by omega), tasksS_line (by rfl), tasksS_nil]; simp)
        have g0 := hJ.gr.later (below_drew wr)
        clear hJ hje
        go_upto_region 6 with (fail)
        go_quiet (fail)
        have G6 := HJ.out.gr.later (below_drewN (Below.refl _ _) nq)
        have HALL := Lib.hid (show allS s = (acc, []) by rw [HA.out]; exact HEQ.out)
        have HR := Lib.hid (readS_ok HNO.out HALL.out)
        have own9 := HJ.out.own.kept (Kept.of [] (below_drewN (Below.refl _ _) nq)) (by simp)
        obtain ⟨A9, cap9, hv9, hrow⟩ := own9.row2
        have HB6 := Lib.hid (HJ.out.kept.trans (below_drewN (Below.refl _ _) nq))
        subst hv9
        generalize wr.drewN nq = Wd at *
        have gf := G6.f
        have k0 := G6.c0
        have k1 := G6.c1
        have k2 := G6.c2
        have HG6 := Lib.hid G6
        have HOWN := Lib.hid own9
        have hszd : w.heap.size < Wd.heap.size := G6.lt
        clear G6 hrow own9 c0 c1 g0
        go_wp2
        have kz := (((Kept.refl [w.heap.size] Wd).set w.heap.size 0 (.slice A9 acc.length cap9) (by simp)).set w.heap.size 1 (.int .i64 (s.size : Int)) (by simp)).set w.heap.size 2 (.int .i64 0) (by simp)
        exact bodyPost_ret (v := .agg #[.slice A9 acc.length cap9, .int .i64 (s.size : Int), .int .i64 0]) (results_gr rfl _ _ _ _ _ _ rfl HG6.out.whole) rfl ⟨A9, cap9, by rw [HR.out]; rfl, by rw [HR.out]; exact (HOWN.out.kept kz (fun g' e => by have := (HOWN.out.block g' e).1; simp; omega)).row3, ((HB6.out.setCell (p := ⟨w.heap.size, 0, none⟩) (Nat.le_refl _) _).setCell (p := ⟨w.heap.size, 1, none⟩) (Nat.le_refl _) _).setCell (p := ⟨w.heap.size, 2, none⟩) (Nat.le_refl _) _⟩
end Go.Proofs.Ytlelnoalajeihaa
