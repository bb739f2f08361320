/- The document's own CheckAll. -/
import Derived.Test.YtngmaiiibinkaaaChk
namespace Go.Proofs.Ytngmaiiibinkaaa
open Go.RowKit
set_option linter.unusedVariables false
set_option linter.unusedSimpArgs false

/-- A block that holds a place and an error. -/
structure GB (w : World) (b : Nat) (a e : Int) : Prop where
  is : w.heap[b]? = some (.cells #[.int .i64 a, .int .i64 e] 53 (0, 0))
theorem GB.lt {W : World} {b : Nat} {a e : Int} (h : GB W b a e) : b < W.heap.size := (Array.getElem?_eq_some_iff.1 h.is).1
theorem GB.c0 {W : World} {b : Nat} {a e : Int} (h : GB W b a e) : W.cell? ⟨b, 0, none⟩ = some (.int .i64 a) := by rw [cell_of_row W b 0 _ _ _ h.is]; rfl
theorem GB.c1 {W : World} {b : Nat} {a e : Int} (h : GB W b a e) : W.cell? ⟨b, 1, none⟩ = some (.int .i64 e) := by rw [cell_of_row W b 1 _ _ _ h.is]; rfl
theorem GB.frozen {W : World} {b : Nat} {a e : Int} (h : GB W b a e) (i : Nat) : W.frozen? ⟨b, i, none⟩ = false := frozen_of_row W b i _ _ h.is
theorem GB.later {W W' : World} {b : Nat} {a e : Int} (h : GB W b a e) (hb : Below W.heap.size W W') : GB W' b a e := ⟨(hb.block b h.lt).trans h.is⟩
theorem GB.set0 {W : World} {b : Nat} {a e : Int} (h : GB W b a e) (a' : Int) : GB (W.setCell ⟨b, 0, none⟩ (.int .i64 a')) b a' e := ⟨heap_setCell_same _ b 0 _ _ (.int .i64 a') h.is⟩
theorem GB.set1 {W : World} {b : Nat} {a e : Int} (h : GB W b a e) (e' : Int) : GB (W.setCell ⟨b, 1, none⟩ (.int .i64 e')) b a e' := ⟨heap_setCell_same _ b 1 _ _ (.int .i64 e') h.is⟩
theorem GB.new (w : World) (a e : Int) : GB (w.alloc (.cells #[.int .i64 a, .int .i64 e] 53)) w.heap.size a e := ⟨heap_alloc_new w _⟩
theorem infoG : (Try.prog.info? 53).map (·.size) = some 2 := by kernel_rfl
theorem results_got {fn : Func} {p : Tmp} (h : fn.results = #[.cell p 53]) (tmps : Array Value) (w : World) (b : Nat) (a e : Int) (hp : tmps.getD p undef = .pointer (some ⟨b, 0, none⟩)) (hb : GB w b a e) :
    (results fn tmps).run Try.prog w = .ok (.agg #[.int .i64 a, .int .i64 e]) w :=
  results_cell_row h tmps w b _ _ _ _ hp hb.is Try.underlying53 rfl infoG

theorem nameIn_none {l : List Ts} {k : Nat} {x : Ts} (h : ∀ (i : Nat) (y : Ts), i < k → l[i]? = some y → y.n ≠ x.n) : nameIn (l.take k) x = false := by
  rw [nameIn, List.any_eq_false]
  intro y hy
  obtain ⟨i, hi, he⟩ := List.getElem_of_mem hy
  have hk : i < k := by rw [List.length_take] at hi; omega
  have hy2 : (l.take k)[i]? = some y := by rw [List.getElem?_eq_getElem hi, he]
  rw [List.getElem?_take_of_lt hk] at hy2
  simpa using h i y hk hy2
theorem prioIn_none {l : List Ts} {k : Nat} {x : Ts} (h : ∀ (i : Nat) (y : Ts), i < k → l[i]? = some y → y.p ≠ x.p) : prioIn (l.take k) x = false := by
  rw [prioIn, List.any_eq_false]
  intro y hy
  obtain ⟨i, hi, he⟩ := List.getElem_of_mem hy
  have hk : i < k := by rw [List.length_take] at hi; omega
  have hy2 : (l.take k)[i]? = some y := by rw [List.getElem?_eq_getElem hi, he]
  rw [List.getElem?_take_of_lt hk] at hy2
  simpa using h i y hk hy2
theorem dup_hit {l : List Ts} {k i : Nat} {x y : Ts} (hi : i < k) (hy : l[i]? = some y) (h : y.n = x.n ∨ y.p = x.p) : (nameIn (l.take k) x || prioIn (l.take k) x) = true := by
  have hm : y ∈ l.take k := List.mem_of_getElem? (i := i) (by rw [List.getElem?_take_of_lt hi]; exact hy)
  rcases h with h | h
  · have : nameIn (l.take k) x = true := by rw [nameIn, List.any_eq_true]; exact ⟨y, hm, by simpa using h⟩
    rw [this]; rfl
  · have : prioIn (l.take k) x = true := by rw [prioIn, List.any_eq_true]; exact ⟨y, hm, by simpa using h⟩
    rw [this]; simp

set_option maxRecDepth 100000 in
set_option maxHeartbeats 8000000 in
theorem rcheckAll_any (A : Option Addr) (cap : Nat) (l : List Ts) (w : World) (hR : Row w A cap l) :
    Calls Try.prog 14 #[.slice A l.length cap] w fun e w' => e = .returned (.agg #[.int .i64 ((chkAll l).1 : Int), .int .i64 (chkAll l).2]) ∧ Below w.heap.size w w' := by
  have hle := hR.le
  have hmx := hR.mx
  obtain ⟨a, e, he⟩ : ∃ a e, chkAll l = (a, e) := ⟨_, _, rfl⟩
  rw [he]
  have HE := Lib.hid he
  have ROW := Lib.hid hR
  obtain ⟨W1, hW1, G1, B1⟩ : ∃ W1, w.alloc (.cells #[.int .i64 0, .int .i64 0] 53) = W1 ∧ GB W1 w.heap.size 0 0 ∧ Below w.heap.size w W1 := ⟨_, rfl, GB.new w 0 0, (Below.refl _ _).alloc (Nat.le_refl _) _⟩
  have HW1 := Lib.hid hW1
  clear hR he hW1
  have d0 := G1.c0
  have d1 := G1.c1
  have e0 := G1.frozen 0
  have e1 := G1.frozen 1
  have hfin : ∀ (a' e' : Int) (wr : World), Lt W1 wr → GB ((wr.setCell ⟨w.heap.size, 0, none⟩ (.int .i64 a')).setCell ⟨w.heap.size, 1, none⟩ (.int .i64 e')) w.heap.size a' e' ∧ Below w.heap.size w ((wr.setCell ⟨w.heap.size, 0, none⟩ (.int .i64 a')).setCell ⟨w.heap.size, 1, none⟩ (.int .i64 e')) := fun a' e' wr hL =>
    ⟨((G1.later hL).set0 a').set1 e', ((B1.trans (Below.mono hL B1.size)).setCell (p := ⟨w.heap.size, 0, none⟩) (Nat.le_refl _) _).setCell (p := ⟨w.heap.size, 1, none⟩) (Nat.le_refl _) _⟩
  have HF := Lib.hid hfin
  clear hfin
  by_cases hbad : l.length = 0 ∨ 1024 < l.length
  · obtain ⟨rfl, rfl⟩ : 0 = a ∧ (14 : Int) = e := by
      have := HE.out
      rw [chkAll, if_pos hbad] at this
      exact ⟨congrArg Prod.fst this, congrArg Prod.snd this⟩
    clear G1 B1
    by_cases h0 : l.length = 0
    · have t0 : ((l.length : Int) == 0) = true := by rw [h0]; rfl
      have H0 := Lib.hid h0
      clear h0 hbad
      go_enter Try.func14, Try.ntmps14
      go_upto_region 1 with (fail)
      rw [HW1.out]
      go_wp2
      obtain ⟨R, hB⟩ := HF.out 0 14 _ (Below.refl _ _)
      exact bodyPost_ret (v := .agg #[.int .i64 0, .int .i64 14]) (results_got rfl _ _ _ _ _ rfl R) rfl ⟨rfl, hB⟩
    · have t0 : ((l.length : Int) == 0) = false := by rw [beq_eq_false_iff_ne]; omega
      have t1 : decide ((l.length : Int) > 1024) = true := decide_eq_true (by omega)
      have t2 : 1024 < (l.length : Int) := by omega
      clear h0 hbad
      go_enter Try.func14, Try.ntmps14
      go_upto_region 1 with (fail)
      rw [HW1.out]
      go_wp2
      obtain ⟨R, hB⟩ := HF.out 0 14 _ (Below.refl _ _)
      exact bodyPost_ret (v := .agg #[.int .i64 0, .int .i64 14]) (results_got rfl _ _ _ _ _ rfl R) rfl ⟨rfl, hB⟩
  · have t0 : ((l.length : Int) == 0) = false := by rw [beq_eq_false_iff_ne]; omega
    have t1 : decide ((l.length : Int) > 1024) = false := decide_eq_false (by omega)
    have t2 : decide (1024 < l.length) = false := decide_eq_false (by omega)
    have HS := Lib.hid (chk_start (l := l) (by omega) (by omega))
    have hl : l.length ≤ 1024 := by omega
    have G1 := Lib.hid G1
    have B1 := Lib.hid B1
    clear hbad
    go_enter Try.func14, Try.ntmps14
    go_upto_region 1 with (fail)
    rw [HW1.out]
    clear HW1
    go_wp2
    go_loopw [3] (fun i wr => ∃ k : Nat, k ≤ l.length ∧ i = .int .i64 k ∧ Lt W1 wr ∧ Hid (chkAll l = chkFrom (l.take k) (l.drop k))) (fun i _ => l.length - (intOf i).toNat)
    case atStart => exact ⟨0, Nat.zero_le _, rfl, Below.refl _ _, HS⟩
    case round =>
      obtain ⟨k, hk, rfl, hL, hq⟩ := hrel
      have g0 := (G1.out.later hL).c0
      have g1 := (G1.out.later hL).c1
      have f0 := (G1.out.later hL).frozen 0
      have f1 := (G1.out.later hL).frozen 1
      clear d0 d1 e0 e1 t0 t1 t2
      have HL := Lib.hid hL
      clear hL
      by_cases hlt : k < l.length
      · obtain ⟨b, o, x, rfl, hx, hw, hbl, hT⟩ := ROW.out.get hlt
        have hTr := (hT.later B1.out).later HL.out
        have c0 := hTr.c0
        have c1 := hTr.c1
        have c2 := hTr.c2
        have c3 := hTr.c3
        have c4 := hTr.c4
        have c5 := hTr.c5
        have c6 := hTr.c6
        have hi0 : (0 : Int) ≤ (k : Int) := by omega
        have hi1 : (k : Int) < (l.length : Int) := by omega
        have HX := Lib.hid hx
        have HT := Lib.hid hTr
        have K0 := Lib.hid (fun W => rcheck_any x W hw)
        clear hT hTr hx hw
        by_cases he0 : checkE x = 0
        · rw [he0] at K0
          have HE0 := Lib.hid he0
          clear he0
          go_wp2_with (go_at_call 34; (with_reducible refine (K0.out _).mono ?_); rintro e2 w2 ⟨rfl, h2⟩; have HL2 : Hid (Lt W1 w2) := Lib.hid (lt_step _ _ HL.out h2); have HT2 := Lib.hid (HT.out.later h2); clear h2)
          clear c0 c1 c2 c3 c4 c5 c6 g0 g1 f0 f1
          go_loopw [5] (fun i wr2 => ∃ j : Nat, j ≤ k ∧ i = .int .i64 j ∧ Lt w2 wr2 ∧ Hid (∀ (i : Nat) (y : Ts), i < j → l[i]? = some y → y.n ≠ x.n ∧ y.p ≠ x.p)) (fun i _ => k - (intOf i).toNat)
          case atStart => exact ⟨0, Nat.zero_le _, rfl, Below.refl _ _, Lib.hid (fun i y h => absurd h (by omega))⟩
          case round =>
            obtain ⟨j, hj, rfl, hL2, hno⟩ := hrel
            have HL3 : Hid (Lt W1 wr) := Lib.hid (Below.trans HL2.out (Below.mono hL2 (Below.size HL2.out)))
            have hTX := HT2.out.later hL2
            have a0 := hTX.c0
            have a6 := hTX.c6
            have g0 := (G1.out.later HL3.out).c0
            have g1 := (G1.out.later HL3.out).c1
            have f0 := (G1.out.later HL3.out).frozen 0
            have f1 := (G1.out.later HL3.out).frozen 1
            have hL2' := Lib.hid hL2
            clear hTX hL2
            by_cases hjk : j < k
            · obtain ⟨y, hy⟩ : ∃ y, l[j]? = some y := ⟨l[j], List.getElem?_eq_getElem (by omega)⟩
              have hTy := ((ROW.out.at2 hy).later B1.out).later HL3.out
              have b0 := hTy.c0
              have b6 := hTy.c6
              have hj0 : (0 : Int) ≤ (j : Int) := by omega
              have hj1 : (j : Int) < (l.length : Int) := by omega
              have HY := Lib.hid hy
              clear hTy hy
              by_cases hn : y.n = x.n
              · have t1 : (y.n.toList == x.n.toList) = true := by rw [name_eq, decide_eq_true hn]
                obtain ⟨rfl, rfl⟩ := Prod.mk.inj (HE.out.symm.trans (chk_dup hq.out HX.out HE0.out (dup_hit hjk HY.out (.inl hn))))
                clear hn hq hno
                go_wp2
                go_quiet (fail)
                go_wp2
                obtain ⟨R, hB⟩ := HF.out _ 13 _ (below_drewN HL3.out _)
                exact bodyPost_ret (v := .agg #[.int .i64 _, .int .i64 13]) (results_got rfl _ _ _ _ _ rfl R) rfl ⟨rfl, hB⟩
              · have t1 : (y.n.toList == x.n.toList) = false := by rw [name_eq, decide_eq_false hn]
                have HN := Lib.hid hn
                clear hn
                by_cases hp : y.p = x.p
                · have t2 : (y.p == x.p) = true := by simpa using hp
                  obtain ⟨rfl, rfl⟩ := Prod.mk.inj (HE.out.symm.trans (chk_dup hq.out HX.out HE0.out (dup_hit hjk HY.out (.inr hp))))
                  clear hp hq hno
                  go_wp2
                  go_quiet (fail)
                  go_wp2
                  obtain ⟨R, hB⟩ := HF.out _ 13 _ (below_drewN HL3.out _)
                  exact bodyPost_ret (v := .agg #[.int .i64 _, .int .i64 13]) (results_got rfl _ _ _ _ _ rfl R) rfl ⟨rfl, hB⟩
                · have t2 : (y.p == x.p) = false := by simpa using hp
                  have HP := Lib.hid hp
                  clear hp
                  go_wp2
                  go_quiet (fail)
                  go_wp2
                  refine ⟨⟨j + 1, by omega, by go_num, below_drewN hL2'.out _, Lib.hid (fun i z hi hz => ?_)⟩, by simp [intOf]; omega⟩
                  by_cases hij : i = j
                  · subst hij
                    obtain rfl : y = z := Option.some.inj (HY.out.symm.trans hz)
                    exact ⟨HN.out, HP.out⟩
                  · exact hno.out i z (by omega) hz
            · obtain rfl : j = k := by omega
              have HQ := Lib.hid (chk_next hq.out HX.out HE0.out (nameIn_none fun i y hi hy => (hno.out i y hi hy).1) (prioIn_none fun i y hi hy => (hno.out i y hi hy).2))
              clear hq hno
              go_wp2
              go_roundw
              case rel => exact ⟨j + 1, by omega, by go_num, HL3.out, HQ⟩
              case measure => simp [intOf]; omega
        · have HQ := Lib.hid (HE.out.symm.trans (chk_bad hq.out HX.out he0))
          have t5 : (checkE x != 0) = true := by simpa using he0
          generalize checkE x = ce at *
          clear he0 hq
          go_wp2_with (go_at_call 34; (with_reducible refine (K0.out _).mono ?_); rintro e2 w2 ⟨rfl, h2⟩; have HL2 : Hid (Lt W1 w2) := Lib.hid (lt_step _ _ HL.out h2); have g0' := (G1.out.later HL2.out).c0; have g1' := (G1.out.later HL2.out).c1; have f0' := (G1.out.later HL2.out).frozen 0; have f1' := (G1.out.later HL2.out).frozen 1; clear h2)
          obtain ⟨R, hB⟩ := HF.out (k : Int) ce _ HL2.out
          exact bodyPost_ret (v := .agg #[.int .i64 (k : Int), .int .i64 ce]) (results_got rfl _ _ _ _ _ rfl R) rfl ⟨by obtain ⟨rfl, rfl⟩ := Prod.mk.inj HQ.out; rfl, hB⟩
      · obtain rfl : k = l.length := by omega
        obtain ⟨rfl, rfl⟩ := Prod.mk.inj (HE.out.symm.trans (chk_end hq.out))
        clear hq
        go_wp2
        obtain ⟨R, hB⟩ := HF.out (l.length : Int) 0 _ HL.out
        exact bodyPost_ret (v := .agg #[.int .i64 (l.length : Int), .int .i64 0]) (results_got rfl _ _ _ _ _ rfl R) rfl ⟨rfl, hB⟩
end Go.Proofs.Ytngmaiiibinkaaa
