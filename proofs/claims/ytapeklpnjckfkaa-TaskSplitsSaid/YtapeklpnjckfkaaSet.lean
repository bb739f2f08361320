/- The document's Set: of plain numbers a set that may be. -/
import Derived.Test.YtapeklpnjckfkaaSpec
import Derived.Test.YtapeklpnjckfkaaFinds
import Derived.Laws.BytesString
import Derived.Laws.AppendOwn
import Derived.RangeFuncBox
namespace Go.Proofs.Ytapeklpnjckfkaa
open Go.RowKit
set_option linter.unusedVariables false
set_option linter.unusedSimpArgs false

/-! ### Rests, turns -/
def RestPost (n : Int) (w : World) (e : Ending) (w' : World) : Prop := ∃ r, e = .returned (.int .i64 r) ∧ 0 ≤ r ∧ r < n ∧ w = w'
theorem rrest_ex (x n : Int) (w : World) (hx : in64 x) (hn : 0 < n) (hn2 : n ≤ 100000) : Calls Try.prog 25 #[.int .i64 x, .int .i64 n] w (RestPost n w) :=
  (rrest_any x n w hx hn hn2).mono fun e w' h => ⟨_, h.1, (restI_bd x n hn hn2).1, (restI_bd x n hn hn2).2, h.2⟩
def turnsI (n : Nat) (t : Int) : Nat := if 2 < n ∧ restI (t.tdiv n) 2 = 1 then n - 1 else 1
theorem tdiv_in (t : Int) (n : Nat) (h : in64 t) (hn : 2 < n) : in64 (t.tdiv n) := by
  obtain ⟨h1, h2⟩ := h
  have hp : (0 : Int) < n := by omega
  rcases Int.le_total 0 t with h0 | h0
  · rw [Int.tdiv_eq_ediv_of_nonneg h0]
    have a := Int.ediv_nonneg h0 (show (0 : Int) ≤ n by omega)
    have b := Int.ediv_le_self n h0
    exact ⟨by omega, by omega⟩
  · obtain ⟨m, rfl⟩ : ∃ m, t = -m := ⟨-t, by omega⟩
    have hm : 0 ≤ m := by omega
    rw [Int.neg_tdiv, Int.tdiv_eq_ediv_of_nonneg hm]
    have a := Int.ediv_nonneg hm (show (0 : Int) ≤ n by omega)
    have b : m / (n : Int) ≤ 4611686018427387904 := by
      refine Int.ediv_le_of_le_mul hp ?_
      have : (4611686018427387904 : Int) * 3 ≤ 4611686018427387904 * n := by
        apply Int.mul_le_mul_of_nonneg_left <;> omega
      omega
    exact ⟨by omega, by omega⟩
set_option maxHeartbeats 1000000 in
theorem turns_any (n : Nat) (t : Int) (w : World) (ht : in64 t) (hn : 1 ≤ n) (hn8 : n ≤ 8) : Calls Try.prog 26 #[.int .i64 (n : Int), .int .i64 t] w fun e w' => e = .returned (.int .i64 (turnsI n t : Int)) ∧ w = w' := by
  unfold turnsI
  by_cases h2 : 2 < n
  · have hq := tdiv_in t n ht h2
    have hb := restI_bd (t.tdiv n) 2 (by omega) (by omega)
    have R := Lib.hid (fun w => rrest_any (t.tdiv n) 2 w hq (by omega) (by omega))
    have hww : IntKind.i64.wrap (t.tdiv n) = t.tdiv n := IntWalk.i64_in _ (by obtain ⟨a, b⟩ := hq; omega)
    have hw64 : wrap64 (t.tdiv n) = t.tdiv n := IntWalk.wrap64_in _ (by obtain ⟨a, b⟩ := hq; omega)
    generalize restI (t.tdiv n) 2 = r at *
    generalize hd : t.tdiv n = d at *
    have h2i : (2 : Int) < (n : Int) := by omega
    have hnz : (n : Int) ≠ 0 := by omega
    have e1 : ((n - 1 : Nat) : Int) = (n : Int) - 1 := by omega
    by_cases hr : r = 1
    · subst hr
      rw [if_pos ⟨h2, rfl⟩, e1]
      clear e1 hb
      go_enter Try.func26, Try.ntmps26
      go_wp2_with (go_at_call 25; (with_reducible refine (R.out _).mono ?_); rintro e w' ⟨rfl, rfl⟩)
      go_ret
      exact ⟨rfl, rfl⟩
    · obtain rfl : r = 0 := by omega
      rw [if_neg (by omega)]
      clear e1 hb
      go_enter Try.func26, Try.ntmps26
      go_wp2_with (go_at_call 25; (with_reducible refine (R.out _).mono ?_); rintro e w' ⟨rfl, rfl⟩)
      go_ret
      exact ⟨rfl, rfl⟩
  · rw [if_neg (by omega)]
    have h2' : decide ((n : Int) > 2) = false := decide_eq_false (by omega)
    have h2'' : decide (2 < n) = false := decide_eq_false (by omega)
    go_enter Try.func26, Try.ntmps26
    go_wp2
    go_ret
    exact ⟨rfl, rfl⟩
theorem turnsI_is (n : Nat) (t : Int) (hn : 1 ≤ n) : turnsI n t = 1 ∨ (2 < n ∧ turnsI n t = n - 1) := by
  unfold turnsI
  by_cases h : 2 < n ∧ restI (t.tdiv n) 2 = 1
  · rw [if_pos h]; exact .inr ⟨h.1, rfl⟩
  · rw [if_neg h]; exact .inl rfl
theorem turned_ne1 : ∀ n, n < 9 → ∀ r, r < 9 → ∀ i, i < n → ∀ j, j < n → (i * 1 + r) % n = (j * 1 + r) % n → i = j := by decide +kernel
theorem turned_ne2 : ∀ n, n < 9 → ∀ r, r < 9 → ∀ i, i < n → ∀ j, j < n → (i * (n - 1) + r) % n = (j * (n - 1) + r) % n → i = j := by decide +kernel

/-! ### Cells of many tasks -/
def tsCells (ts : List Ts) : List Value := ts.flatMap tsL
theorem tsCells_snoc (ts : List Ts) (x : Ts) : tsCells (ts ++ [x]) = tsCells ts ++ tsL x := by simp [tsCells]
theorem tsCells_get (ts : List Ts) : ∀ (i : Nat) (x : Ts), ts[i]? = some x → ∀ j v, (tsL x)[j]? = some v → (tsCells ts)[i * 7 + j]? = some v := by
  induction ts with
  | nil => intro i x h; simp at h
  | cons a r ih =>
    intro i x h j v hv
    have hj : j < 7 := by
      rcases Nat.lt_or_ge j 7 with h | h
      · exact h
      · rw [List.getElem?_eq_none (by simp [tsL]; omega)] at hv; cases hv
    cases i with
    | zero =>
      simp at h; subst h
      rw [Nat.zero_mul, Nat.zero_add, tsCells, List.flatMap_cons, List.getElem?_append_left (by simp [tsL]; omega)]
      exact hv
    | succ i =>
      simp only [List.getElem?_cons_succ] at h
      have := ih i x h j v hv
      rw [tsCells, List.flatMap_cons, List.getElem?_append_right (by simp [tsL]; omega)]
      rw [show (i + 1) * 7 + j - (tsL a).length = i * 7 + j by simp [tsL]; omega]
      exact this
theorem infoTs : (Try.prog.info? 33).map (fun i => (i.zero, i.size, i.bytes)) = some (some (.agg #[.string { data := #[] }, .int .i64 0, .int .i64 0, .int .i64 0, .int .i64 0, .int .i64 0, .int .i64 0]), 7, 64) := by kernel_rfl
theorem seven_new (V : World) (x : Ts) : ∀ j u, (tsL x)[j]? = some u → (V.alloc (.cells #[.string x.n, .int .i64 x.c, .int .i64 x.t, .int .i64 x.d, .int .i64 x.j, .int .i64 x.q, .int .i64 x.p] 33)).cell? ((⟨V.heap.size, 0, none⟩ : Addr).add j) = some u := by
  intro j u hj
  rw [add_none, Nat.zero_add, cell_of_row _ _ j _ _ _ (heap_alloc_new V _)]
  simpa [tsL] using hj
theorem tsL_one (x : Ts) : ∀ u ∈ tsL x, u.oneCell' = true := by
  intro u hu
  simp only [tsL, List.mem_cons, List.not_mem_nil, or_false] at hu
  rcases hu with rfl | rfl | rfl | rfl | rfl | rfl | rfl <;> rfl
/-- A row of the call's own. -/
structure SetIn (B : Nat) (w : World) (v : Value) (k : Nat) (ts : List Ts) : Prop where
  len : ts.length = k
  wf : ∀ x ∈ ts, TsW x
  row : w.ownsRow B 33 7 v k (tsCells ts)
theorem SetIn.nil (B : Nat) (w : World) : SetIn B w (.slice none 0 0) 0 [] := ⟨rfl, by simp, World.ownsRow_nil _ _ _ _⟩
/-- A row that may be stored to. -/
structure OwnT (B : Nat) (w : World) (g cap : Nat) (ts : List Ts) : Prop where
  hB : B ≤ g
  lt : g < w.heap.size
  fz : ∀ i, w.frozen? ⟨g, i, none⟩ = false
  le : ts.length ≤ cap
  mx : cap ≤ 9223372036854775807
  wf : ∀ x ∈ ts, TsW x
  at_ : ∀ i x, ts[i]? = some x → TAt w g (i * 7) x
theorem SetIn.own {B : Nat} {w : World} {v : Value} {k : Nat} {ts : List Ts} (h : SetIn B w v k ts) (hk : 0 < k) : ∃ g cap, v = .slice (some ⟨g, 0, none⟩) k cap ∧ OwnT B w g cap ts := by
  have hc := fun g (hg : v.ownBlock = some g) => h.row.cells hg
  rcases h.row.2 with ⟨hv, h0⟩ | ⟨g, cap, cur, hv, hBg, hgb, hle, hmax, _, _⟩
  · omega
  · subst hv
    refine ⟨g, cap, rfl, hBg, (Array.getElem?_eq_some_iff.1 hgb).1, fun i => frozen_of_row w g i _ _ hgb, by rw [h.len]; exact hle, hmax, h.wf, fun i x hx => ⟨fun j u hu => ?_⟩⟩
    have := hc g rfl _ _ (tsCells_get ts i x hx j u hu)
    rwa [add_none, Nat.zero_add] at this
theorem OwnT.row {B : Nat} {w : World} {g cap : Nat} {ts : List Ts} (h : OwnT B w g cap ts) : Row w (some ⟨g, 0, none⟩) cap ts :=
  ⟨h.le, h.mx, h.wf, fun i x hx => ⟨g, 0, rfl, by rw [Nat.zero_add]; exact h.at_ i x hx⟩⟩
theorem OwnT.setP {B : Nat} {w : World} {g cap : Nat} {ts : List Ts} (h : OwnT B w g cap ts) {k : Nat} {x : Ts} (hx : ts[k]? = some x) (p : Int) (hp : in64 p) :
    OwnT B (w.setCell ⟨g, k * 7 + 6, none⟩ (.int .i64 p)) g cap (ts.set k { x with p := p }) := by
  have hxw := h.wf x (List.mem_of_getElem? hx)
  have hkl : k < ts.length := (List.getElem?_eq_some_iff.1 hx).1
  refine ⟨h.hB, by simp; exact h.lt, fun i => by simp [h.fz], by rw [List.length_set]; exact h.le, h.mx, fun y hy => ?_, fun i y hy => ⟨fun j u hu => ?_⟩⟩
  · rcases List.mem_or_eq_of_mem_set hy with hy | rfl
    · exact h.wf y hy
    · exact ⟨hxw.n, hxw.c, hxw.t, hxw.d, hxw.j, hxw.q, hp⟩
  · have hj : j < 7 := by
      rcases Nat.lt_or_ge j 7 with h | h
      · exact h
      · rw [List.getElem?_eq_none (by simp [tsL]; omega)] at hu; cases hu
    by_cases hik : k = i
    · subst hik
      rw [List.getElem?_set_self hkl] at hy
      obtain rfl : { x with p := p } = y := by simpa using hy
      have hc := (h.at_ k x hx).r
      by_cases hj6 : j = 6
      · subst hj6
        obtain rfl : Value.int .i64 p = u := by simpa [tsL] using hu
        exact World.cell?_setCell_same _ _ _ (h.at_ k x hx).c6
      · rw [World.cell?_setCell_other _ _ _ _ (by intro e; have := congrArg Addr.off e; simp only at this; omega)]
        refine hc j u ?_
        rw [← hu]
        rcases (by omega : j = 0 ∨ j = 1 ∨ j = 2 ∨ j = 3 ∨ j = 4 ∨ j = 5) with rfl | rfl | rfl | rfl | rfl | rfl <;> rfl
    · rw [List.getElem?_set_ne hik] at hy
      rw [World.cell?_setCell_other _ _ _ _ (by intro e; have := congrArg Addr.off e; simp only at this; omega)]
      exact (h.at_ i y hy).r j u hu
theorem setCell_own {B : Nat} {w w' : World} {g i : Nat} (h : Below B w w') (hB : B ≤ g) (u : Value) : Below B w (w'.setCell ⟨g, i, none⟩ u) := h.setCell (p := ⟨g, i, none⟩) hB u

/-! ### One letter as a text -/
def chr (n : Int) : ByteArray := bs [UInt8.ofNat n.toNat]
theorem conv_n (W : World) (n : Int) (h0 : 0 ≤ n) (h1 : n < 256) : (convert 52 9 (.slice (some ⟨W.heap.size, 0, none⟩) 1 1)).run Try.prog (W.alloc (.cells #[.int .u8 n] 5)) = .ok (.string (chr n)) (W.alloc (.cells #[.int .u8 n] 5)) := by
  rw [run_convert_bytes_string _ 52 9 5 _ _ _ Try.underlying52 Try.underlying5 Try.underlying9]
  rw [run_bytesToString (ns := [n])]
  · rfl
  · go_simp
theorem chr_size (n : Int) : (chr n).size = 1 := by rw [chr, bs_size]; rfl

/-- All urgencies differ. -/
def Dist (ts : List Ts) : Prop := ∀ (i j : Nat) (x y : Ts), ts[i]? = some x → ts[j]? = some y → x.p = y.p → i = j
theorem in64_p {k : Nat} (z : Int) (h0 : 0 ≤ z) (h1 : z < (k : Int)) (h8 : k ≤ 8) : in64 (1 + z) := ⟨by omega, by omega⟩
theorem wrap_p {k : Nat} (z : Int) (h0 : 0 ≤ z) (h1 : z < (k : Int)) (h8 : k ≤ 8) : wrap64 (1 + z) = 1 + z := IntWalk.wrap64_in _ (by omega)
theorem dist_of {ts : List Ts} {n τ r : Nat} (h1 : 1 ≤ n) (h8 : n ≤ 8) (hr : r < n) (hτ : τ = 1 ∨ (2 < n ∧ τ = n - 1)) (hl : ts.length = n)
    (hp : ∀ (i : Nat) (x : Ts), ts[i]? = some x → x.p = 1 + ((i : Int) * (τ : Int) + (r : Int)) % (n : Int)) : Dist ts := by
  intro i j x y hx hy he
  have hi := (List.getElem?_eq_some_iff.1 hx).1
  have hj := (List.getElem?_eq_some_iff.1 hy).1
  have e1 := hp i x hx
  have e2 := hp j y hy
  have e3 : ((i : Int) * (τ : Int) + (r : Int)) % (n : Int) = ((j : Int) * (τ : Int) + (r : Int)) % (n : Int) := by omega
  rw [← Int.natCast_mul, ← Int.natCast_mul, ← Int.natCast_add, ← Int.natCast_add, ← Int.natCast_emod, ← Int.natCast_emod] at e3
  have e4 : (i * τ + r) % n = (j * τ + r) % n := Int.ofNat.inj e3
  rcases hτ with rfl | ⟨h2, rfl⟩
  · exact turned_ne1 n (by omega) r (by omega) i (by omega) j (by omega) e4
  · exact turned_ne2 n (by omega) r (by omega) i (by omega) j (by omega) e4
def SetPost (w : World) (e : Ending) (w' : World) : Prop := ∃ A cap ts, e = .returned (.slice A ts.length cap) ∧ Row w' A cap ts ∧ 1 ≤ ts.length ∧ ts.length ≤ 8 ∧ Dist ts ∧ Below w.heap.size w w'

set_option maxRecDepth 100000 in
set_option maxHeartbeats 8000000 in
theorem set_some (A : Option Addr) (cap : Nat) (l : List Sp) (turn : Int) (w : World) (hR : SRow w A cap l) (ht : in64 turn) (h0 : l.length ≠ 0) :
    Calls Try.prog 10 #[.slice A l.length cap, .int .i64 8, .int .i64 turn] w (SetPost w) := by
  obtain ⟨i0, hi, hz0, hz1, hz2⟩ := info_parts infoTs
  have hmx := hR.mx
  have hle := hR.le
  have t0 : ((l.length : Int) == 0) = false := by rw [beq_eq_false_iff_ne]; omega
  have ROW := Lib.hid hR
  have HB : Hid (Below w.heap.size w w) := Lib.hid (Below.refl _ _)
  clear hR
  go_enter Try.func10, Try.ntmps10
  go_wp2
  go_loopw [7, 8] (fun v i wr => ∃ (k : Nat) (ts : List Ts), k ≤ l.length ∧ k ≤ 8 ∧ i = .int .i64 k ∧ SetIn w.heap.size wr v k ts ∧ Lt w wr) (fun _ i _ => 8 - (intOf i).toNat)
  case atStart => exact ⟨0, [], Nat.zero_le _, Nat.zero_le _, rfl, SetIn.nil _ _, Below.refl _ _⟩
  case round =>
    obtain ⟨k, ts, hk, hk8, rfl, hI, hL⟩ := hrel
    by_cases hgo : k < l.length ∧ k < 8
    · obtain ⟨hlt, h8⟩ := hgo
      obtain ⟨b, o, x, rfl, hx, hxw, hbl, hT⟩ := ROW.out.get hlt
      have hTr := hT.later hL
      have s0 := hTr.c0
      have s1 := hTr.c1
      have s2 := hTr.c2
      have s3 := hTr.c3
      have s4 := hTr.c4
      have hi0 : (0 : Int) ≤ (k : Int) := by omega
      have hi1 : (k : Int) < ((l.length : Nat) : Int) := by omega
      have HXW := Lib.hid hxw
      clear hT hTr hx hxw hbl
      go_upto_region 8 with (go_at_call 25; refine (rrest_ex _ _ _ HXW.out.c (by omega) (by omega)).mono ?_; rintro e w' ⟨rc, rfl, rc0, rc1, rfl⟩)
      go_upto_region 9 with (go_at_call 25; refine (rrest_ex _ _ _ HXW.out.d (by omega) (by omega)).mono ?_; rintro e w' ⟨rd, rfl, rd0, rd1, rfl⟩)
      go_upto_region 10 with (go_at_call 25; refine (rrest_ex _ _ _ HXW.out.j (by omega) (by omega)).mono ?_; rintro e w' ⟨rj, rfl, rj0, rj1, rfl⟩)
      go_upto_region 11 with (go_at_call 25; refine (rrest_ex _ _ _ HXW.out.t (by omega) (by omega)).mono ?_; rintro e w' ⟨rt, rfl, rt0, rt1, rfl⟩)
      go_upto_region 12 with (go_at_call 25; refine (rrest_ex _ _ _ HXW.out.q (by omega) (by omega)).mono ?_; rintro e w' ⟨rq, rfl, rq0, rq1, rfl⟩)
      have hcv := fun W => conv_n W (97 + (k : Int)) (by omega) (by omega)
      have hwr : IntKind.u8.wrap (97 + (k : Int)) = 97 + (k : Int) := by rw [IntKind.wrap_u8]; omega
      obtain ⟨nm, hnm, hnms⟩ : ∃ nm, ({ data := #[116] } : ByteArray) ++ chr (97 + (k : Int)) = nm ∧ nm.size ≤ 10 := ⟨_, rfl, by rw [ByteArray.size_append, chr_size]; decide⟩
      have hseven := seven_new (wr.alloc (.cells #[.int .u8 (97 + (k : Int))] 5)) ⟨nm, 1 + rc, 1 + rc + rd + rt, 1 + rc + rd, rj, 1 + rq, 0⟩
      rw [World.size_alloc] at hseven
      have HI := Lib.hid hI
      have HL := Lib.hid hL
      have H7 := Lib.hid hseven
      clear hseven hI hL s0 s1 s2 s3 s4
      go_wp2_with (at_builtin; refine wpList_append_own _ rfl _ _ 22 rfl w.heap.size 33 i0 _ 7 64 Try.underlying22 hi hz0 hz1 hz2 rfl (by decide) _ _ _ rfl ((HI.out.row.alloc _).alloc _) ⟨wr.heap.size + 1, 0, none⟩ 1 1 (tsL ⟨nm, 1 + rc, 1 + rc + rd + rt, 1 + rc + rd, rj, 1 + rq, 0⟩) rfl rfl H7.out (tsL_one _) (by unfold maxLen; omega) (by omega) (by have := Below.size HL.out; simp; omega) ?_; intro v' w4 hown' hgrow hnil')
      go_roundw
      case rel =>
        have hb0 := Below.size HL.out
        refine ⟨k + 1, ts ++ [⟨nm, 1 + rc, 1 + rc + rd + rt, 1 + rc + rd, rj, 1 + rq, 0⟩], by omega, by omega, by go_num, ⟨by simp [HI.out.len], fun y hy => ?_, by rw [tsCells_snoc]; exact hown'⟩, ?_⟩
        · rcases List.mem_append.1 hy with hy | hy
          · exact HI.out.wf y hy
          · obtain rfl := List.mem_singleton.1 hy
            exact ⟨by show nm.size ≤ _; omega, ⟨by show _ ≤ 1 + rc; omega, by show 1 + rc ≤ _; omega⟩, ⟨by show _ ≤ 1 + rc + rd + rt; omega, by show 1 + rc + rd + rt ≤ _; omega⟩, ⟨by show _ ≤ 1 + rc + rd; omega, by show 1 + rc + rd ≤ _; omega⟩, ⟨by show _ ≤ rj; omega, by show rj ≤ _; omega⟩, ⟨by show _ ≤ 1 + rq; omega, by show 1 + rq ≤ _; omega⟩, by show in64 0; unfold in64; omega⟩
        · exact ((((Below.refl w.heap.size w).trans HL.out).alloc hb0 _).alloc (by simp; omega) _).grown hgrow (by simp; omega) (fun q hq => (HI.out.row.lt q hq).1)
      case measure => simp [intOf]; omega
    · have hk1 : 1 ≤ k := by omega
      obtain ⟨g, cap2, rfl, hO⟩ := hI.own (by omega)
      have TN := Lib.hid (fun w => turns_any k turn w ht hk1 hk8)
      have RN := fun w => rrest_any turn k w ht (by omega) (by omega)
      obtain ⟨r0, r1⟩ := restI_bd turn k (by omega) (by omega)
      have hti := turnsI_is k turn hk1
      obtain ⟨r, hr⟩ : ∃ r : Nat, restI turn k = (r : Int) := ⟨(restI turn k).toNat, by omega⟩
      rw [hr] at RN r0 r1
      have RN := Lib.hid RN
      generalize turnsI k turn = τ at *
      have hτ : τ ≤ 8 := by omega
      have HTI := Lib.hid hti
      have HLEN := Lib.hid hI.len
      have HO0 := Lib.hid hO
      have HL0 := Lib.hid hL
      clear hr hti hI hO hL
      by_cases hl : k < l.length
      · have g1 : decide ((k : Int) < ((l.length : Nat) : Int)) = true := decide_eq_true (by omega)
        have g2 : decide ((k : Int) < 8) = false := decide_eq_false (by omega)
        have g3 : decide (k < 8) = false := decide_eq_false (by omega)
        have h8k : 8 ≤ k := by omega
        clear hgo
        go_wp2
        go_loopw [15] (fun i wr2 => ∃ (m : Nat) (ts2 : List Ts), m ≤ k ∧ i = .int .i64 m ∧ OwnT w.heap.size wr2 g cap2 ts2 ∧ ts2.length = k ∧ Hid (∀ (i : Nat) (x : Ts), ts2[i]? = some x → i < m → x.p = 1 + ((i : Int) * (τ : Int) + (r : Int)) % ((k : Nat) : Int)) ∧ Lt w wr2) (fun i _ => k - (intOf i).toNat)
        case atStart => exact ⟨0, ts, Nat.zero_le _, rfl, HO0.out, HLEN.out, Lib.hid (fun i x _ h => absurd h (by omega)), HL0.out⟩
        case round =>
          obtain ⟨m, ts2, hm, rfl, hO2, hl2, hq, hL2⟩ := hrel
          by_cases hmk : m < k
          · obtain ⟨x, hx⟩ : ∃ x, ts2[m]? = some x := ⟨ts2[m], List.getElem?_eq_getElem (by omega)⟩
            have c6 := (hO2.at_ m x hx).c6
            have fz := hO2.fz (m * 7 + 6)
            have hi0 : (0 : Int) ≤ (m : Int) := by omega
            have hi1 : (m : Int) < ((k : Nat) : Int) := by omega
            have hkz : (0 : Int) < ((k : Nat) : Int) := by omega
            have hmul : ((m * τ : Nat) : Int) = (m : Int) * (τ : Int) := Int.natCast_mul m τ
            have hmm : m * τ ≤ 8 * 8 := Nat.mul_le_mul (by omega) hτ
            have hm0 : (0 : Int) ≤ (m : Int) * (τ : Int) := by rw [← hmul]; omega
            have hm1 : (m : Int) * (τ : Int) ≤ 64 := by rw [← hmul]; omega
            have hp0 : 0 ≤ ((m : Int) * (τ : Int) + (r : Int)) % ((k : Nat) : Int) := Int.emod_nonneg _ (by omega)
            have hp1 : ((m : Int) * (τ : Int) + (r : Int)) % ((k : Nat) : Int) < ((k : Nat) : Int) := Int.emod_lt_of_pos _ hkz
            have HX := Lib.hid hx
            have HO2 := Lib.hid hO2
            have HL2 := Lib.hid hL2
            have HLL := Lib.hid hl2
            clear hmul hmm hx hO2 hL2 hl2 hp0 hp1
            go_wp2_with (first
              | (go_at_call 26; (with_reducible refine (TN.out _).mono ?_); rintro e w' ⟨rfl, rfl⟩)
              | (go_at_call 25; (with_reducible refine (RN.out _).mono ?_); rintro e w' ⟨rfl, rfl⟩))
            go_roundw
            case rel =>
              have hp0 : 0 ≤ ((m : Int) * (τ : Int) + (r : Int)) % ((k : Nat) : Int) := Int.emod_nonneg _ (by omega)
              have hp1 : ((m : Int) * (τ : Int) + (r : Int)) % ((k : Nat) : Int) < ((k : Nat) : Int) := Int.emod_lt_of_pos _ (by omega)
              refine ⟨m + 1, ts2.set m { x with p := 1 + ((m : Int) * (τ : Int) + (r : Int)) % ((k : Nat) : Int) }, by omega, by go_num, (by rw [wrap_p _ hp0 hp1 hk8]; exact HO2.out.setP HX.out _ (in64_p _ hp0 hp1 hk8)), by rw [List.length_set]; exact HLL.out, Lib.hid (fun i y hy hi => ?_), setCell_own HL2.out HO2.out.hB _⟩
              by_cases e : m = i
              · subst e
                rw [List.getElem?_set_self (by rw [HLL.out]; omega)] at hy
                cases hy
                rfl
              · rw [List.getElem?_set_ne e] at hy
                exact hq.out i y hy (by omega)
            case measure => simp [intOf]; omega
          · obtain rfl : m = k := by omega
            have HL2 := Lib.hid hL2
            have HO2 := Lib.hid hO2
            have HLL := Lib.hid hl2
            clear hL2 hO2 hl2
            go_wp2
            go_ret
            refine ⟨_, cap2, ts2, by rw [HLL.out]; rfl, HO2.out.row, by rw [HLL.out]; omega, by rw [HLL.out]; omega, ?_, Below.trans HB.out (Below.mono HL2.out (Below.size HB.out))⟩
            exact dist_of (by omega) hk8 (by omega) HTI.out HLL.out (fun i x hx => hq.out i x hx (by have := (List.getElem?_eq_some_iff.1 hx).1; rw [HLL.out] at this; exact this))
      · have g1 : decide ((k : Int) < ((l.length : Nat) : Int)) = false := decide_eq_false (by omega)
        clear hgo
        go_wp2
        go_loopw [15] (fun i wr2 => ∃ (m : Nat) (ts2 : List Ts), m ≤ k ∧ i = .int .i64 m ∧ OwnT w.heap.size wr2 g cap2 ts2 ∧ ts2.length = k ∧ Hid (∀ (i : Nat) (x : Ts), ts2[i]? = some x → i < m → x.p = 1 + ((i : Int) * (τ : Int) + (r : Int)) % ((k : Nat) : Int)) ∧ Lt w wr2) (fun i _ => k - (intOf i).toNat)
        case atStart => exact ⟨0, ts, Nat.zero_le _, rfl, HO0.out, HLEN.out, Lib.hid (fun i x _ h => absurd h (by omega)), HL0.out⟩
        case round =>
          obtain ⟨m, ts2, hm, rfl, hO2, hl2, hq, hL2⟩ := hrel
          by_cases hmk : m < k
          · obtain ⟨x, hx⟩ : ∃ x, ts2[m]? = some x := ⟨ts2[m], List.getElem?_eq_getElem (by omega)⟩
            have c6 := (hO2.at_ m x hx).c6
            have fz := hO2.fz (m * 7 + 6)
            have hi0 : (0 : Int) ≤ (m : Int) := by omega
            have hi1 : (m : Int) < ((k : Nat) : Int) := by omega
            have hkz : (0 : Int) < ((k : Nat) : Int) := by omega
            have hmul : ((m * τ : Nat) : Int) = (m : Int) * (τ : Int) := Int.natCast_mul m τ
            have hmm : m * τ ≤ 8 * 8 := Nat.mul_le_mul (by omega) hτ
            have hm0 : (0 : Int) ≤ (m : Int) * (τ : Int) := by rw [← hmul]; omega
            have hm1 : (m : Int) * (τ : Int) ≤ 64 := by rw [← hmul]; omega
            have hp0 : 0 ≤ ((m : Int) * (τ : Int) + (r : Int)) % ((k : Nat) : Int) := Int.emod_nonneg _ (by omega)
            have hp1 : ((m : Int) * (τ : Int) + (r : Int)) % ((k : Nat) : Int) < ((k : Nat) : Int) := Int.emod_lt_of_pos _ hkz
            have HX := Lib.hid hx
            have HO2 := Lib.hid hO2
            have HL2 := Lib.hid hL2
            have HLL := Lib.hid hl2
            clear hmul hmm hx hO2 hL2 hl2 hp0 hp1
            go_wp2_with (first
              | (go_at_call 26; (with_reducible refine (TN.out _).mono ?_); rintro e w' ⟨rfl, rfl⟩)
              | (go_at_call 25; (with_reducible refine (RN.out _).mono ?_); rintro e w' ⟨rfl, rfl⟩))
            go_roundw
            case rel =>
              have hp0 : 0 ≤ ((m : Int) * (τ : Int) + (r : Int)) % ((k : Nat) : Int) := Int.emod_nonneg _ (by omega)
              have hp1 : ((m : Int) * (τ : Int) + (r : Int)) % ((k : Nat) : Int) < ((k : Nat) : Int) := Int.emod_lt_of_pos _ (by omega)
              refine ⟨m + 1, ts2.set m { x with p := 1 + ((m : Int) * (τ : Int) + (r : Int)) % ((k : Nat) : Int) }, by omega, by go_num, (by rw [wrap_p _ hp0 hp1 hk8]; exact HO2.out.setP HX.out _ (in64_p _ hp0 hp1 hk8)), by rw [List.length_set]; exact HLL.out, Lib.hid (fun i y hy hi => ?_), setCell_own HL2.out HO2.out.hB _⟩
              by_cases e : m = i
              · subst e
                rw [List.getElem?_set_self (by rw [HLL.out]; omega)] at hy
                cases hy
                rfl
              · rw [List.getElem?_set_ne e] at hy
                exact hq.out i y hy (by omega)
            case measure => simp [intOf]; omega
          · obtain rfl : m = k := by omega
            have HL2 := Lib.hid hL2
            have HO2 := Lib.hid hO2
            have HLL := Lib.hid hl2
            clear hL2 hO2 hl2
            go_wp2
            go_ret
            refine ⟨_, cap2, ts2, by rw [HLL.out]; rfl, HO2.out.row, by rw [HLL.out]; omega, by rw [HLL.out]; omega, ?_, Below.trans HB.out (Below.mono HL2.out (Below.size HB.out))⟩
            exact dist_of (by omega) hk8 (by omega) HTI.out HLL.out (fun i x hx => hq.out i x hx (by have := (List.getElem?_eq_some_iff.1 hx).1; rw [HLL.out] at this; exact this))

set_option maxRecDepth 100000 in
set_option maxHeartbeats 8000000 in
theorem set_none (A : Option Addr) (cap : Nat) (turn : Int) (w : World) (ht : in64 turn) :
    Calls Try.prog 10 #[.slice A 0 cap, .int .i64 8, .int .i64 turn] w (SetPost w) := by
  obtain ⟨i0, hi, hz0, hz1, hz2⟩ := info_parts infoTs
  obtain ⟨W0, hW0, hR, hB⟩ : ∃ W0, w.alloc (.cells #[.int .i64 turn, .int .i64 0, .int .i64 0, .int .i64 0, .int .i64 0] 57) = W0 ∧ SRow W0 (some ⟨w.heap.size, 0, none⟩) 1 [⟨turn, 0, 0, 0, 0⟩] ∧ Below w.heap.size w W0 := by
    refine ⟨_, rfl, ⟨by simp, by omega, fun x hx => ?_, fun i x hx => ?_⟩, (Below.refl _ _).alloc (Nat.le_refl _) _⟩
    · obtain rfl := List.mem_singleton.1 hx
      exact ⟨ht, by show in64 0; unfold in64; omega, by show in64 0; unfold in64; omega, by show in64 0; unfold in64; omega, by show in64 0; unfold in64; omega⟩
    · have hi : i = 0 := by
        have := (List.getElem?_eq_some_iff.1 hx).1
        simp at this
        exact this
      subst hi
      obtain rfl : (⟨turn, 0, 0, 0, 0⟩ : Sp) = x := by simpa using hx
      refine ⟨_, _, rfl, ⟨fun j v hv => ?_⟩⟩
      rw [cell_of_row _ _ _ _ _ _ (heap_alloc_new w _)]
      simpa [spL] using hv
  have HW := Lib.hid hW0
  have ROW := Lib.hid hR
  have HB := Lib.hid hB
  clear hW0 hR hB
  go_enter Try.func10, Try.ntmps10
  go_upto_region 4 with (fail)
  rw [HW.out]
  generalize (some ⟨w.heap.size, 0, none⟩ : Option Addr) = A2 at *
  have hmx : 1 ≤ 9223372036854775807 := by omega
  go_wp2
  go_loopw [7, 8] (fun v i wr => ∃ (k : Nat) (ts : List Ts), k ≤ 1 ∧ k ≤ 8 ∧ i = .int .i64 k ∧ SetIn W0.heap.size wr v k ts ∧ Lt W0 wr) (fun _ i _ => 8 - (intOf i).toNat)
  case atStart => exact ⟨0, [], Nat.zero_le _, Nat.zero_le _, rfl, SetIn.nil _ _, Below.refl _ _⟩
  case round =>
    obtain ⟨k, ts, hk, hk8, rfl, hI, hL⟩ := hrel
    by_cases hgo : k < 1 ∧ k < 8
    · obtain ⟨hlt, h8⟩ := hgo
      obtain ⟨b, o, x, rfl, hx, hxw, hbl, hT⟩ := ROW.out.get hlt
      have hTr := hT.later hL
      have s0 := hTr.c0
      have s1 := hTr.c1
      have s2 := hTr.c2
      have s3 := hTr.c3
      have s4 := hTr.c4
      have hi0 : (0 : Int) ≤ (k : Int) := by omega
      have hi1 : (k : Int) < ((1 : Nat) : Int) := by omega
      have HXW := Lib.hid hxw
      clear hT hTr hx hxw hbl
      go_upto_region 8 with (go_at_call 25; refine (rrest_ex _ _ _ HXW.out.c (by omega) (by omega)).mono ?_; rintro e w' ⟨rc, rfl, rc0, rc1, rfl⟩)
      go_upto_region 9 with (go_at_call 25; refine (rrest_ex _ _ _ HXW.out.d (by omega) (by omega)).mono ?_; rintro e w' ⟨rd, rfl, rd0, rd1, rfl⟩)
      go_upto_region 10 with (go_at_call 25; refine (rrest_ex _ _ _ HXW.out.j (by omega) (by omega)).mono ?_; rintro e w' ⟨rj, rfl, rj0, rj1, rfl⟩)
      go_upto_region 11 with (go_at_call 25; refine (rrest_ex _ _ _ HXW.out.t (by omega) (by omega)).mono ?_; rintro e w' ⟨rt, rfl, rt0, rt1, rfl⟩)
      go_upto_region 12 with (go_at_call 25; refine (rrest_ex _ _ _ HXW.out.q (by omega) (by omega)).mono ?_; rintro e w' ⟨rq, rfl, rq0, rq1, rfl⟩)
      have hcv := fun W => conv_n W (97 + (k : Int)) (by omega) (by omega)
      have hwr : IntKind.u8.wrap (97 + (k : Int)) = 97 + (k : Int) := by rw [IntKind.wrap_u8]; omega
      obtain ⟨nm, hnm, hnms⟩ : ∃ nm, ({ data := #[116] } : ByteArray) ++ chr (97 + (k : Int)) = nm ∧ nm.size ≤ 10 := ⟨_, rfl, by rw [ByteArray.size_append, chr_size]; decide⟩
      have hseven := seven_new (wr.alloc (.cells #[.int .u8 (97 + (k : Int))] 5)) ⟨nm, 1 + rc, 1 + rc + rd + rt, 1 + rc + rd, rj, 1 + rq, 0⟩
      rw [World.size_alloc] at hseven
      have HI := Lib.hid hI
      have HL := Lib.hid hL
      have H7 := Lib.hid hseven
      clear hseven hI hL s0 s1 s2 s3 s4
      go_wp2_with (at_builtin; refine wpList_append_own _ rfl _ _ 22 rfl W0.heap.size 33 i0 _ 7 64 Try.underlying22 hi hz0 hz1 hz2 rfl (by decide) _ _ _ rfl ((HI.out.row.alloc _).alloc _) ⟨wr.heap.size + 1, 0, none⟩ 1 1 (tsL ⟨nm, 1 + rc, 1 + rc + rd + rt, 1 + rc + rd, rj, 1 + rq, 0⟩) rfl rfl H7.out (tsL_one _) (by unfold maxLen; omega) (by omega) (by have := Below.size HL.out; simp; omega) ?_; intro v' w4 hown' hgrow hnil')
      go_roundw
      case rel =>
        have hb0 := Below.size HL.out
        refine ⟨k + 1, ts ++ [⟨nm, 1 + rc, 1 + rc + rd + rt, 1 + rc + rd, rj, 1 + rq, 0⟩], by omega, by omega, by go_num, ⟨by simp [HI.out.len], fun y hy => ?_, by rw [tsCells_snoc]; exact hown'⟩, ?_⟩
        · rcases List.mem_append.1 hy with hy | hy
          · exact HI.out.wf y hy
          · obtain rfl := List.mem_singleton.1 hy
            exact ⟨by show nm.size ≤ _; omega, ⟨by show _ ≤ 1 + rc; omega, by show 1 + rc ≤ _; omega⟩, ⟨by show _ ≤ 1 + rc + rd + rt; omega, by show 1 + rc + rd + rt ≤ _; omega⟩, ⟨by show _ ≤ 1 + rc + rd; omega, by show 1 + rc + rd ≤ _; omega⟩, ⟨by show _ ≤ rj; omega, by show rj ≤ _; omega⟩, ⟨by show _ ≤ 1 + rq; omega, by show 1 + rq ≤ _; omega⟩, by show in64 0; unfold in64; omega⟩
        · exact ((((Below.refl W0.heap.size W0).trans HL.out).alloc hb0 _).alloc (by simp; omega) _).grown hgrow (by simp; omega) (fun q hq => (HI.out.row.lt q hq).1)
      case measure => simp [intOf]; omega
    · have hk1 : 1 ≤ k := by omega
      obtain ⟨g, cap2, rfl, hO⟩ := hI.own (by omega)
      have TN := Lib.hid (fun w => turns_any k turn w ht hk1 hk8)
      have RN := fun w => rrest_any turn k w ht (by omega) (by omega)
      obtain ⟨r0, r1⟩ := restI_bd turn k (by omega) (by omega)
      have hti := turnsI_is k turn hk1
      obtain ⟨r, hr⟩ : ∃ r : Nat, restI turn k = (r : Int) := ⟨(restI turn k).toNat, by omega⟩
      rw [hr] at RN r0 r1
      have RN := Lib.hid RN
      generalize turnsI k turn = τ at *
      have hτ : τ ≤ 8 := by omega
      have HTI := Lib.hid hti
      have HLEN := Lib.hid hI.len
      have HO0 := Lib.hid hO
      have HL0 := Lib.hid hL
      clear hr hti hI hO hL
      have hl : ¬ k < 1 := by omega
      · have g1 : decide ((k : Int) < ((1 : Nat) : Int)) = false := decide_eq_false (by omega)
        clear hgo
        go_wp2
        go_loopw [15] (fun i wr2 => ∃ (m : Nat) (ts2 : List Ts), m ≤ k ∧ i = .int .i64 m ∧ OwnT W0.heap.size wr2 g cap2 ts2 ∧ ts2.length = k ∧ Hid (∀ (i : Nat) (x : Ts), ts2[i]? = some x → i < m → x.p = 1 + ((i : Int) * (τ : Int) + (r : Int)) % ((k : Nat) : Int)) ∧ Lt W0 wr2) (fun i _ => k - (intOf i).toNat)
        case atStart => exact ⟨0, ts, Nat.zero_le _, rfl, HO0.out, HLEN.out, Lib.hid (fun i x _ h => absurd h (by omega)), HL0.out⟩
        case round =>
          obtain ⟨m, ts2, hm, rfl, hO2, hl2, hq, hL2⟩ := hrel
          by_cases hmk : m < k
          · obtain ⟨x, hx⟩ : ∃ x, ts2[m]? = some x := ⟨ts2[m], List.getElem?_eq_getElem (by omega)⟩
            have c6 := (hO2.at_ m x hx).c6
            have fz := hO2.fz (m * 7 + 6)
            have hi0 : (0 : Int) ≤ (m : Int) := by omega
            have hi1 : (m : Int) < ((k : Nat) : Int) := by omega
            have hkz : (0 : Int) < ((k : Nat) : Int) := by omega
            have hmul : ((m * τ : Nat) : Int) = (m : Int) * (τ : Int) := Int.natCast_mul m τ
            have hmm : m * τ ≤ 8 * 8 := Nat.mul_le_mul (by omega) hτ
            have hm0 : (0 : Int) ≤ (m : Int) * (τ : Int) := by rw [← hmul]; omega
            have hm1 : (m : Int) * (τ : Int) ≤ 64 := by rw [← hmul]; omega
            have hp0 : 0 ≤ ((m : Int) * (τ : Int) + (r : Int)) % ((k : Nat) : Int) := Int.emod_nonneg _ (by omega)
            have hp1 : ((m : Int) * (τ : Int) + (r : Int)) % ((k : Nat) : Int) < ((k : Nat) : Int) := Int.emod_lt_of_pos _ hkz
            have HX := Lib.hid hx
            have HO2 := Lib.hid hO2
            have HL2 := Lib.hid hL2
            have HLL := Lib.hid hl2
            clear hmul hmm hx hO2 hL2 hl2 hp0 hp1
            go_wp2_with (first
              | (go_at_call 26; (with_reducible refine (TN.out _).mono ?_); rintro e w' ⟨rfl, rfl⟩)
              | (go_at_call 25; (with_reducible refine (RN.out _).mono ?_); rintro e w' ⟨rfl, rfl⟩))
            go_roundw
            case rel =>
              have hp0 : 0 ≤ ((m : Int) * (τ : Int) + (r : Int)) % ((k : Nat) : Int) := Int.emod_nonneg _ (by omega)
              have hp1 : ((m : Int) * (τ : Int) + (r : Int)) % ((k : Nat) : Int) < ((k : Nat) : Int) := Int.emod_lt_of_pos _ (by omega)
              refine ⟨m + 1, ts2.set m { x with p := 1 + ((m : Int) * (τ : Int) + (r : Int)) % ((k : Nat) : Int) }, by omega, by go_num, (by rw [wrap_p _ hp0 hp1 hk8]; exact HO2.out.setP HX.out _ (in64_p _ hp0 hp1 hk8)), by rw [List.length_set]; exact HLL.out, Lib.hid (fun i y hy hi => ?_), setCell_own HL2.out HO2.out.hB _⟩
              by_cases e : m = i
              · subst e
                rw [List.getElem?_set_self (by rw [HLL.out]; omega)] at hy
                cases hy
                rfl
              · rw [List.getElem?_set_ne e] at hy
                exact hq.out i y hy (by omega)
            case measure => simp [intOf]; omega
          · obtain rfl : m = k := by omega
            have HL2 := Lib.hid hL2
            have HO2 := Lib.hid hO2
            have HLL := Lib.hid hl2
            clear hL2 hO2 hl2
            go_wp2
            go_ret
            refine ⟨_, cap2, ts2, by rw [HLL.out]; rfl, HO2.out.row, by rw [HLL.out]; omega, by rw [HLL.out]; omega, ?_, Below.trans HB.out (Below.mono HL2.out (Below.size HB.out))⟩
            exact dist_of (by omega) hk8 (by omega) HTI.out HLL.out (fun i x hx => hq.out i x hx (by have := (List.getElem?_eq_some_iff.1 hx).1; rw [HLL.out] at this; exact this))

theorem set_any (A : Option Addr) (cap : Nat) (l : List Sp) (turn : Int) (w : World) (hR : SRow w A cap l) (ht : in64 turn) :
    Calls Try.prog 10 #[.slice A l.length cap, .int .i64 8, .int .i64 turn] w (SetPost w) := by
  by_cases h0 : l.length = 0
  · rw [h0]; exact set_none A cap turn w ht
  · exact set_some A cap l turn w hR ht h0
end Go.Proofs.Ytapeklpnjckfkaa
