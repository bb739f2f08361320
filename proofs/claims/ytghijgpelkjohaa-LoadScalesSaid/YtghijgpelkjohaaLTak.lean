/- Rows of numbers that come in; tasks out of them. -/
import Derived.Test.YtghijgpelkjohaaLRad
import Derived.Laws.OwnMore
namespace Go.Proofs.Ytghijgpelkjohaa
open Go.RowKit
set_option linter.unusedVariables false
set_option linter.unusedSimpArgs false
structure CRow (w : World) (A : Option Addr) (cap : Nat) (l : List Int) : Prop where
  le : l.length ≤ cap
  mx : cap ≤ 9223372036854775807
  wf : ∀ x ∈ l, in64 x
  at_ : ∀ i x, l[i]? = some x → ∃ b o, A = some ⟨b, o, none⟩ ∧ w.cell? ⟨b, o + i, none⟩ = some (.int .i64 x)
theorem CRow.later {w w' : World} {A : Option Addr} {cap : Nat} {l : List Int} (h : CRow w A cap l) (hb : Below w.heap.size w w') : CRow w' A cap l :=
  ⟨h.le, h.mx, h.wf, fun i x hx => by
    obtain ⟨b, o, e, ht⟩ := h.at_ i x hx
    exact ⟨b, o, e, cells_below hb _ _ _ ht⟩⟩
theorem CRow.nil {w : World} (A : Option Addr) (cap : Nat) (h : cap ≤ 9223372036854775807) : CRow w A cap [] := ⟨by simp, h, by simp, by simp⟩
theorem CRow.get {w : World} {A : Option Addr} {cap : Nat} {l : List Int} (h : CRow w A cap l) {k : Nat} (hk : k < l.length) : ∃ b o x, A = some ⟨b, o, none⟩ ∧ l[k]? = some x ∧ in64 x ∧ b < w.heap.size ∧ w.cell? ⟨b, o + k, none⟩ = some (.int .i64 x) := by
  obtain ⟨b, o, e, ht⟩ := h.at_ k l[k] (List.getElem?_eq_getElem hk)
  exact ⟨b, o, l[k], e, List.getElem?_eq_getElem hk, h.wf _ (List.getElem_mem hk), World.block_lt_of_cell? w _ ht, ht⟩
section
open Go.ChangeShapes Go.WideShapes Go.ChangeAt
variable {H : Type} {enc : TypeId × Value → H} {W : World} {base : Nat} {sp : Nat → Bool} {hd : Bool}
set_option maxRecDepth 100000 in
set_option maxRecDepth 100000 in
theorem read_nums {fuel : Nat} {v : Value} {y : DataW H × List MemPlace} (h : DataW.trod enc Try.prog W base sp hd fuel 23 [v] = some y) :
    ∃ A cap l, v = .slice A l.length cap ∧ CRow W A cap l := by
  rcases DataW.trod_slice Try.underlying23 h with ⟨hcs, _⟩ | ⟨a, len, cap, elems, rest, n, _, hcs, _, _, hl', hm, hlen, hel, _, _⟩
  · obtain rfl : v = .slice none 0 0 := by simpa using hcs
    exact ⟨none, 0, [], rfl, CRow.nil _ _ (by omega)⟩
  · obtain rfl : v = .slice (some a) len cap := by simpa using hcs
    have c1 : Try.prog.cellsOf 2 = 1 := by kernel_rfl
    rw [c1] at hel
    unfold maxLen at hm
    rcases Nat.eq_zero_or_pos len with h0 | h0
    · subst h0
      exact ⟨_, cap, [], rfl, CRow.nil _ _ hm⟩
    have hsp := slice_spot hlen h0 (by omega) hel
    obtain ⟨ab, ao, asp⟩ := a
    obtain rfl : asp = none := by injection hsp
    clear hsp
    have key : ∀ i, i < len → ∃ x : Int, in64 x ∧ W.cell? ⟨ab, ao + i, none⟩ = some (.int .i64 x) := by
      intro i hi
      have h1 := hel i hi
      rw [List.getElem?_eq_getElem (by omega)] at h1
      obtain ⟨cl, hcs2, ht⟩ := Option.bind_eq_some_iff.1 h1
      obtain ⟨_, hcl, hat⟩ := World.cells?_some hcs2
      match cl, hcl, hat, ht with
      | [v0], _, hat, ht =>
        obtain ⟨z0, e0, _, w0⟩ := DataW.trod_int Try.underlying2 ht
        obtain rfl : v0 = .int .i64 z0 := by simpa using e0
        have := hat 0 (by simp)
        simp only [add_none, Nat.mul_one, Nat.add_zero] at this
        exact ⟨z0, in64_of w0, by simpa using this⟩
    obtain ⟨l, hl, hp⟩ := list_of len key
    subst hl
    refine ⟨some ⟨ab, ao, none⟩, cap, l, rfl, ⟨hl', hm, fun x hx => ?_, fun i x hx => ⟨ab, ao, rfl, (hp i x hx).2⟩⟩⟩
    obtain ⟨i, hi, rfl⟩ := List.getElem_of_mem hx
    exact (hp i _ (List.getElem?_eq_getElem hi)).1
end
/-! ### An own row of tasks, one more -/
theorem own_len {w : World} {B e size n : Nat} {v : Value} {xs : List Value} (h : w.ownsRow B e size v n xs) : ∃ A cap, v = .slice A n cap ∧ n ≤ cap ∧ cap ≤ maxLen := by
  rcases h.2 with ⟨hv, h0⟩ | ⟨g, cap, cur, hv, hb, hh, hle, hmx, _, _⟩
  · exact ⟨none, 0, by rw [hv, h0], by omega, by unfold maxLen; omega⟩
  · exact ⟨_, cap, hv, hle, hmx⟩
theorem step_append_task {ops : Array Oper} {o : Oper} {a : Act} {w : World} {K : Act → World → Prop} {Q : Exit → Act → World → Prop} {E : Prop}
    (hg : o.guard = none) (s x : Operand) (hop : o.op = Op.call { callee := Callee.builtin Builtin.append, args := #[s, x], argTypes := #[26, 26] })
    (base : Nat) (v : Value) (n : Nat) (xs : List Value) (hs : a.eval s = v) (hown : w.ownsRow base 40 7 v n xs)
    (ad : Addr) (m c : Nat) (news : List Value) (hx : a.eval x = .slice (some ad) m c) (hn : news.length = m * 7) (hc : ∀ j u, news[j]? = some u → w.cell? (ad.add j) = some u) (h1c : ∀ u ∈ news, u.oneCell' = true)
    (b1 : n + m ≤ 3000000000) (hbase : base ≤ w.heap.size)
    (hK : ∀ v' w', w'.ownsRow base 40 7 v' (n + m) (xs ++ news) → w.grownBy w' v.ownBlock → K (a.put o.dst v') w') :
    if Region.wanted o (yielded ops a.tmps) = true then Oper.wp Try.prog o a w K Q else E := by
  have hw : Region.wanted o (yielded ops a.tmps) = true := by simp [Region.wanted, hg]
  obtain ⟨i0, hi, hz0, hz1, hz2⟩ := info_parts infoTs
  rw [if_pos hw]
  obtain ⟨v', w', hrun, r1, r2, _⟩ := run_append_own (P := Try.prog) w base 26 o.type 40 i0 _ 7 64 Try.underlying26 hi hz0 hz1 hz2 rfl (by omega) v n xs hown ad m c news (by omega) hc h1c (by unfold maxLen; omega) (by omega) hbase
  unfold Oper.wp
  simp [execOp, hop, resolve, invoke, builtin, hs, hx, hrun, Result.andThen]
  exact hK v' w' r1 r2
theorem SetIn.rowR {B : Nat} {w : World} {v : Value} {k : Nat} {ts : List Ts} (h : SetIn B w v k ts) : ∃ A cap, v = .slice A ts.length cap ∧ Row w A cap ts := by
  rcases Nat.eq_zero_or_pos k with h0 | h0
  · subst h0
    obtain rfl := List.eq_nil_of_length_eq_zero h.len
    obtain ⟨A, cap, hv, hl, hm⟩ := own_len h.row
    exact ⟨A, cap, hv, Row.nil _ _ (by unfold maxLen at hm; omega)⟩
  · obtain ⟨g, cap, hv, hO⟩ := h.own h0
    exact ⟨_, cap, by rw [h.len]; exact hv, hO.row⟩
theorem task_new (V : World) (x : Ts) : ∀ j u, (tsL x)[j]? = some u → ((V.alloc (.cells #[.string x.n, .int .i64 x.c, .int .i64 x.t, .int .i64 x.d, .int .i64 x.j, .int .i64 x.q, .int .i64 x.p] 40)).drew).cell? ((⟨V.heap.size, 0, none⟩ : Addr).add j) = some u := fun j u h => seven_new V x j u h
/-- One task of a C and a T. -/
def ctT (c t : Int) : Ts := ⟨{ data := #[] }, c, t, 0, 0, 0, 0⟩
theorem ctT_w {c t : Int} (hc : in64 c) (ht : in64 t) : TsW (ctT c t) := ⟨(by show (0 : Nat) ≤ _; omega), hc, ht, (show in64 0 from ⟨by decide, by decide⟩), (show in64 0 from ⟨by decide, by decide⟩), (show in64 0 from ⟨by decide, by decide⟩), (show in64 0 from ⟨by decide, by decide⟩)⟩
theorem pow_pos2 (m : Nat) : (1 : Int) ≤ 2 ^ m := by
  have h : (0 : Int) < 2 ^ m := Int.pow_pos (by decide)
  omega
theorem shr_in {a : Int} (m : Nat) (h : in64 a) : in64 (a / 2 ^ m) := by
  obtain ⟨h1, h2⟩ := h
  have hp := pow_pos2 m
  by_cases h0 : 0 ≤ a
  · have h1 : 0 ≤ a / 2 ^ m := Int.ediv_nonneg h0 (by omega)
    have h2 : a / 2 ^ m ≤ a := Int.ediv_le_self _ h0
    exact ⟨by omega, by omega⟩
  · have h1 : a / 2 ^ m < 0 := Int.ediv_neg_of_neg_of_pos (by omega) (by omega)
    have h2 : a ≤ a / 2 ^ m := (Int.le_ediv_iff_mul_le (by omega)).2 (by
      have := Int.mul_le_mul_of_nonpos_left (a := a) (by omega) hp
      omega)
    exact ⟨by omega, by omega⟩
theorem SetIn.snoc {B : Nat} {w w' : World} {v v' : Value} {k : Nat} {ts : List Ts} {x : Ts} (h : SetIn B w v k ts) (hx : TsW x) (ho : w'.ownsRow B 40 7 v' (k + 1) (tsCells ts ++ tsL x)) : SetIn B w' v' (k + 1) (ts ++ [x]) :=
  ⟨by simp [h.len], fun y hy => by
    rcases List.mem_append.1 hy with hy | hy
    · exact h.wf y hy
    · obtain rfl := List.mem_singleton.1 hy
      exact hx, by rw [tsCells_snoc]; exact ho⟩
/-- What tasks tells. -/
def TkP (w : World) (e : Ending) (w' : World) : Prop := ∃ A cap ts, e = .returned (.slice A ts.length cap) ∧ Row w' A cap ts ∧ ts.length ≤ 8 ∧ Below w.heap.size w w'
set_option maxRecDepth 100000 in
set_option maxHeartbeats 4000000 in
theorem tasks_any (A : Option Addr) (cap : Nat) (l : List Int) (bt : Int) (w : World) (hR : CRow w A cap l) (hb : in64 bt) :
    Calls Try.prog 12 #[.slice A l.length cap, .int .i64 bt] w (TkP w) := by
  have hle := hR.le
  have hmx := hR.mx
  have ROW := Lib.hid hR
  have HB0 : Hid (Below w.heap.size w w) := Lib.hid (Below.refl _ _)
  clear hR
  generalize hN : l.length = N at *
  have HN := Lib.hid hN
  clear hN
  go_enter Try.func12, Try.ntmps12
  go_wp2
  go_loopw [5, 6] (fun v i wr => ∃ (k m : Nat) (ts : List Ts), Hid (m = 2 * k) ∧ k ≤ 6 ∧ m ≤ N + 1 ∧ i = .int .i64 m ∧ Hid (SetIn w.heap.size wr v k ts) ∧ Hid (Lt w wr)) (fun _ i _ => 20 - (intOf i).toNat)
  case atStart => exact ⟨0, 0, [], Lib.hid rfl, by omega, by omega, rfl, Lib.hid (SetIn.nil _ _), Lib.hid (Below.refl _ _)⟩
  case round =>
    obtain ⟨k, m, ts, hm2, hk, hmN, rfl, HI, HL⟩ := hrel
    by_cases hgo : m + 1 < N ∧ m < 12
    · obtain ⟨hlt, h12⟩ := hgo
      obtain ⟨b, o, x, rfl, hx, hxw, hbl, hc⟩ := ROW.out.get (k := m) (by rw [HN.out]; omega)
      obtain ⟨b2, o2, y, he, hy, hyw, hbl2, hd⟩ := ROW.out.get (k := m + 1) (by rw [HN.out]; omega)
      cases he
      have c0 := cells_below HL.out _ _ _ hc
      have c1 := cells_below HL.out _ _ _ hd
      obtain ⟨A0, cap0, hv0, hl0, hm0⟩ := own_len HI.out.row
      subst hv0
      have g1 : decide ((m : Int) + 1 < (N : Int)) = true := decide_eq_true (by omega)
      have g2 : decide ((m : Int) < 12) = true := decide_eq_true (by omega)
      have i0 : (0 : Int) ≤ (m : Int) := by omega
      have i1 : (m : Int) < (N : Int) := by omega
      have j0 : (0 : Int) ≤ (m : Int) + 1 := by omega
      have j1 : (m : Int) + 1 < (N : Int) := by omega
      have w1 : wrap64 ((m : Int) + 1) = (m : Int) + 1 := IntWalk.wrap64_in _ (by omega)
      have w2 : IntKind.i64.wrap ((m : Int) + 1) = (m : Int) + 1 := IntWalk.i64_in _ (by omega)
      go_upto_region 5 with (fail)
      have HXW := Lib.hid (ctT_w (shr_in (min (IntKind.u64.wrap (Go.bits BinOp.and IntKind.i64 bt 63)).toNat 64) hxw) (shr_in (min (IntKind.u64.wrap (Go.bits BinOp.and IntKind.i64 bt 63)).toNat 64) hyw))
      obtain ⟨sx, hsx⟩ : ∃ z, x / 2 ^ min (IntKind.u64.wrap (Go.bits BinOp.and IntKind.i64 bt 63)).toNat 64 = z := ⟨_, rfl⟩
      obtain ⟨sy, hsy⟩ : ∃ z, y / 2 ^ min (IntKind.u64.wrap (Go.bits BinOp.and IntKind.i64 bt 63)).toNat 64 = z := ⟨_, rfl⟩
      rw [hsx, hsy] at HXW
      have HTN := Lib.hid (task_new wr (ctT sx sy))
      have HRW : Hid (((wr.alloc (.cells #[.string { data := #[] }, .int .i64 sx, .int .i64 sy, .int .i64 0, .int .i64 0, .int .i64 0, .int .i64 0] 40)).drew).ownsRow w.heap.size 40 7 (.slice A0 k cap0) k (tsCells ts)) := Lib.hid (HI.out.row.alloc _)
      have HSZ : Hid (w.heap.size ≤ ((wr.alloc (.cells #[.string { data := #[] }, .int .i64 sx, .int .i64 sy, .int .i64 0, .int .i64 0, .int .i64 0, .int .i64 0] 40)).drew).heap.size) := Lib.hid (by have := Below.size HL.out; simp; omega)
      have HBW : Hid (Below w.heap.size w ((wr.alloc (.cells #[.string { data := #[] }, .int .i64 sx, .int .i64 sy, .int .i64 0, .int .i64 0, .int .i64 0, .int .i64 0] 40)).drew)) := Lib.hid (Below.trans (Below.alloc HL.out (Below.size HL.out) _) ((below_drew _).mono (by have := Below.size HL.out; simp; omega)))
      subst hsx
      subst hsy
      go_region_law (refine step_append_task rfl (.tmp 18) (.tmp 37) rfl w.heap.size _ k (tsCells ts) rfl HRW.out _ 1 1 (tsL (ctT _ _)) rfl rfl HTN.out (tsL_one _) (by omega) HSZ.out ?_; intro v' w8 o1 g8; have HO := Lib.hid o1; have HG := Lib.hid g8; clear o1 g8)
      all_goals
        go_wp2
        go_roundw
        case rel => exact ⟨k + 1, m + 2, _, Lib.hid (by have := hm2.out; omega), by have := hm2.out; omega, by omega, by go_num, Lib.hid (HI.out.snoc HXW.out HO.out), Lib.hid (Below.grown HBW.out HG.out HSZ.out (fun q hq => (HI.out.row.lt q hq).1))⟩
        case measure => simp [intOf]; omega
    · obtain ⟨A0, cap0, hv0, hF⟩ := HI.out.rowR
      have HFR := Lib.hid hF
      have HK := Lib.hid HI.out.len
      subst hv0
      clear hF HI
      by_cases h1 : m + 1 < N
      · have g1 : decide ((m : Int) + 1 < (N : Int)) = true := decide_eq_true (by omega)
        have g2 : decide ((m : Int) < 12) = false := decide_eq_false (by omega)
        have w1 : wrap64 ((m : Int) + 1) = (m : Int) + 1 := IntWalk.wrap64_in _ (by have := hm2.out; omega)
        clear hgo
        go_wp2
        go_ret
        exact ⟨A0, cap0, ts, rfl, HFR.out, by have := HK.out; omega, HL.out⟩
      · have g1 : decide ((m : Int) + 1 < (N : Int)) = false := decide_eq_false (by omega)
        have w1 : wrap64 ((m : Int) + 1) = (m : Int) + 1 := IntWalk.wrap64_in _ (by have := hm2.out; omega)
        clear hgo
        go_wp2
        go_ret
        exact ⟨A0, cap0, ts, rfl, HFR.out, by have := HK.out; omega, HL.out⟩
end Go.Proofs.Ytghijgpelkjohaa
