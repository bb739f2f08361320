/- What Sum holds of memory, and its steps. -/
import Derived.Test.YtghijgpelkjohaaLHas
import Derived.StillTailTactics
namespace Go.Proofs.Ytghijgpelkjohaa
open Go.RowKit
set_option linter.unusedVariables false
set_option linter.unusedSimpArgs false
/-- What Sum's variables are. -/
structure St where
  s : Fr
  nx : Fr
  wd : Int
  lf : Int
  rt : Int
  bo : Int
  ok : Bool
abbrev pt (b i : Nat) : Value := .pointer (some ⟨b, i, none⟩)
abbrev clo1 (M : Nat) : Value := .func (.func 32) #[] #[pt (M + 5) 0, pt M 0, pt (M + 1) 0, pt (M + 6) 0]
abbrev clo2 (M : Nat) : Value := .func (.func 34) #[] #[pt (M + 5) 0, pt (M + 1) 0, pt (M + 2) 0, pt (M + 6) 0]
abbrev clo3 (M : Nat) : Value := .func (.func 36) #[] #[pt M 0, pt (M + 1) 0, pt (M + 3) 0, pt (M + 6) 0]
abbrev clo4 (M : Nat) : Value := .func (.func 37) #[] #[pt (M + 2) 0, pt (M + 3) 0, pt (M + 4) 0, pt (M + 6) 0]
/-- Where they lie: from block M on. -/
structure SU (M : Nat) (w : World) (t : St) : Prop where
  nx : w.heap[M]? = some (.cells #[.int .u64 t.nx.n, .int .u64 t.nx.d] 32 (0, 0))
  wd : w.heap[M + 1]? = some (.cells #[.int .u64 t.wd] 30 (0, 0))
  lf : w.heap[M + 2]? = some (.cells #[.int .u64 t.lf] 30 (0, 0))
  rt : w.heap[M + 3]? = some (.cells #[.int .u64 t.rt] 30 (0, 0))
  bo : w.heap[M + 4]? = some (.cells #[.int .u64 t.bo] 30 (0, 0))
  s : w.heap[M + 5]? = some (.cells #[.int .u64 t.s.n, .int .u64 t.s.d] 32 (0, 0))
  ok : w.heap[M + 6]? = some (.cells #[.bool t.ok] 4 (0, 0))
  st : w.heap[M + 7]? = some (.cells #[clo1 M, clo2 M, clo3 M, clo4 M] 68 (0, 0))
theorem SU.lt {M : Nat} {w : World} {t : St} (h : SU M w t) : M + 7 < w.heap.size := (Array.getElem?_eq_some_iff.1 h.st).1
theorem SU.later {M : Nat} {w w' : World} {t : St} (h : SU M w t) (hb : Below w.heap.size w w') : SU M w' t := by
  have hl := h.lt
  exact ⟨(hb.block _ (by omega)).trans h.nx, (hb.block _ (by omega)).trans h.wd, (hb.block _ (by omega)).trans h.lf, (hb.block _ (by omega)).trans h.rt, (hb.block _ (by omega)).trans h.bo, (hb.block _ (by omega)).trans h.s, (hb.block _ (by omega)).trans h.ok, (hb.block _ (by omega)).trans h.st⟩
theorem hset (w : World) (b k : Nat) (v : Value) (h : k ≠ b) (i : Nat) : (w.setCell ⟨b, i, none⟩ v).heap[k]? = w.heap[k]? := Below.heap_setCell _ _ _ _ h
theorem SU.set_wd {M : Nat} {w : World} {t : St} (h : SU M w t) (v : Int) : SU M (w.setCell ⟨M + 1, 0, none⟩ (.int .u64 v)) { t with wd := v } :=
  ⟨(hset _ _ _ _ (by omega) 0).trans h.nx, heap_setCell_same _ _ 0 _ _ _ h.wd, (hset _ _ _ _ (by omega) 0).trans h.lf, (hset _ _ _ _ (by omega) 0).trans h.rt, (hset _ _ _ _ (by omega) 0).trans h.bo, (hset _ _ _ _ (by omega) 0).trans h.s, (hset _ _ _ _ (by omega) 0).trans h.ok, (hset _ _ _ _ (by omega) 0).trans h.st⟩
theorem SU.set_lf {M : Nat} {w : World} {t : St} (h : SU M w t) (v : Int) : SU M (w.setCell ⟨M + 2, 0, none⟩ (.int .u64 v)) { t with lf := v } :=
  ⟨(hset _ _ _ _ (by omega) 0).trans h.nx, (hset _ _ _ _ (by omega) 0).trans h.wd, heap_setCell_same _ _ 0 _ _ _ h.lf, (hset _ _ _ _ (by omega) 0).trans h.rt, (hset _ _ _ _ (by omega) 0).trans h.bo, (hset _ _ _ _ (by omega) 0).trans h.s, (hset _ _ _ _ (by omega) 0).trans h.ok, (hset _ _ _ _ (by omega) 0).trans h.st⟩
theorem SU.set_rt {M : Nat} {w : World} {t : St} (h : SU M w t) (v : Int) : SU M (w.setCell ⟨M + 3, 0, none⟩ (.int .u64 v)) { t with rt := v } :=
  ⟨(hset _ _ _ _ (by omega) 0).trans h.nx, (hset _ _ _ _ (by omega) 0).trans h.wd, (hset _ _ _ _ (by omega) 0).trans h.lf, heap_setCell_same _ _ 0 _ _ _ h.rt, (hset _ _ _ _ (by omega) 0).trans h.bo, (hset _ _ _ _ (by omega) 0).trans h.s, (hset _ _ _ _ (by omega) 0).trans h.ok, (hset _ _ _ _ (by omega) 0).trans h.st⟩
theorem SU.set_bo {M : Nat} {w : World} {t : St} (h : SU M w t) (v : Int) : SU M (w.setCell ⟨M + 4, 0, none⟩ (.int .u64 v)) { t with bo := v } :=
  ⟨(hset _ _ _ _ (by omega) 0).trans h.nx, (hset _ _ _ _ (by omega) 0).trans h.wd, (hset _ _ _ _ (by omega) 0).trans h.lf, (hset _ _ _ _ (by omega) 0).trans h.rt, heap_setCell_same _ _ 0 _ _ _ h.bo, (hset _ _ _ _ (by omega) 0).trans h.s, (hset _ _ _ _ (by omega) 0).trans h.ok, (hset _ _ _ _ (by omega) 0).trans h.st⟩
theorem SU.set_ok {M : Nat} {w : World} {t : St} (h : SU M w t) (v : Bool) : SU M (w.setCell ⟨M + 6, 0, none⟩ (.bool v)) { t with ok := v } :=
  ⟨(hset _ _ _ _ (by omega) 0).trans h.nx, (hset _ _ _ _ (by omega) 0).trans h.wd, (hset _ _ _ _ (by omega) 0).trans h.lf, (hset _ _ _ _ (by omega) 0).trans h.rt, (hset _ _ _ _ (by omega) 0).trans h.bo, (hset _ _ _ _ (by omega) 0).trans h.s, heap_setCell_same _ _ 0 _ _ _ h.ok, (hset _ _ _ _ (by omega) 0).trans h.st⟩
theorem SU.set_nx {M : Nat} {w : World} {t : St} (h : SU M w t) (v : Fr) : SU M ((w.setCell ⟨M, 0, none⟩ (.int .u64 v.n)).setCell ⟨M, 1, none⟩ (.int .u64 v.d)) { t with nx := v } :=
  ⟨heap_setCell_same _ _ 1 _ _ _ (heap_setCell_same _ _ 0 _ _ _ h.nx), (hset _ _ _ _ (by omega) 1).trans ((hset _ _ _ _ (by omega) 0).trans h.wd), (hset _ _ _ _ (by omega) 1).trans ((hset _ _ _ _ (by omega) 0).trans h.lf), (hset _ _ _ _ (by omega) 1).trans ((hset _ _ _ _ (by omega) 0).trans h.rt), (hset _ _ _ _ (by omega) 1).trans ((hset _ _ _ _ (by omega) 0).trans h.bo), (hset _ _ _ _ (by omega) 1).trans ((hset _ _ _ _ (by omega) 0).trans h.s), (hset _ _ _ _ (by omega) 1).trans ((hset _ _ _ _ (by omega) 0).trans h.ok), (hset _ _ _ _ (by omega) 1).trans ((hset _ _ _ _ (by omega) 0).trans h.st)⟩
theorem SU.set_s {M : Nat} {w : World} {t : St} (h : SU M w t) (v : Fr) : SU M ((w.setCell ⟨M + 5, 0, none⟩ (.int .u64 v.n)).setCell ⟨M + 5, 1, none⟩ (.int .u64 v.d)) { t with s := v } :=
  ⟨(hset _ _ _ _ (by omega) 1).trans ((hset _ _ _ _ (by omega) 0).trans h.nx), (hset _ _ _ _ (by omega) 1).trans ((hset _ _ _ _ (by omega) 0).trans h.wd), (hset _ _ _ _ (by omega) 1).trans ((hset _ _ _ _ (by omega) 0).trans h.lf), (hset _ _ _ _ (by omega) 1).trans ((hset _ _ _ _ (by omega) 0).trans h.rt), (hset _ _ _ _ (by omega) 1).trans ((hset _ _ _ _ (by omega) 0).trans h.bo), heap_setCell_same _ _ 1 _ _ _ (heap_setCell_same _ _ 0 _ _ _ h.s), (hset _ _ _ _ (by omega) 1).trans ((hset _ _ _ _ (by omega) 0).trans h.ok), (hset _ _ _ _ (by omega) 1).trans ((hset _ _ _ _ (by omega) 0).trans h.st)⟩
theorem row_c {w : World} {b : Nat} {cs : Array Value} {T : TypeId} (h : w.heap[b]? = some (.cells cs T (0, 0))) (i : Nat) : w.cell? ⟨b, i, none⟩ = cs[i]? := cell_of_row w b i _ _ _ h
theorem below_set {B b : Nat} {W W' : World} (h : Below B W W') (hb : B ≤ b) (i : Nat) (u : Value) : Below B W (W'.setCell ⟨b, i, none⟩ u) := h.setCell (p := ⟨b, i, none⟩) hb u
set_option maxRecDepth 100000 in
set_option maxHeartbeats 4000000 in
theorem clo1_any (M : Nat) (w : World) (t : St) (h : SU M w t) (hs : U t.s.d) (hn : U t.nx.d) :
    Calls Try.prog 32 #[pt (M + 5) 0, pt M 0, pt (M + 1) 0, pt (M + 6) 0] w fun e w' => e = .returned (.tuple #[]) ∧ SU M w' { t with wd := lcmN t.s.d t.nx.d, ok := lcmB t.s.d t.nx.d } ∧ Below M w w' := by
  have HS := Lib.hid h
  have a1 : w.cell? ⟨M + 5, 1, none⟩ = some (.int .u64 t.s.d) := row_c h.s 1
  have za1 := fun i => frozen_of_row w _ i _ _ h.s
  have a2 : w.cell? ⟨M, 1, none⟩ = some (.int .u64 t.nx.d) := row_c h.nx 1
  have za2 := fun i => frozen_of_row w _ i _ _ h.nx
  have a3 : w.cell? ⟨M + 1, 0, none⟩ = some (.int .u64 t.wd) := row_c h.wd 0
  have za3 := fun i => frozen_of_row w _ i _ _ h.wd
  have a4 : w.cell? ⟨M + 6, 0, none⟩ = some (.bool t.ok) := row_c h.ok 0
  have za4 := fun i => frozen_of_row w _ i _ _ h.ok
  have K := Lib.hid (fun W => lcm_any t.s.d t.nx.d hs.1 hs.2 hn.1 hn.2 W)
  clear h
  obtain ⟨⟨sn, sd⟩, ⟨nn, nd⟩, wd, lf, rt, bo, ok⟩ := t
  simp only at *
  go_enter Try.func32, Try.ntmps32
  go_wp2_with (go_at_call 33; (with_reducible refine (K.out _).mono ?_); rintro e w1 ⟨rfl, rfl⟩)

  refine bodyPost_end (results_none rfl _ _ _) rfl ?_
  exact ⟨rfl, (HS.out.set_wd _).set_ok _, below_set (below_set (Below.refl _ _) (by omega) _ _) (by omega) _ _⟩
set_option maxRecDepth 100000 in
set_option maxHeartbeats 4000000 in
theorem clo2_any (M : Nat) (w : World) (t : St) (h : SU M w t) (hn : U t.s.n) (hd : U t.s.d) (hp : 0 < t.s.d) (hw : U t.wd) :
    Calls Try.prog 34 #[pt (M + 5) 0, pt (M + 1) 0, pt (M + 2) 0, pt (M + 6) 0] w fun e w' => e = .returned (.tuple #[]) ∧ SU M w' { t with lf := mulN t.s.n (t.wd / t.s.d), ok := mulB t.s.n (t.wd / t.s.d) } ∧ Below M w w' := by
  have HS := Lib.hid h
  have a0 : w.cell? ⟨M + 5, 0, none⟩ = some (.int .u64 t.s.n) := row_c h.s 0
  have za0 := fun i => frozen_of_row w _ i _ _ h.s
  have a1 : w.cell? ⟨M + 5, 1, none⟩ = some (.int .u64 t.s.d) := row_c h.s 1
  have za1 := fun i => frozen_of_row w _ i _ _ h.s
  have a2 : w.cell? ⟨M + 1, 0, none⟩ = some (.int .u64 t.wd) := row_c h.wd 0
  have za2 := fun i => frozen_of_row w _ i _ _ h.wd
  have a3 : w.cell? ⟨M + 2, 0, none⟩ = some (.int .u64 t.lf) := row_c h.lf 0
  have za3 := fun i => frozen_of_row w _ i _ _ h.lf
  have a4 : w.cell? ⟨M + 6, 0, none⟩ = some (.bool t.ok) := row_c h.ok 0
  have za4 := fun i => frozen_of_row w _ i _ _ h.ok
  have hq := quo_u hw hd.1
  have K := Lib.hid (fun W => mul_any t.s.n (t.wd / t.s.d) hn.1 hn.2 hq.1 hq.2 W)
  have hz : (t.s.d == 0) = false := by simp; omega
  have hwq : IntKind.u64.wrap (t.wd.tdiv t.s.d) = t.wd / t.s.d := by rw [Int.tdiv_eq_ediv_of_nonneg hw.1, IntKind.wrap_u64]; exact Int.emod_eq_of_lt hq.1 (by have := hq.2; omega)
  have hnz : t.s.d ≠ 0 := by omega
  obtain ⟨hd0, hd1⟩ := hd
  obtain ⟨hw0, hw1⟩ := hw
  clear h
  obtain ⟨⟨sn, sd⟩, ⟨nn, nd⟩, wd, lf, rt, bo, ok⟩ := t
  simp only at *
  go_enter Try.func34, Try.ntmps34
  go_region_with (go_at_call 35; (with_reducible refine (K.out _).mono ?_); rintro e w1 ⟨rfl, rfl⟩)

  all_goals
    refine bodyPost_end (results_none rfl _ _ _) rfl ?_
    exact ⟨rfl, ((HS.out.set_lf _).set_ok _).later (below_drew _), (below_set (below_set (Below.refl _ _) (by omega) _ _) (by omega) _ _).trans ((below_drew _).mono (by have := HS.out.lt; simp; omega))⟩
set_option maxRecDepth 100000 in
set_option maxHeartbeats 4000000 in
theorem clo3_any (M : Nat) (w : World) (t : St) (h : SU M w t) (hn : U t.nx.n) (hd : U t.nx.d) (hp : 0 < t.nx.d) (hw : U t.wd) :
    Calls Try.prog 36 #[pt M 0, pt (M + 1) 0, pt (M + 3) 0, pt (M + 6) 0] w fun e w' => e = .returned (.tuple #[]) ∧ SU M w' { t with rt := mulN t.nx.n (t.wd / t.nx.d), ok := mulB t.nx.n (t.wd / t.nx.d) } ∧ Below M w w' := by
  have HS := Lib.hid h
  have a0 : w.cell? ⟨M, 0, none⟩ = some (.int .u64 t.nx.n) := row_c h.nx 0
  have za0 := fun i => frozen_of_row w _ i _ _ h.nx
  have a1 : w.cell? ⟨M, 1, none⟩ = some (.int .u64 t.nx.d) := row_c h.nx 1
  have za1 := fun i => frozen_of_row w _ i _ _ h.nx
  have a2 : w.cell? ⟨M + 1, 0, none⟩ = some (.int .u64 t.wd) := row_c h.wd 0
  have za2 := fun i => frozen_of_row w _ i _ _ h.wd
  have a3 : w.cell? ⟨M + 3, 0, none⟩ = some (.int .u64 t.rt) := row_c h.rt 0
  have za3 := fun i => frozen_of_row w _ i _ _ h.rt
  have a4 : w.cell? ⟨M + 6, 0, none⟩ = some (.bool t.ok) := row_c h.ok 0
  have za4 := fun i => frozen_of_row w _ i _ _ h.ok
  have hq := quo_u hw hd.1
  have K := Lib.hid (fun W => mul_any t.nx.n (t.wd / t.nx.d) hn.1 hn.2 hq.1 hq.2 W)
  have hz : (t.nx.d == 0) = false := by simp; omega
  have hwq : IntKind.u64.wrap (t.wd.tdiv t.nx.d) = t.wd / t.nx.d := by rw [Int.tdiv_eq_ediv_of_nonneg hw.1, IntKind.wrap_u64]; exact Int.emod_eq_of_lt hq.1 (by have := hq.2; omega)
  have hnz : t.nx.d ≠ 0 := by omega
  obtain ⟨hd0, hd1⟩ := hd
  obtain ⟨hw0, hw1⟩ := hw
  clear h
  obtain ⟨⟨sn, sd⟩, ⟨nn, nd⟩, wd, lf, rt, bo, ok⟩ := t
  simp only at *
  go_enter Try.func36, Try.ntmps36
  go_region_with (go_at_call 35; (with_reducible refine (K.out _).mono ?_); rintro e w1 ⟨rfl, rfl⟩)

  all_goals
    refine bodyPost_end (results_none rfl _ _ _) rfl ?_
    exact ⟨rfl, ((HS.out.set_rt _).set_ok _).later (below_drew _), (below_set (below_set (Below.refl _ _) (by omega) _ _) (by omega) _ _).trans ((below_drew _).mono (by have := HS.out.lt; simp; omega))⟩
set_option maxRecDepth 100000 in
set_option maxHeartbeats 4000000 in
theorem clo4_any (M : Nat) (w : World) (t : St) (h : SU M w t) (hl : U t.lf) (hr : U t.rt) :
    Calls Try.prog 37 #[pt (M + 2) 0, pt (M + 3) 0, pt (M + 4) 0, pt (M + 6) 0] w fun e w' => e = .returned (.tuple #[]) ∧ SU M w' { t with bo := addN t.lf t.rt, ok := addB t.lf t.rt } ∧ Below M w w' := by
  have HS := Lib.hid h
  have a1 : w.cell? ⟨M + 2, 0, none⟩ = some (.int .u64 t.lf) := row_c h.lf 0
  have za1 := fun i => frozen_of_row w _ i _ _ h.lf
  have a2 : w.cell? ⟨M + 3, 0, none⟩ = some (.int .u64 t.rt) := row_c h.rt 0
  have za2 := fun i => frozen_of_row w _ i _ _ h.rt
  have a3 : w.cell? ⟨M + 4, 0, none⟩ = some (.int .u64 t.bo) := row_c h.bo 0
  have za3 := fun i => frozen_of_row w _ i _ _ h.bo
  have a4 : w.cell? ⟨M + 6, 0, none⟩ = some (.bool t.ok) := row_c h.ok 0
  have za4 := fun i => frozen_of_row w _ i _ _ h.ok
  have K := Lib.hid (fun W => add_any t.lf t.rt hl.1 hl.2 hr.1 hr.2 W)
  clear h
  obtain ⟨⟨sn, sd⟩, ⟨nn, nd⟩, wd, lf, rt, bo, ok⟩ := t
  simp only at *
  go_enter Try.func37, Try.ntmps37
  go_wp2_with (go_at_call 38; (with_reducible refine (K.out _).mono ?_); rintro e w1 ⟨rfl, rfl⟩)

  refine bodyPost_end (results_none rfl _ _ _) rfl ?_
  exact ⟨rfl, (HS.out.set_bo _).set_ok _, below_set (below_set (Below.refl _ _) (by omega) _ _) (by omega) _ _⟩
end Go.Proofs.Ytghijgpelkjohaa
