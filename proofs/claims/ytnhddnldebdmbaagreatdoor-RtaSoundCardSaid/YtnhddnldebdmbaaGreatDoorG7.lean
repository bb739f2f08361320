/- Texts about the program, one after the other: EPrR, EPin, Laid, Srt, Ord, HAI, HBI, HCI, HDI, HEI, HFI, HGI. -/
import Derived.Test.YtnhddnldebdmbaaGreatDoorG6
import Derived.Shelf.SlGeneric
import Derived.Shelf.SlSortCmp.Whole1
import Derived.Ground.SlsfProg
import Derived.Ground.SlgnProg
import Derived.Test.YtnhddnldebdmbaaGreatDoorProg
import Derived.Test.YtnhddnldebdmbaaGreatDoorG4
import Derived.Laws.MakeOwn
import Derived.Shelf.SlSortCmp.NoneTotal
/- What the laws call, of the document. -/
namespace Go.Proofs.YtnhddnldebdmbaaGreatDoor
open Go.RowKit
set_option linter.unusedVariables false
set_option linter.unusedSimpArgs false
/-- A row of raw jobs. -/
def FewJ (fs : List Fv) (w : World) (e : Ending) (w' : World) : Prop := ∃ A cap, e = .returned (.slice A fs.length cap) ∧ FRow w' A cap fs ∧ Below w.heap.size w w'
/-- Own jobs. -/
def DecJ (js : List Fv) (w : World) (e : Ending) (w' : World) : Prop := ∃ A cap gs, e = .returned (.slice A js.length cap) ∧ FRow w' A cap js ∧ FOwn 38 w.heap.size w' (.slice A js.length cap) gs ∧ gs.map (·.x) = js ∧ Below w.heap.size w w'
theorem fewT_row (R : Option Addr) (rc : Nat) (rs : List Fv) (w : World) (hR : FRow w R rc rs) : Calls Tryz.prog 7 #[.slice R rs.length rc, .int .i64 12] w (FewJ (fewTS rs) w) :=
  (fewT_any R rc rs w hR).mono fun e w' h => by
    obtain ⟨v, gs, rfl, hG, hg, hb⟩ := h
    obtain ⟨A, c, rfl, F⟩ := hG.frow
    rw [hg] at F
    exact ⟨A, c, by rw [← hg, List.length_map], F, hb⟩
theorem fewE_row (R : Option Addr) (rc : Nat) (rs : List Fv) (w : World) (hR : FRow w R rc rs) : Calls Tryz.prog 7 #[.slice R rs.length rc, .int .i64 8] w (FewJ (fewES rs) w) :=
  (fewE_any R rc rs w hR).mono fun e w' h => by
    obtain ⟨v, gs, rfl, hG, hg, hb⟩ := h
    obtain ⟨A, c, rfl, F⟩ := hG.frow
    rw [hg] at F
    exact ⟨A, c, by rw [← hg, List.length_map], F, hb⟩
theorem fewT_bd (rs : List Fv) : (fewTS rs).length ≤ 12 ∧ ∀ r ∈ fewTS rs, 0 ≤ r.a ∧ r.a < 12 := by
  refine ⟨by rw [fewTS, List.length_map, List.length_take]; omega, fun r hr => ?_⟩
  obtain ⟨y, _, rfl⟩ := List.mem_map.1 hr
  exact emod_bd y.a 12 (by omega)
theorem fewE_bd (rs : List Fv) : (fewES rs).length ≤ 8 ∧ ∀ r ∈ fewES rs, 0 ≤ r.a ∧ r.a < 12 := by
  refine ⟨by rw [fewES, List.length_map, List.length_take]; omega, fun r hr => ?_⟩
  obtain ⟨y, _, rfl⟩ := List.mem_map.1 hr
  exact emod_bd y.a 12 (by omega)
theorem dec_row (A R : Option Addr) (cap rc : Nat) (ts : List Ts) (rs : List Fv) (w : World) (hT : Row w A cap ts) (hR : FRow w R rc rs) (h0 : (chkAll ts).2 = 0) :
    Calls Tryz.prog 6 #[.slice A ts.length cap, .slice R rs.length rc] w (DecJ (decS ts rs) w) :=
  (rdecode_good A R cap rc ts rs w hT hR h0).mono fun e w' h => by
    obtain ⟨v, gs, rfl, hG, hg, hb⟩ := h
    obtain ⟨B, c, rfl, F⟩ := hG.frow
    rw [hg] at F
    have hl : gs.length = (decS ts rs).length := by rw [← hg, List.length_map]
    exact ⟨B, c, gs, by rw [hl], F, by rw [← hl]; exact hG, hg, hb⟩
theorem en_bd {ts : List Ts} {js : List Fv} (hl : Lg js) {n : Nat} (hn : n ≤ 9223372036854775807) : ∀ x ∈ (tst ts js n).en, in64 x := by
  have hI := ti_all (ts := ts) hl n
  intro x hx
  obtain ⟨i, hi, rfl⟩ := List.getElem_of_mem hx
  have e : kO (tst ts js n).en i = (tst ts js n).en[i] := by simp [kO, hi]
  have := hI.en i (by rw [← hI.le]; exact hi)
  unfold in64
  omega
theorem tst_none (ts : List Ts) : ∀ n : Nat, tst ts [] n = ⟨[], none, [], []⟩
  | 0 => rfl
  | n + 1 => by rw [tst_succ, tst_none ts n]; rfl
end Go.Proofs.YtnhddnldebdmbaaGreatDoor
/- Where rows lie, once for all their places. -/
namespace Go.Proofs.YtnhddnldebdmbaaGreatDoor
open Go.RowKit
set_option linter.unusedVariables false
set_option linter.unusedSimpArgs false
theorem bel_step {W w w' : World} (h : Below W.heap.size W w) (hb : Below w.heap.size w w') : Below W.heap.size W w' := h.trans (hb.mono h.size)
/-- Cells of jobs. -/
def JPin (w : World) (b o : Nat) (js : List Fv) : Prop := ∀ i, i < js.length → w.cell? ⟨b, o + i * 5, none⟩ = some (.int .i64 (jb js i).t) ∧ w.cell? ⟨b, o + i * 5 + 1, none⟩ = some (.int .i64 (jb js i).a) ∧ w.cell? ⟨b, o + i * 5 + 2, none⟩ = some (.int .i64 (jb js i).r) ∧ w.cell? ⟨b, o + i * 5 + 3, none⟩ = some (.int .i64 (jb js i).k)
theorem FRow.pin {w : World} {A : Option Addr} {cap : Nat} {js : List Fv} (h : FRow w A cap js) (hn : 0 < js.length) : ∃ b o, A = some ⟨b, o, none⟩ ∧ b < w.heap.size ∧ JPin w b o js := by
  obtain ⟨b, o, x, C, cc, hA, hx, hb, hF⟩ := h.get (k := 0) hn
  refine ⟨b, o, hA, hb, fun i hi => ?_⟩
  obtain ⟨b', o', x', C', cc', hA', hx', hb', hF'⟩ := h.get (k := i) hi
  rw [hA] at hA'
  simp only [Option.some.injEq, Addr.mk.injEq, and_true] at hA'
  obtain ⟨rfl, rfl⟩ := hA'
  rw [jb_get hx']
  exact ⟨hF'.c0, hF'.c1, hF'.c2, hF'.c3⟩
theorem JPin.later {w w' : World} {b o : Nat} {js : List Fv} (h : JPin w b o js) (hb : Below w.heap.size w w') : JPin w' b o js := fun i hi =>
  ⟨cells_below hb _ _ _ (h i hi).1, cells_below hb _ _ _ (h i hi).2.1, cells_below hb _ _ _ (h i hi).2.2.1, cells_below hb _ _ _ (h i hi).2.2.2⟩
/-- Cells of tasks. -/
def TPin (w : World) (b o : Nat) (ts : List Ts) : Prop := ∀ u : Nat, u < ts.length → w.cell? ⟨b, o + u * 7 + 1, none⟩ = some (.int .i64 (tk ts (u : Int)).c) ∧ w.cell? ⟨b, o + u * 7 + 5, none⟩ = some (.int .i64 (tk ts (u : Int)).q) ∧ w.cell? ⟨b, o + u * 7 + 6, none⟩ = some (.int .i64 (tk ts (u : Int)).p)
theorem Row.pin {w : World} {A : Option Addr} {cap : Nat} {ts : List Ts} (h : Row w A cap ts) (hn : 0 < ts.length) : ∃ b o, A = some ⟨b, o, none⟩ ∧ b < w.heap.size ∧ TPin w b o ts := by
  obtain ⟨b, o, x, hA, hx, _, hb, hF⟩ := h.get (k := 0) hn
  refine ⟨b, o, hA, hb, fun i hi => ?_⟩
  obtain ⟨b', o', x', hA', hx', _, hb', hF'⟩ := h.get (k := i) hi
  rw [hA] at hA'
  simp only [Option.some.injEq, Addr.mk.injEq, and_true] at hA'
  obtain ⟨rfl, rfl⟩ := hA'
  rw [tk_get hx']
  exact ⟨hF'.c1, hF'.c5, hF'.c6⟩
theorem TPin.later {w w' : World} {b o : Nat} {ts : List Ts} (h : TPin w b o ts) (hb : Below w.heap.size w w') : TPin w' b o ts := fun i hi =>
  ⟨cells_below hb _ _ _ (h i hi).1, cells_below hb _ _ _ (h i hi).2.1, cells_below hb _ _ _ (h i hi).2.2⟩
/-- Cells of numbers. -/
def CPin (w : World) (b o : Nat) (l : List Int) : Prop := ∀ i, i < l.length → w.cell? ⟨b, o + i, none⟩ = some (.int .i64 (kO l i))
theorem CRow.pin {w : World} {A : Option Addr} {cap : Nat} {l : List Int} (h : CRow w A cap l) (hn : 0 < l.length) : ∃ b o, A = some ⟨b, o, none⟩ ∧ b < w.heap.size ∧ CPin w b o l := by
  obtain ⟨b, o, x, hA, hx, _, hb, hF⟩ := h.get (k := 0) hn
  refine ⟨b, o, hA, hb, fun i hi => ?_⟩
  obtain ⟨b', o', x', hA', hx', _, hb', hF'⟩ := h.get (k := i) hi
  rw [hA] at hA'
  simp only [Option.some.injEq, Addr.mk.injEq, and_true] at hA'
  obtain ⟨rfl, rfl⟩ := hA'
  have e : kO l i = x' := by simp [kO, hx']
  rw [e]
  exact hF'
theorem CPin.later {w w' : World} {b o : Nat} {l : List Int} (h : CPin w b o l) (hb : Below w.heap.size w w') : CPin w' b o l := fun i hi => cells_below hb _ _ _ (h i hi)
def spG (sp : List Spn) (k : Nat) : Spn := (sp[k]?).getD ⟨0, 0, 0⟩
theorem spG_mem {sp : List Spn} {k : Nat} (hk : k < sp.length) : spG sp k ∈ sp := by
  unfold spG
  rw [List.getElem?_eq_getElem hk]
  exact List.getElem_mem hk
theorem spG_map {sp : List Spn} {k : Nat} (f : Spn → Spn) (hk : k < sp.length) : spG (sp.map f) k = f (spG sp k) := by
  simp [spG, hk]
/-- Cells of spans. -/
def SPin (w : World) (b o : Nat) (sp : List Spn) : Prop := ∀ i, i < sp.length → w.cell? ⟨b, o + i * 3, none⟩ = some (.int .i64 ((spG sp i).j : Int)) ∧ w.cell? ⟨b, o + i * 3 + 1, none⟩ = some (.int .i64 (spG sp i).f) ∧ w.cell? ⟨b, o + i * 3 + 2, none⟩ = some (.int .i64 (spG sp i).t)
theorem SpR.pin {w : World} {A : Option Addr} {cap : Nat} {sp : List Spn} (h : SpR w A cap sp) (hn : 0 < sp.length) : ∃ b o, A = some ⟨b, o, none⟩ ∧ b < w.heap.size ∧ SPin w b o sp := by
  obtain ⟨b, o, x, hA, hx, hb, _⟩ := h.get (k := 0) hn
  refine ⟨b, o, hA, hb, fun i hi => ?_⟩
  obtain ⟨b', o', x', hA', hx', hb', hF'⟩ := h.get (k := i) hi
  rw [hA] at hA'
  simp only [Option.some.injEq, Addr.mk.injEq, and_true] at hA'
  obtain ⟨rfl, rfl⟩ := hA'
  have e : spG sp i = x' := by simp [spG, hx']
  rw [e]
  exact hF'
theorem SPin.later {w w' : World} {b o : Nat} {sp : List Spn} (h : SPin w b o sp) (hb : Below w.heap.size w w') : SPin w' b o sp := fun i hi =>
  ⟨cells_below hb _ _ _ (h i hi).1, cells_below hb _ _ _ (h i hi).2.1, cells_below hb _ _ _ (h i hi).2.2⟩
theorem cells3 (w : World) (T : TypeId) (v0 v1 v2 : Value) : (w.alloc (.cells #[v0, v1, v2] T)).cell? ⟨w.heap.size, 0, none⟩ = some v0 ∧ (w.alloc (.cells #[v0, v1, v2] T)).cell? ⟨w.heap.size, 1, none⟩ = some v1 ∧ (w.alloc (.cells #[v0, v1, v2] T)).cell? ⟨w.heap.size, 2, none⟩ = some v2 := by
  refine ⟨?_, ?_, ?_⟩ <;> (rw [cell_of_row _ _ _ _ _ _ (heap_alloc_new w _)]; rfl)
end Go.Proofs.YtnhddnldebdmbaaGreatDoor
/- The library's contract, laid at this seat's translation. -/
namespace Go.Proofs
open Go.Shelf
def Tryz.sortL_ren : Go.Shelf.Ren := ⟨fun | 6 => 59 | 15 => 86 | 14 => 85 | 28 => 112 | 29 => 113 | 20 => 104 | 21 => 105 | 22 => 106 | 23 => 107 | 24 => 108 | 25 => 109 | 26 => 110 | 27 => 111 | 46 => 126 | 47 => 127 | 48 => 128 | 49 => 129 | 50 => 130 | 57 => 134 | n => n, fun | 22 => 42 | 24 => 3 | 25 => 48 | 3 => 3 | 39 => 135 | 0 => 0 | 53 => 173 | 55 => 73 | 4 => 4 | 46 => 167 | 45 => 166 | 50 => 125 | 5 => 5 | 9 => 9 | 66 => 181 | 70 => 185 | 76 => 189 | 77 => 190 | n => n, fun | n => n⟩
theorem Tryz.sortL : Go.Proofs.SlLaysF.n6 Tryz.prog Tryz.sortL_ren := {
  mixed := by kernel_rfl
  f6 := ⟨Tryz.f59.name, by decide, Tryz.func59.trans (congrArg some (by kernel_rfl))⟩
  f14 := ⟨Tryz.f85.name, by decide, Tryz.func85.trans (congrArg some (by kernel_rfl))⟩
  f15 := Tryz.func86.trans (congrArg some (by kernel_rfl))
  f20 := ⟨Tryz.f104.name, by decide, Tryz.func104.trans (congrArg some (by kernel_rfl))⟩
  f21 := ⟨Tryz.f105.name, by decide, Tryz.func105.trans (congrArg some (by kernel_rfl))⟩
  f22 := ⟨Tryz.f106.name, by decide, Tryz.func106.trans (congrArg some (by kernel_rfl))⟩
  f23 := ⟨Tryz.f107.name, by decide, Tryz.func107.trans (congrArg some (by kernel_rfl))⟩
  f24 := ⟨Tryz.f108.name, by decide, Tryz.func108.trans (congrArg some (by kernel_rfl))⟩
  f25 := ⟨Tryz.f109.name, by decide, Tryz.func109.trans (congrArg some (by kernel_rfl))⟩
  f26 := ⟨Tryz.f110.name, by decide, Tryz.func110.trans (congrArg some (by kernel_rfl))⟩
  f27 := ⟨Tryz.f111.name, by decide, Tryz.func111.trans (congrArg some (by kernel_rfl))⟩
  f28 := Tryz.func112.trans (congrArg some (by kernel_rfl))
  f29 := Tryz.func113.trans (congrArg some (by kernel_rfl))
  f46 := ⟨Tryz.f126.name, by decide, Tryz.func126.trans (congrArg some (by kernel_rfl))⟩
  f47 := Tryz.func127.trans (congrArg some (by kernel_rfl))
  f48 := Tryz.func128.trans (congrArg some (by kernel_rfl))
  f49 := ⟨Tryz.f129.name, by decide, Tryz.func129.trans (congrArg some (by kernel_rfl))⟩
  f50 := ⟨Tryz.f130.name, by decide, Tryz.func130.trans (congrArg some (by kernel_rfl))⟩
  f57 := ⟨Tryz.f134.name, by decide, Tryz.func134.trans (congrArg some (by kernel_rfl))⟩
  t0 := Tryz.underlying0
  a0 := Tryz.isAgg0
  z0 := Tryz.sizeOf0
  v0 := Tryz.zeroValue0
  t3 := Tryz.underlying3
  a3 := Tryz.isAgg3
  z3 := Tryz.sizeOf3
  v3 := Tryz.zeroValue3
  t4 := Tryz.underlying4
  a4 := Tryz.isAgg4
  z4 := Tryz.sizeOf4
  v4 := Tryz.zeroValue4
  t5 := Tryz.underlying5
  a5 := Tryz.isAgg5
  z5 := Tryz.sizeOf5
  v5 := Tryz.zeroValue5
  t9 := Tryz.underlying9
  a9 := Tryz.isAgg9
  z9 := Tryz.sizeOf9
  v9 := Tryz.zeroValue9
  t22 := Tryz.underlying42
  a22 := Tryz.isAgg42
  z22 := Tryz.sizeOf42
  v22 := Tryz.zeroValue42
  a24 := Tryz.isAgg3
  z24 := Tryz.sizeOf3
  t25 := Tryz.underlying48
  a25 := Tryz.isAgg48
  z25 := Tryz.sizeOf48
  v25 := Tryz.zeroValue48
  t39 := Tryz.underlying135
  a39 := Tryz.isAgg135
  z39 := Tryz.sizeOf135
  v39 := Tryz.zeroValue135
  t45 := Tryz.underlying166
  a45 := Tryz.isAgg166
  z45 := Tryz.sizeOf166
  v45 := Tryz.zeroValue166
  t46 := Tryz.underlying167
  a46 := Tryz.isAgg167
  z46 := Tryz.sizeOf167
  v46 := Tryz.zeroValue167
  t50 := Tryz.underlying125
  a50 := Tryz.isAgg125
  z50 := Tryz.sizeOf125
  v50 := Tryz.zeroValue125
  t53 := Tryz.underlying173
  a53 := Tryz.isAgg173
  z53 := Tryz.sizeOf173
  v53 := Tryz.zeroValue173
  t55 := Tryz.underlying73
  a55 := Tryz.isAgg73
  z55 := Tryz.sizeOf73
  v55 := Tryz.zeroValue73
  t66 := Tryz.underlying181
  a66 := Tryz.isAgg181
  z66 := Tryz.sizeOf181
  v66 := Tryz.zeroValue181
  t70 := Tryz.underlying185
  a70 := Tryz.isAgg185
  z70 := Tryz.sizeOf185
  v70 := Tryz.zeroValue185
  t76 := Tryz.underlying189
  a76 := Tryz.isAgg189
  z76 := Tryz.sizeOf189
  v76 := Tryz.zeroValue189
  t77 := Tryz.underlying190
  a77 := Tryz.isAgg190
  z77 := Tryz.sizeOf190
  v77 := Tryz.zeroValue190 }
end Go.Proofs
/- The order of jobs: what is compared. -/
namespace Go.Proofs.YtnhddnldebdmbaaGreatDoor
open Go.RowKit Go.Shelf Go.Lib Go.Sort
set_option linter.unusedVariables false
set_option linter.unusedSimpArgs false
attribute [local go_sem ↓] Go.wp_at_zero Go.wp_at_succ
theorem cmp64_any (x y : Int) (w : World) : Calls Tryz.prog 62 #[.int .i64 x, .int .i64 y] w fun e w' => e = .returned (.int .i64 (Lib.compareInt x y)) ∧ w' = w := by
  unfold Lib.compareInt
  by_cases h1 : x < y
  · have t1 : decide (x < y) = true := decide_eq_true h1
    rw [if_pos h1]
    clear h1
    go_enter Tryz.func62, Tryz.ntmps62
    go_wp2
    go_ret
    exact ⟨rfl, rfl⟩
  · have t1 : decide (x < y) = false := decide_eq_false h1
    rw [if_neg h1]
    by_cases h2 : x > y
    · have t2 : decide (x > y) = true := decide_eq_true h2
      have t3 : decide (y < x) = true := decide_eq_true h2
      rw [if_pos h2]
      clear h1 h2
      go_enter Tryz.func62, Tryz.ntmps62
      go_wp2
      go_ret
      exact ⟨rfl, rfl⟩
    · have t2 : decide (x > y) = false := decide_eq_false h2
      have t3 : decide (y < x) = false := decide_eq_false h2
      rw [if_neg h2]
      clear h1 h2
      go_enter Tryz.func62, Tryz.ntmps62
      go_wp2
      go_ret
      exact ⟨rfl, rfl⟩
theorem cmpI_any (x y : Int) (w : World) : Calls Tryz.prog 63 #[.int .i64 x, .int .i64 y] w fun e w' => e = .returned (.int .i64 (Lib.compareInt x y)) ∧ w' = w := by
  unfold Lib.compareInt
  by_cases h1 : x < y
  · have t1 : decide (x < y) = true := decide_eq_true h1
    rw [if_pos h1]
    clear h1
    go_enter Tryz.func63, Tryz.ntmps63
    go_wp2
    go_ret
    exact ⟨rfl, rfl⟩
  · have t1 : decide (x < y) = false := decide_eq_false h1
    rw [if_neg h1]
    by_cases h2 : x > y
    · have t2 : decide (x > y) = true := decide_eq_true h2
      have t3 : decide (y < x) = true := decide_eq_true h2
      rw [if_pos h2]
      clear h1 h2
      go_enter Tryz.func63, Tryz.ntmps63
      go_wp2
      go_ret
      exact ⟨rfl, rfl⟩
    · have t2 : decide (x > y) = false := decide_eq_false h2
      have t3 : decide (y < x) = false := decide_eq_false h2
      rw [if_neg h2]
      clear h1 h2
      go_enter Tryz.func63, Tryz.ntmps63
      go_wp2
      go_ret
      exact ⟨rfl, rfl⟩
set_option maxRecDepth 100000 in
set_option maxHeartbeats 2000000 in
theorem or_any (g : Nat) (a b : Int) (w : World) (h0 : w.cell? ⟨g, 0, none⟩ = some (.int .i64 a)) (h1 : w.cell? ⟨g, 1, none⟩ = some (.int .i64 b)) :
    Calls Tryz.prog 61 #[.slice (some ⟨g, 0, none⟩) 2 2] w fun e w' => e = .returned (.int .i64 (if a = 0 then b else a)) ∧ w' = w := by
  by_cases ha : a = 0
  · subst ha
    rw [if_pos rfl]
    by_cases hb : b = 0
    · subst hb
      go_enter Tryz.func61, Tryz.ntmps61
      go_wp2
      go_loopw [8] (fun i wr => ∃ k : Nat, k ≤ 2 ∧ i = .int .i64 (k : Int) ∧ wr = w) (fun i _ => 2 - (intOf i).toNat)
      case atStart => exact ⟨0, by omega, rfl, rfl⟩
      case round =>
        obtain ⟨k, hk, rfl, rfl⟩ := hrel
        rcases (show k = 0 ∨ k = 1 ∨ k = 2 by omega) with rfl | rfl | rfl
        · go_wp2
          refine ⟨⟨1, by omega, by go_num, by first | rfl | trivial⟩, by first | (simp [intOf]; done) | omega⟩
        · go_wp2
          refine ⟨⟨2, by omega, by go_num, by first | rfl | trivial⟩, by first | (simp [intOf]; done) | omega⟩
        · go_wp2
          go_ret
          exact ⟨rfl, rfl⟩
    · have tb : (b == 0) = false := by simpa using hb
      have tb2 : (b != 0) = true := by simpa using hb
      clear hb
      go_enter Tryz.func61, Tryz.ntmps61
      go_wp2
      go_loopw [8] (fun i wr => ∃ k : Nat, k ≤ 1 ∧ i = .int .i64 (k : Int) ∧ wr = w) (fun i _ => 2 - (intOf i).toNat)
      case atStart => exact ⟨0, by omega, rfl, rfl⟩
      case round =>
        obtain ⟨k, hk, rfl, rfl⟩ := hrel
        rcases (show k = 0 ∨ k = 1 by omega) with rfl | rfl
        · go_wp2
          refine ⟨⟨1, by omega, by go_num, by first | rfl | trivial⟩, by first | (simp [intOf]; done) | omega⟩
        · go_wp2
          go_ret
          exact ⟨rfl, rfl⟩
  · rw [if_neg ha]
    have tb : (a == 0) = false := by simpa using ha
    have tb2 : (a != 0) = true := by simpa using ha
    clear ha
    go_enter Tryz.func61, Tryz.ntmps61
    go_wp2
    go_loopw [8] (fun i wr => i = .int .i64 0 ∧ wr = w) (fun i _ => 0)
    case atStart => exact ⟨rfl, rfl⟩
    case round =>
      obtain ⟨rfl, rfl⟩ := hrel
      go_wp2
      go_ret
      exact ⟨rfl, rfl⟩
/-- What is compared. -/
def cf2 (rx ry x y : Int) : Int := if Lib.compareInt rx ry = 0 then Lib.compareInt x y else Lib.compareInt rx ry
set_option maxRecDepth 100000 in
set_option maxHeartbeats 8000000 in
theorem ord1_any (bx b o n cap x y : Nat) (rx ry : Int) (W : World) (hb : W.cell? ⟨bx, 0, none⟩ = some (.slice (some ⟨b, o, none⟩) n cap)) (hx : W.cell? ⟨b, o + x * 5 + 2, none⟩ = some (.int .i64 rx)) (hy : W.cell? ⟨b, o + y * 5 + 2, none⟩ = some (.int .i64 ry)) (hxn : x < n) (hyn : y < n) :
    Calls Tryz.prog 60 #[.int .i64 (x : Int), .int .i64 (y : Int), .pointer (some ⟨bx, 0, none⟩)] W fun e w' => e = .returned (.int .i64 (cf2 rx ry x y)) ∧ ∃ q os', w' = grow (W.drewN q) os' := by
  have ix0 : (0 : Int) ≤ (x : Int) := by omega
  have ix1 : (x : Int) < (n : Int) := by omega
  have iy0 : (0 : Int) ≤ (y : Int) := by omega
  have iy1 : (y : Int) < (n : Int) := by omega
  have K1 := Lib.hid (fun V => cmp64_any rx ry V)
  have K2 := Lib.hid (fun V => cmpI_any (x : Int) (y : Int) V)
  obtain ⟨r, hr⟩ : ∃ r, cf2 rx ry x y = r := ⟨_, rfl⟩
  rw [hr]
  unfold cf2 at hr
  generalize Lib.compareInt rx ry = c1 at *
  generalize Lib.compareInt (x : Int) (y : Int) = c2 at *
  have HR := Lib.hid hr
  have T0 := Lib.hid (show W.drew.cell? ⟨bx, 0, none⟩ = some (.slice (some ⟨b, o, none⟩) n cap) ∧ W.drew.cell? ⟨b, o + x * 5 + 2, none⟩ = some (.int .i64 rx) ∧ W.drew.cell? ⟨b, o + y * 5 + 2, none⟩ = some (.int .i64 ry) from ⟨hb, hx, hy⟩)
  have T1 : Hid ((W.alloc (.cells #[.int .i64 c1, .int .i64 c2] 3)).drew.cell? ⟨bx, 0, none⟩ = some (.slice (some ⟨b, o, none⟩) n cap) ∧ (W.alloc (.cells #[.int .i64 c1, .int .i64 c2] 3)).drew.cell? ⟨b, o + x * 5 + 2, none⟩ = some (.int .i64 rx) ∧ (W.alloc (.cells #[.int .i64 c1, .int .i64 c2] 3)).drew.cell? ⟨b, o + y * 5 + 2, none⟩ = some (.int .i64 ry)) := Lib.hid (by
    have l1 := World.block_lt_of_cell? W _ hb
    have l2 := World.block_lt_of_cell? W _ hx
    have l3 := World.block_lt_of_cell? W _ hy
    exact ⟨(World.cell?_alloc_lt W _ _ l1).trans hb, (World.cell?_alloc_lt W _ _ l2).trans hx, (World.cell?_alloc_lt W _ _ l3).trans hy⟩)
  have KO := (or_any W.heap.size c1 c2 (W.alloc (.cells #[.int .i64 c1, .int .i64 c2] 3)).drew (by show (W.alloc (.cells #[.int .i64 c1, .int .i64 c2] 3)).cell? _ = _; rw [cell_of_row _ _ 0 _ _ _ (heap_alloc_new _ _)]; rfl) (by show (W.alloc (.cells #[.int .i64 c1, .int .i64 c2] 3)).cell? _ = _; rw [cell_of_row _ _ 1 _ _ _ (heap_alloc_new _ _)]; rfl))
  rw [hr] at KO
  have KO := Lib.hid KO
  clear hr hb hx hy
  go_enter Tryz.func60, Tryz.ntmps60
  go_upto_region 1 with (fail)
  go_region_held_law (fun V => V.cell? ⟨bx, 0, none⟩ = some (.slice (some ⟨b, o, none⟩) n cap) ∧ V.cell? ⟨b, o + x * 5 + 2, none⟩ = some (.int .i64 rx) ∧ V.cell? ⟨b, o + y * 5 + 2, none⟩ = some (.int .i64 ry))
    (first | (with_reducible assumption) | (with_reducible exact T0.out) | (with_reducible exact T1.out) | fail)
    (first
    | (go_at_call 62; (with_reducible refine (K1.out _).mono ?_); rintro e w1 ⟨rfl, rfl⟩)
    | (go_at_call 63; (with_reducible refine (K2.out _).mono ?_); rintro e w1 ⟨rfl, rfl⟩)
    | (go_at_call 61; (with_reducible refine KO.out.mono ?_); rintro e w1 ⟨rfl, rfl⟩)
    | fail)
  all_goals (
    go_wp2
    go_ret
    exact ⟨rfl, 1, #[.cells #[.int .i64 c1, .int .i64 c2] 3], by rw [alloc_eq_grow]; rfl⟩)
end Go.Proofs.YtnhddnldebdmbaaGreatDoor
/- The order of jobs. -/
namespace Go.Proofs.YtnhddnldebdmbaaGreatDoor
open Go.RowKit Go.Shelf Go.Lib Go.Sort
set_option linter.unusedVariables false
set_option linter.unusedSimpArgs false
attribute [local go_sem ↓] Go.wp_at_zero Go.wp_at_succ
theorem make_ints (n : Nat) (hn : n ≤ 1000) (W : World) : ∃ c : Array Value, c.size = n ∧ ∀ W : World, (Instr.makeSlice 42 (.int .i64 (n : Int)) (.int .i64 (n : Int))).run Tryz.prog W = .ok (.slice (some ⟨W.heap.size, 0, none⟩) n n) (W.alloc (.cells c 3)) := by
  obtain ⟨i0, hi, hz0, hz1, hz2⟩ := info_parts infoI
  refine ⟨madeCells (Value.cells (.int .i64 0)) (n * i0.size), by rw [size_madeCells, hz1, Nat.mul_one], fun W => ?_⟩
  have h := run_make (P := Tryz.prog) W 42 3 i0 _ Tryz.underlying42 hi hz0 .i64 .i64 n n (by omega) (Int.le_refl _) (by rw [hz2]; omega) (by omega)
  simpa only [Int.toNat_natCast] using h
/-- What is being made. -/
def IRow (w : World) (g n k : Nat) : Prop := ∃ cur : Array Value, w.heap[g]? = some (.cells cur 3 (0, 0)) ∧ cur.size = n ∧ ∀ j, j < k → cur[j]? = some (.int .i64 (j : Int))
theorem IRow.cell {w : World} {g n k : Nat} (h : IRow w g n k) {i : Nat} (hi : i < n) : (∃ v, w.cell? ⟨g, i, none⟩ = some v) ∧ w.frozen? ⟨g, i, none⟩ = false := by
  obtain ⟨cur, h1, h2, h3⟩ := h
  exact ⟨⟨cur[i], by rw [cell_of_row w g i _ _ _ h1]; exact Array.getElem?_eq_getElem (by omega)⟩, frozen_of_row w g i _ _ h1⟩
theorem IRow.step {w : World} {g n k : Nat} (h : IRow w g n k) (hk : k < n) : IRow (w.setCell ⟨g, k, none⟩ (.int .i64 (k : Int))) g n (k + 1) := by
  obtain ⟨cur, h1, h2, h3⟩ := h
  refine ⟨cur.setIfInBounds k (.int .i64 (k : Int)), heap_setCell_same _ _ _ _ _ _ h1, by simp [h2], fun j hj => ?_⟩
  by_cases e : k = j
  · subst e; simp [h2, hk]
  · rw [Array.getElem?_setIfInBounds_ne e]; exact h3 j (by omega)
abbrev encN (m : Nat) : Fin (m + 1) → Value := fun x => .int .i64 (x.val : Int)
def ids (m : Nat) : Array (Fin (m + 1)) := Array.ofFn id
theorem ids_size (m : Nat) : (ids m).size = m + 1 := by simp [ids]
theorem ids_get {m k : Nat} (h : k < m + 1) : (ids m)[k]!.val = k := by
  rw [getElem!_pos (ids m) k (by rw [ids_size]; exact h)]
  simp [ids]
theorem ids_toList (m : Nat) : (ids m).toList.map Fin.val = List.range (m + 1) := by
  apply List.ext_getElem
  · simp [ids]
  · intro i h1 h2
    have hi : i < (ids m).size := by rw [ids_size]; simpa using h2
    have := ids_get (m := m) (k := i) (by simpa using h2)
    rw [getElem!_pos (ids m) i hi] at this
    rw [List.getElem_map, List.getElem_range]
    exact this
theorem IRow.holds {w : World} {g m : Nat} (h : IRow w g (m + 1) (m + 1)) : Holds (encN m) w g 0 (ids m) := by
  intro j hj
  rw [ids_size] at hj
  obtain ⟨cur, h1, h2, h3⟩ := h
  rw [Nat.zero_add, cell_of_row w g j _ _ _ h1, h3 j hj, encN, ids_get hj]
  exact ⟨rfl, frozen_of_row w g j _ _ h1⟩
theorem below_putRow {α : Type} [Inhabited α] {B : Nat} {w0 w : World} (h : RowKit.Below B w0 w) (enc : α → Value) (g off : Nat) (d : Array α) (hg : B ≤ g) : RowKit.Below B w0 (putRow enc w g off d) :=
  h.trans ⟨rfl, rfl, rfl, by simp, fun k hk => by
    unfold putRow mapBlock
    simp only [Array.getElem?_modify]
    rw [if_neg (by omega)]⟩
theorem below_grow {B : Nat} {w0 w : World} (h : RowKit.Below B w0 w) (os : Array Obj) (hB : B ≤ w.heap.size) : RowKit.Below B w0 (grow w os) :=
  h.trans ⟨rfl, rfl, rfl, by simp, fun k hk => heap_grow_old w os (by omega)⟩
theorem cell_sortWorld {α : Type} [Inhabited α] (enc : α → Value) (w : World) (g off m : Nat) (d : Array α) (os : Array Obj) (b i : Nat) (hb : b ≠ g) (hl : b < w.heap.size) : (sortWorld enc w g off m d os).cell? ⟨b, i, none⟩ = w.cell? ⟨b, i, none⟩ := by
  unfold sortWorld
  rw [cell?_grow _ _ _ (by simp; exact hl), cell?_putRow_other _ _ _ _ _ _ (Or.inl hb)]
  rfl
section
variable {m : Nat} (ks : List Int)
def cfK (x y : Fin (m + 1)) : Int := cf2 (kO ks x.val) (kO ks y.val) x.val y.val
theorem ltOf_cfK (x y : Fin (m + 1)) : ltOf (cfK ks) x y = decide (Ahead ks x.val y.val) := by
  unfold ltOf
  rw [Bool.eq_iff_iff, decide_eq_true_eq, decide_eq_true_eq]
  unfold cfK cf2 Ahead Lib.compareInt
  generalize kO ks x.val = a
  generalize kO ks y.val = b
  by_cases h1 : a < b
  · simp [h1]
  · by_cases h2 : a > b
    · have h3 : ¬ a = b := by omega
      simp [h1, h2, h3]
    · have h3 : a = b := by omega
      subst h3
      by_cases h4 : x.val < y.val
      · simp [h4]
      · by_cases h5 : y.val < x.val
        · simp [h4, h5]
        · simp [h4, h5]
theorem swoK : SWO (ltOf (cfK (m := m) ks)) where
  irrefl x := by
    rw [ltOf_cfK, decide_eq_false_iff_not]
    unfold Ahead
    omega
  trans x y z h1 h2 := by
    rw [ltOf_cfK, decide_eq_true_eq] at h1 h2 ⊢
    unfold Ahead at h1 h2 ⊢
    omega
  ntrans x y z h1 h2 := by
    rw [ltOf_cfK, decide_eq_false_iff_not] at h1 h2 ⊢
    unfold Ahead at h1 h2 ⊢
    omega
end
theorem ord_of {m : Nat} {ks : List Int} (hl : ks.length = m + 1) {d : Array (Fin (m + 1))} (h1 : PermIn 0 (ids m).size (ids m) d) (h2 : SortedIn (ltOf (cfK ks)) 0 (ids m).size d) : IsOrd ks (d.toList.map Fin.val) := by
  rw [ids_size] at h1 h2
  have hs : d.size = m + 1 := by rw [h1.1, ids_size]
  have hp : (d.toList.map Fin.val).Perm (List.range ks.length) := by
    have := h1.2.2
    have e1 : d.extract 0 (m + 1) = d := Array.extract_eq_self_of_le (by omega)
    have e2 : (ids m).extract 0 (m + 1) = ids m := Array.extract_eq_self_of_le (by rw [ids_size]; omega)
    rw [e1, e2] at this
    have h3 := this.map Fin.val
    rw [ids_toList] at h3
    rw [hl]
    exact h3
  refine ⟨hp, List.pairwise_iff_getElem.2 fun j k hj hk hjk => ?_⟩
  have hk2 : k < m + 1 := by rw [List.length_map, Array.length_toList, hs] at hk; exact hk
  have hn := h2 j k (Nat.zero_le _) hjk hk2
  rw [getElem!_pos d k (by omega), getElem!_pos d j (by omega), ltOf_cfK] at hn
  have hnd : (d.toList.map Fin.val).Nodup := hp.nodup_iff.2 List.nodup_range
  have hne := List.pairwise_iff_getElem.1 hnd j k hj hk hjk
  simp only [List.getElem_map, Array.getElem_toList] at hne ⊢
  simp only [decide_eq_false_iff_not] at hn
  unfold Ahead at hn ⊢
  omega
def nL (o : List Nat) : List Int := o.map (fun i : Nat => (i : Int))
/-- What Order tells. -/
def OrdPost (ks : List Int) (w : World) (e : Ending) (w' : World) : Prop := ∃ v o, e = .returned v ∧ IsOrd ks o ∧ w'.ownsRow w.heap.size 3 1 v ks.length (numL (nL o)) ∧ Below w.heap.size w w' ∧ ∃ g, v = .slice (some ⟨g, 0, none⟩) ks.length ks.length
/-- What Order's closure reads. -/
structure Asks (W : World) (bx g : Nat) (js : List Fv) : Prop where
  ex : ∃ b o cap, W.cell? ⟨bx, 0, none⟩ = some (.slice (some ⟨b, o, none⟩) js.length cap) ∧ b ≠ g ∧ b < W.heap.size ∧ ∀ (k : Nat) (x : Fv), js[k]? = some x → W.cell? ⟨b, o + k * 5 + 2, none⟩ = some (.int .i64 x.r)
  ne : bx ≠ g
  lt : bx < W.heap.size
abbrev rls (js : List Fv) : List Int := js.map (·.r)
theorem Asks.reads {W : World} {bx g m : Nat} {js : List Fv} (h : Asks W bx g js) (hl : js.length = m + 1) (size : Nat) :
    CmpLays1 Tryz.prog 60 #[.pointer (some ⟨bx, 0, none⟩)] (encN m) (cfK (rls js)) g 0 size W := by
  intro q os dk hdk x y
  obtain ⟨b, o, cap, hc, hne, hlt, ht⟩ := h.ex
  have hx : x.val < js.length := by rw [hl]; exact x.isLt
  have hy : y.val < js.length := by rw [hl]; exact y.isLt
  have ex : js[x.val]? = some js[x.val] := List.getElem?_eq_getElem hx
  have ey : js[y.val]? = some js[y.val] := List.getElem?_eq_getElem hy
  have px : kO (rls js) x.val = js[x.val].r := by simp [kO, rls, ex]
  have py : kO (rls js) y.val = js[y.val].r := by simp [kO, rls, ey]
  show Calls _ _ _ _ fun e w' => e = .returned (.int .i64 (cf2 (kO (rls js) x.val) (kO (rls js) y.val) x.val y.val)) ∧ _
  rw [px, py]
  have hcell : ∀ b' i, b' ≠ g → b' < W.heap.size → (sortWorld (encN m) W g 0 q dk os).cell? ⟨b', i, none⟩ = W.cell? ⟨b', i, none⟩ := fun b' i h1 h2 => cell_sortWorld _ _ _ _ _ _ _ _ _ h1 h2
  exact ord1_any bx b o js.length cap x.val y.val _ _ _ ((hcell _ _ h.ne h.lt).trans hc) ((hcell _ _ hne hlt).trans (ht _ _ ex)) ((hcell _ _ hne hlt).trans (ht _ _ ey)) hx hy
theorem own_sorted {m : Nat} {w : World} {g n B : Nat} {d : Array (Fin (m + 1))} {os : Array Obj} (hI : IRow w g (m + 1) (m + 1)) (hB : B ≤ g) (hd : d.size = m + 1) (hm : m + 1 ≤ 1000) (o : List Nat) (ho : d.toList.map Fin.val = o) :
    (sortWorld (encN m) w g 0 n d os).ownsRow B 3 1 (.slice (some ⟨g, 0, none⟩) (m + 1) (m + 1)) (m + 1) (numL (nL o)) := by
  have hH := hI.holds
  obtain ⟨cur, h1, h2, h3⟩ := hI
  have hgl := (Array.getElem?_eq_some_iff.1 h1).1
  have hblk : (sortWorld (encN m) w g 0 n d os).heap[g]? = some (.cells (putCells (encN m) 0 d cur) 3 (0, 0)) := by
    unfold sortWorld
    rw [heap_grow_old _ _ (by simp; exact hgl)]
    unfold putRow mapBlock
    simp only [Array.getElem?_modify, if_true]
    show (w.heap[g]?).map _ = _
    rw [h1]; rfl
  have hol : o.length = m + 1 := by rw [← ho, List.length_map, Array.length_toList, hd]
  refine ⟨by simp [numL, nL, hol], .inr ⟨g, m + 1, _, rfl, hB, hblk, by omega, by unfold maxLen; omega, by simp [putCells, h2], ?_⟩⟩
  refine List.ext_getElem? fun j => ?_
  rw [List.getElem?_take]
  by_cases hj : j < m + 1
  · rw [if_pos (by omega), Array.getElem?_toList]
    have h4 : (sortWorld (encN m) w g 0 n d os).cell? ⟨g, j, none⟩ = some (encN m d[j]!) := by
      unfold sortWorld
      rw [cell?_grow _ _ _ (by simp; exact hgl)]
      have h5 := (holds_putRow (encN m) (Sort.ahead w n) g 0 (ids m) d (holds_ahead (encN m) w n g 0 (ids m) hH) (by rw [hd, ids_size]) j (by omega)).1
      rwa [Nat.zero_add] at h5
    rw [cell_of_row _ g j _ _ _ hblk] at h4
    rw [h4, ← ho]
    simp only [numL, nL, List.getElem?_map, Array.getElem?_toList]
    rw [Array.getElem?_eq_getElem (by omega), getElem!_pos d j (by omega)]
    rfl
  · rw [if_neg (by omega), List.getElem?_eq_none]
    simp [numL, nL, hol]; omega
set_option maxRecDepth 100000 in
set_option maxHeartbeats 4000000 in
theorem order_any (A : Option Addr) (cap : Nat) (js : List Fv) (w : World) (hR : FRow w A cap js) (hn : js.length ≤ 1000) :
    Calls Tryz.prog 40 #[.slice A js.length cap] w (OrdPost (rls js) w) := by
  obtain ⟨c, hc, hmk⟩ := make_ints js.length (by omega) w
  obtain ⟨W0, hW0, hbx, hI0, hB0, hs0⟩ : ∃ W0, (w.alloc (.cells #[.slice A js.length cap] 27)).alloc (.cells c 3) = W0 ∧ W0.cell? ⟨w.heap.size, 0, none⟩ = some (.slice A js.length cap) ∧ IRow W0 (w.heap.size + 1) js.length 0 ∧ RowKit.Below w.heap.size w W0 ∧ W0.heap.size = w.heap.size + 1 + 1 := by
    refine ⟨_, rfl, ?_, ⟨c, ?_, hc, fun j hj => absurd hj (by omega)⟩, ((Below.refl w.heap.size w).alloc (Nat.le_refl _) _).alloc (by simp) _, by simp⟩
    · rw [World.cell?_alloc_lt _ _ _ (by simp), cell_of_row _ _ 0 _ _ _ (heap_alloc_new w _)]; rfl
    · have := heap_alloc_new (w.alloc (.cells #[.slice A js.length cap] 27)) (.cells c 3)
      rwa [World.size_alloc] at this
  have HW0 := Lib.hid hW0
  have ROW := Lib.hid hR
  have HB0 := Lib.hid hB0
  have HBX := Lib.hid hbx
  clear hW0 hR hc hB0
  go_enter Tryz.func40, Tryz.ntmps40
  go_upto_region 2 with (fail)
  rw [HW0.out]
  clear HW0 hmk
  go_wp2
  go_loopw [10] (fun i wr => ∃ k : Nat, k ≤ js.length ∧ i = .int .i64 k ∧ IRow wr (w.heap.size + 1) js.length k ∧ (∀ b i, b ≠ w.heap.size + 1 → b < W0.heap.size → wr.cell? ⟨b, i, none⟩ = W0.cell? ⟨b, i, none⟩) ∧ wr.heap.size = W0.heap.size ∧ RowKit.Below w.heap.size w wr) (fun i _ => js.length - (intOf i).toNat)
  case atStart => exact ⟨0, Nat.zero_le _, rfl, hI0, fun _ _ _ _ => rfl, rfl, HB0.out⟩
  case round =>
    obtain ⟨k, hk, rfl, hI, hkeep, hsz, hB⟩ := hrel
    clear hI0
    by_cases hlt : k < js.length
    · obtain ⟨⟨v, cv⟩, fv⟩ := hI.cell hlt
      have hi0 : (0 : Int) ≤ (k : Int) := by omega
      have hi1 : (k : Int) < (js.length : Int) := by omega
      have HI := Lib.hid hI
      have HK := Lib.hid hkeep
      have HB := Lib.hid hB
      have HS := Lib.hid hsz
      clear hI hkeep hB hsz hs0
      go_wp2
      go_roundw
      case rel => exact ⟨k + 1, by omega, by go_num, HI.out.step hlt, fun b i h1 h2 => by rw [World.cell?_setCell_other _ _ _ _ (by intro e; exact h1 (congrArg Addr.block e).symm)]; exact HK.out b i h1 h2, by simp [HS.out], HB.out.setCell (p := ⟨w.heap.size + 1, k, none⟩) (by simp) _⟩
      case measure => simp [intOf]; omega
    · obtain rfl : k = js.length := by omega
      have hbox : wr.cell? ⟨w.heap.size, 0, none⟩ = some (.slice A js.length cap) := (hkeep _ _ (by omega) (by omega)).trans HBX.out
      have HB := Lib.hid hB
      have HS : Hid (wr.heap.size = w.heap.size + 1 + 1) := Lib.hid (hsz.trans hs0)
      by_cases h0 : js = []
      · subst h0
        have S := AnyF.slices_SortFunc_none { Tryz.sortL with } (some ⟨w.heap.size + 1, 0, none⟩) 0 (.func (.func 60) #[] #[.pointer (some ⟨w.heap.size, 0, none⟩)]) wr
        change Calls Tryz.prog 59 _ _ _ at S
        have HSS := Lib.hid S
        have HI := Lib.hid hI
        clear hI hkeep hsz hs0 S
        simp only [List.length_nil] at *
        go_wp2_with (go_at_call 59; (with_reducible refine HSS.out.mono ?_); rintro e w2 ⟨rfl, rfl⟩)
        go_ret
        obtain ⟨cur, h1, h2, _⟩ := HI.out
        exact ⟨_, [], rfl, ⟨by simp, by simp⟩, ⟨rfl, .inr ⟨w.heap.size + 1, 0, cur, rfl, by omega, h1, Nat.le_refl _, by unfold maxLen; omega, by simpa using h2, by simp [numL, nL]⟩⟩, HB.out, ⟨_, rfl⟩⟩
      · obtain ⟨m, hm⟩ : ∃ m, js.length = m + 1 := ⟨js.length - 1, by have : js.length ≠ 0 := fun h => h0 (List.eq_nil_of_length_eq_zero h); omega⟩
        obtain ⟨b, o, x0, C0, cc0, rfl, hx0, hbl, hT0⟩ := ROW.out.get (k := 0) (by omega)
        have hA : Asks wr w.heap.size (w.heap.size + 1) js := ⟨⟨b, o, cap, hbox, by omega, by omega, fun k x hx => by
          obtain ⟨b', o', C, cc, e, hF⟩ := ROW.out.at_ k x hx
          cases e
          exact (hF.later HB.out).c2⟩, by omega, by omega⟩
        have hI2 := hI
        rw [hm] at hI2
        have hH := hI2.holds
        have eg : ∀ args w, (callFunc 60 args).run Tryz.prog w = .ok (.enter 60 args) w := enters_of Tryz.func60 (by kernel_rfl) rfl
        have S := Any.slices_SortFunc Tryz.sortL (encN m) (fun _ => rfl) (cfK (rls js)) (swoK _) 60 #[.pointer (some ⟨w.heap.size, 0, none⟩)] (w.heap.size + 1) 0 js.length (ids m) wr eg (hA.reads hm _) hH (by omega) (by rw [ids_size]; omega)
        change Calls Tryz.prog 59 _ _ _ at S
        have e0 : (ids m).size = js.length := by rw [ids_size, hm]
        have S2 := S
        rw [e0] at S2
        have HSS := Lib.hid S2
        have HM := Lib.hid hm
        have HI2 := Lib.hid hI2
        have HE := Lib.hid e0
        clear hI hkeep hsz hs0 hA hI2 hH h0 hx0 hT0 hm S S2 eg e0
        go_wp2_with (go_at_call 59; (with_reducible refine HSS.out.mono ?_); rintro e w2 ⟨rfl, d', nq, os, hp, hs, rfl⟩; have HP := Lib.hid hp; have HQ := Lib.hid hs; clear hp hs)
        go_ret
        have hks : (rls js).length = m + 1 := by rw [List.length_map, HM.out]
        have hO := ord_of hks (by rw [HE.out]; exact HP.out) (by rw [HE.out]; exact HQ.out)
        have hds : d'.size = m + 1 := by have := HP.out.1; rw [this, ids_size]
        refine ⟨_, _, rfl, hO, ?_, ?_, ⟨w.heap.size + 1, by rw [List.length_map]; rfl⟩⟩
        · rw [hks, HM.out]
          exact own_sorted HI2.out (by omega) hds (by have := HM.out; omega) _ rfl
        · unfold sortWorld
          have hb1 : RowKit.Below w.heap.size w (Sort.ahead wr nq) := HB.out.trans ⟨rfl, rfl, rfl, Nat.le_refl _, fun _ _ => rfl⟩
          exact below_grow (below_putRow hb1 (encN m) (w.heap.size + 1) 0 d' (by omega)) os (by have := HS.out; simp [Sort.ahead]; omega)
end Go.Proofs.YtnhddnldebdmbaaGreatDoor
/- A heap in memory; what goes first. -/
namespace Go.Proofs.YtnhddnldebdmbaaGreatDoor
open Go.RowKit
set_option linter.unusedVariables false
set_option linter.unusedSimpArgs false

/-- What less reads: tasks, of which it asks how urgent they are; where they lie. -/
structure LK where
  bl : Nat
  lb : Nat
  lo : Nat
  cap : Nat
  ps : List Int
/-- What orders things of the heap. -/
abbrev LK.fv (K : LK) : Value := .func (.func 42) #[] #[.pointer (some ⟨K.bl, 0, none⟩)]
def keyK (K : LK) (x : Int) : Int := (K.ps[x.toNat]?).getD 0
def okK (K : LK) (x : Int) : Prop := ∃ i : Nat, x = (i : Int) ∧ i < K.ps.length
structure LessOk (K : LK) (B : Nat) (w : World) : Prop where
  lt : K.bl < B
  lb : K.lb < B
  sz : B ≤ w.heap.size
  few : K.ps.length ≤ 1000000
  cp : K.ps.length ≤ K.cap ∧ K.cap ≤ 9223372036854775807
  box : w.cell? ⟨K.bl, 0, none⟩ = some (.slice (some ⟨K.lb, K.lo, none⟩) K.ps.length K.cap)
  rd : ∀ (i : Nat) (p : Int), K.ps[i]? = some p → w.cell? ⟨K.lb, K.lo + i * 7 + 6, none⟩ = some (.int .i64 p)
theorem LessOk.off {K : LK} {B : Nat} {w : World} (h : LessOk K B w) {k : Nat} (hk : B ≤ k) : k ≠ K.bl ∧ k ≠ K.lb := by
  have := h.lt; have := h.lb; omega
theorem LessOk.kept {K : LK} {B : Nat} {X : List Nat} {w w' : World} (h : LessOk K B w) (hk : Kept X w w') (hz : ∀ k ∈ X, k ≠ K.bl ∧ k ≠ K.lb) : LessOk K B w' := by
  have l1 := h.lt
  have l2 := h.lb
  have l3 := h.sz
  exact ⟨l1, l2, Nat.le_trans l3 hk.size, h.few, h.cp, (hk.cell (by omega) (fun e => (hz _ e).1 rfl)).trans h.box, fun i p hp => (hk.cell (by omega) (fun e => (hz _ e).2 rfl)).trans (h.rd i p hp)⟩
theorem LessOk.later {K : LK} {B : Nat} {w w' : World} (h : LessOk K B w) (hb : Below w.heap.size w w') : LessOk K B w' := h.kept (Kept.of [] hb) (by simp)
variable {K : LK}
/-- The cells of a thing with its turn. -/
def thI (p : Int × Nat) : List Value := [.int .i64 p.1, .int .i64 (p.2 : Int)]
def thCI (l : List (Int × Nat)) : List Value := l.flatMap thI
theorem th_lenI (p : Int × Nat) : (thI p).length = 2 := rfl
theorem thC_lenI : ∀ l : List (Int × Nat), (thCI l).length = l.length * 2
  | [] => rfl
  | p :: l => by
    have := thC_lenI l
    rw [thCI, List.flatMap_cons, List.length_append, th_lenI, List.length_cons]
    rw [thCI] at this
    omega
theorem thC_appI (a b : List (Int × Nat)) : thCI (a ++ b) = thCI a ++ thCI b := by simp [thCI]
theorem thC_getI (l : List (Int × Nat)) : ∀ (i : Nat) (p : Int × Nat), l[i]? = some p → ∀ j u, (thI p)[j]? = some u → (thCI l)[i * 2 + j]? = some u := by
  induction l with
  | nil => intro i p h; simp at h
  | cons a r ih =>
    intro i p h j v hv
    have hj : j < 2 := by
      rcases Nat.lt_or_ge j 2 with h | h
      · exact h
      · rw [List.getElem?_eq_none (by rw [th_lenI]; exact h)] at hv; cases hv
    cases i with
    | zero =>
      simp at h; subst h
      rw [Nat.zero_mul, Nat.zero_add, thCI, List.flatMap_cons, List.getElem?_append_left (by rw [th_lenI]; exact hj)]
      exact hv
    | succ i =>
      simp only [List.getElem?_cons_succ] at h
      have := ih i p h j v hv
      rw [thCI, List.flatMap_cons, List.getElem?_append_right (by rw [th_lenI]; omega), th_lenI]
      rw [show (i + 1) * 2 + j - 2 = i * 2 + j by omega]
      exact this
theorem thC_setI (l : List (Int × Nat)) : ∀ (i : Nat) (p : Int × Nat), i < l.length → thCI (l.set i p) = (((thCI l).set (i * 2) (.int .i64 p.1)).set (i * 2 + 1) (.int .i64 (p.2 : Int))) := by
  induction l with
  | nil => intro i p h; simp at h
  | cons a r ih =>
    intro i p h
    cases i with
    | zero => simp [thCI, thI]
    | succ i =>
      have := ih i p (by simpa using h)
      rw [List.set_cons_succ, thCI, List.flatMap_cons]
      rw [thCI] at this
      rw [this]
      have e : thCI (a :: r) = thI a ++ thCI r := by simp [thCI]
      rw [e]
      simp only [thI, List.cons_append, List.nil_append, show (i + 1) * 2 = i * 2 + 2 by omega, show ∀ m : Nat, i * 2 + 2 + m = i * 2 + m + 2 by intro m; omega]
      simp [thCI]
theorem thC_takeI (l : List (Int × Nat)) : ∀ m, m ≤ l.length → thCI (l.take m) = (thCI l).take (m * 2) := by
  induction l with
  | nil => intro m h; simp at h; subst h; simp [thCI]
  | cons a r ih =>
    intro m h
    cases m with
    | zero => simp [thCI]
    | succ m =>
      have := ih m (by simpa using h)
      rw [List.take_succ_cons, thCI, List.flatMap_cons]
      rw [thCI] at this
      rw [this]
      have e : thCI (a :: r) = thI a ++ thCI r := by simp [thCI]
      rw [e, List.take_append, th_lenI, show (m + 1) * 2 - 2 = m * 2 by omega, List.take_of_length_le (l := thI a) (by rw [th_lenI]; omega)]

/-- Block b is a heap: v its row, of which c came; l the things. -/
structure HBI (K : LK) (B : Nat) (w : World) (b : Nat) (v : Value) (c : Nat) (l : List (Int × Nat)) : Prop where
  hB : B ≤ b
  is : w.heap[b]? = some (.cells #[K.fv, v, .int .i64 (c : Int)] 117 (0, 0))
  row : w.ownsRow B 145 2 v l.length (thCI l)
  ok : ∀ p ∈ l, okK K p.1
  few : ∀ p ∈ l, p.2 < 1000000
  lim : c ≤ 1000000
  less : LessOk K B w
section
variable {B : Nat} {w w' : World} {b c : Nat} {v : Value} {l : List (Int × Nat)}
theorem HBI.lt (h : HBI K B w b v c l) : b < w.heap.size := (Array.getElem?_eq_some_iff.1 h.is).1
theorem HBI.cell (h : HBI K B w b v c l) (i : Nat) : w.cell? ⟨b, i, none⟩ = (#[K.fv, v, .int .i64 (c : Int)] : Array Value)[i]? := cell_of_row w b i _ _ _ h.is
theorem HBI.c0 (h : HBI K B w b v c l) : w.cell? ⟨b, 0, none⟩ = some (K.fv) := h.cell 0
theorem HBI.c1 (h : HBI K B w b v c l) : w.cell? ⟨b, 1, none⟩ = some v := h.cell 1
theorem HBI.c2 (h : HBI K B w b v c l) : w.cell? ⟨b, 2, none⟩ = some (.int .i64 (c : Int)) := h.cell 2
theorem HBI.fz (h : HBI K B w b v c l) (i : Nat) : w.frozen? ⟨b, i, none⟩ = false := by simp [World.frozen?, h.is]
theorem HBI.ne (h : HBI K B w b v c l) : v.ownBlock ≠ some b := own_ne h.row h.is (by decide)
theorem HBI.kept {X : List Nat} (h : HBI K B w b v c l) (hk : Kept X w w') (hx : ∀ k ∈ blk b v, k ∉ X) (hz : ∀ k ∈ X, k ≠ K.bl ∧ k ≠ K.lb) : HBI K B w' b v c l :=
  ⟨h.hB, (hk.block b h.lt (hx b (by simp [blk]))).trans h.is, hk.row h.row (fun g hg => hx g (by simp [blk, hg])), h.ok, h.few, h.lim, h.less.kept hk hz⟩
theorem HBI.later (h : HBI K B w b v c l) (hb : Below w.heap.size w w') : HBI K B w' b v c l := h.kept (Kept.of [] hb) (by simp) (by simp)
theorem HBI.blk_ge (h : HBI K B w b v c l) : ∀ k ∈ blk b v, B ≤ k ∧ k < w.heap.size := by
  intro k hk
  simp only [blk, List.mem_cons] at hk
  rcases hk with rfl | hk
  · exact ⟨h.hB, h.lt⟩
  · exact h.row.lt k (by simpa using hk)
end

theorem run_neq_nilI (fn : Fn) (a b : Array Value) (w : World) : (binOp .neq 89 (.func fn a b) .nilFunc).run Tryz.prog w = .ok (.bool true) w := by
  have h : ∀ d, (Op.equalIn (d + 1) 89 (.func fn a b) .nilFunc).run Tryz.prog w = .ok false w := fun d => by simp [Op.equalIn, run_underlying Tryz.underlying89]
  simp only [binOp]
  simp [Op.equal, Op.maxDepth, h 9999]
set_option maxRecDepth 100000 in
set_option maxHeartbeats 4000000 in
theorem less_anyI {B : Nat} (x y : Int) (w : World) (hL : LessOk K B w) (hx : okK K x) (hy : okK K y) : Calls Tryz.prog 42 #[.int .i64 x, .int .i64 y, .pointer (some ⟨K.bl, 0, none⟩)] w (Ans (decide (keyK K x < keyK K y)) w) := by
  obtain ⟨i, rfl, hi⟩ := hx
  obtain ⟨j, rfl, hj⟩ := hy
  obtain ⟨p, hp⟩ : ∃ p, K.ps[i]? = some p := ⟨K.ps[i], List.getElem?_eq_getElem hi⟩
  obtain ⟨q, hq⟩ : ∃ q, K.ps[j]? = some q := ⟨K.ps[j], List.getElem?_eq_getElem hj⟩
  have ep : keyK K (i : Int) = p := by simp [keyK, hp]
  have eq : keyK K (j : Int) = q := by simp [keyK, hq]
  rw [ep, eq]
  have c0 := hL.box
  have c1 := hL.rd i p hp
  have c2 := hL.rd j q hq
  have i0 : (0 : Int) ≤ (i : Int) := by omega
  have j0 : (0 : Int) ≤ (j : Int) := by omega
  have i1 : (i : Int) < (K.ps.length : Int) := by omega
  have j1 : (j : Int) < (K.ps.length : Int) := by omega
  generalize K.ps.length = n at *
  clear hL hp hq ep eq
  go_enter Tryz.func42, Tryz.ntmps42
  go_upto_region 1 with (fail)
  go_quiet (fail)
  go_wp2
  go_ret
  exact ⟨rfl, below_drewN2 _ _⟩
end Go.Proofs.YtnhddnldebdmbaaGreatDoor
/- Which of two things goes first. -/
namespace Go.Proofs.YtnhddnldebdmbaaGreatDoor
open Go.RowKit
set_option linter.unusedVariables false
set_option linter.unusedSimpArgs false
variable {K : LK}

set_option maxRecDepth 100000 in
set_option maxHeartbeats 2000000 in
theorem isLessI {B b : Nat} (x y : Int) (w : World) (h0 : w.cell? ⟨b, 0, none⟩ = some (K.fv)) (hL : LessOk K B w) (hx : okK K x) (hy : okK K y) :
    Calls Tryz.prog 131 #[.pointer (some ⟨b, 0, none⟩), .int .i64 x, .int .i64 y] w (Ans (decide ((keyK K) x < (keyK K) y)) w) := by
  have KL := Lib.hid (less_anyI x y w hL hx hy)
  generalize decide ((keyK K) x < (keyK K) y) = t at *
  have hb : b < w.heap.size := World.block_lt_of_cell? w _ h0
  have hnn := run_neq_nilI (.func 42) #[] #[.pointer (some ⟨K.bl, 0, none⟩)]
  clear hL hx hy
  go_enter Tryz.func131, Tryz.ntmps131
  go_wp2_with (go_at_call 42; (with_reducible refine KL.out.mono ?_); rintro e w' ⟨rfl, hB⟩)
  go_ret
  exact ⟨rfl, hB⟩

set_option maxRecDepth 100000 in
set_option maxHeartbeats 2000000 in
theorem firstI {B b : Nat} (p q : Int × Nat) (w : World) (h0 : w.cell? ⟨b, 0, none⟩ = some (K.fv)) (hL : LessOk K B w) (hx : okK K p.1) (hy : okK K q.1) :
    Calls Tryz.prog 114 #[.pointer (some ⟨b, 0, none⟩), .agg #[.int .i64 p.1, .int .i64 (p.2 : Int)], .agg #[.int .i64 q.1, .int .i64 (q.2 : Int)]] w (Ans (lexB (keyK K) p q) w) := by
  have hb : b < w.heap.size := World.block_lt_of_cell? w _ h0
  have C : ((w.alloc (.cells #[.int .i64 p.1, .int .i64 (p.2 : Int)] 145)).alloc (.cells #[.int .i64 q.1, .int .i64 (q.2 : Int)] 145)).cell? ⟨b, 0, none⟩ = some (K.fv) := by
    rw [World.cell?_alloc_lt _ _ _ (by simp; omega), World.cell?_alloc_lt _ _ _ (by simpa using hb)]; exact h0
  have hL2 := hL.later (((Below.refl w.heap.size w).alloc (Nat.le_refl _) (.cells #[.int .i64 p.1, .int .i64 (p.2 : Int)] 145)).alloc (by simp) (.cells #[.int .i64 q.1, .int .i64 (q.2 : Int)] 145))
  have K1 := Lib.hid (isLessI q.1 p.1 _ C hL2 hy hx)
  have K2 := Lib.hid (isLessI p.1 q.1 _ C hL2 hx hy)
  clear hL hL2 hx hy
  have hB0 : Below w.heap.size w ((w.alloc (.cells #[.int .i64 p.1, .int .i64 (p.2 : Int)] 145)).alloc (.cells #[.int .i64 q.1, .int .i64 (q.2 : Int)] 145)) := ((Below.refl _ _).alloc (Nat.le_refl _) _).alloc (by simp) _
  have hlx := lexB_first (keyK K) p q
  by_cases hlt : p.2 < q.2
  · rw [if_pos hlt] at hlx
    rw [hlx]
    have ht : decide (p.2 < q.2) = true := decide_eq_true hlt
    have HB := Lib.hid hB0
    clear hlx C h0 hB0
    go_enter Tryz.func114, Tryz.ntmps114
    go_wp2_with (go_at_call 131; (with_reducible refine K1.out.mono ?_); rintro e w' ⟨rfl, hB⟩)
    go_ret
    exact ⟨rfl, HB.out.trans (hB.mono HB.out.size)⟩
  · rw [if_neg hlt] at hlx
    rw [hlx]
    have ht : decide (p.2 < q.2) = false := decide_eq_false hlt
    have HB := Lib.hid hB0
    clear hlx C h0 hB0
    go_enter Tryz.func114, Tryz.ntmps114
    go_wp2_with (go_at_call 131; (with_reducible refine K2.out.mono ?_); rintro e w' ⟨rfl, hB⟩)
    go_ret
    exact ⟨rfl, HB.out.trans (hB.mono HB.out.size)⟩
end Go.Proofs.YtnhddnldebdmbaaGreatDoor
/- A thing goes up. -/
namespace Go.Proofs.YtnhddnldebdmbaaGreatDoor
open Go.RowKit
set_option linter.unusedVariables false
set_option linter.unusedSimpArgs false
variable {K : LK}
attribute [local go_sem ↓] Go.wp_at_zero Go.wp_at_succ

/-- A thing is put at a place. -/
def ptI (w : World) (g i : Nat) (p : Int × Nat) : World := (w.setCell ⟨g, i * 2, none⟩ (.int .i64 p.1)).setCell ⟨g, i * 2 + 1, none⟩ (.int .i64 (p.2 : Int))
section
variable {B : Nat} {w w' : World} {b c : Nat} {v : Value} {l : List (Int × Nat)} {g n cap : Nat}
theorem Kept.storedI {X : List Nat} {a : World} (h : Kept X a w) (g i : Nat) (p : Int × Nat) (hg : g ∈ X) : Kept X a (ptI w g i p) := by
  unfold ptI
  exact (h.set g _ _ hg).set g _ _ hg
theorem HBI.put (h : HBI K B w b v c l) (hg : v.ownBlock = some g) {i : Nat} (hi : i < l.length) {p : Int × Nat} (hp : okK K p.1) (hc : p.2 < 1000000) : HBI K B (ptI w g i p) b v c (l.set i p) := by
  have hne : b ≠ g := fun e => h.ne (by rw [hg, e])
  have hk := Kept.storedI (Kept.refl [g] w) g i p (by simp)
  refine ⟨h.hB, (hk.block b h.lt (by simp; exact hne)).trans h.is, ?_, fun q hq => ?_, fun q hq => ?_, h.lim, h.less.kept hk (fun k e => h.less.off (by rw [List.mem_singleton.1 e]; exact (h.row.lt g hg).1))⟩
  · rw [List.length_set, thC_setI l i p hi]
    have hz : i * 2 + 2 ≤ l.length * 2 := by
      have := Nat.mul_le_mul_right 2 (show i + 1 ≤ l.length from hi)
      omega
    unfold ptI
    exact own_set (own_set h.row hg (by omega) _) hg (by omega) _
  · rcases List.mem_or_eq_of_mem_set hq with hq | rfl
    · exact h.ok q hq
    · exact hp
  · rcases List.mem_or_eq_of_mem_set hq with hq | rfl
    · exact h.few q hq
    · exact hc
theorem HBI.th (h : HBI K B w b v c l) (hg : v.ownBlock = some g) {i : Nat} {p : Int × Nat} (hi : l[i]? = some p) (j : Nat) (u : Value) (hu : (thI p)[j]? = some u) : w.cell? ⟨g, i * 2 + j, none⟩ = some u :=
  own_cell h.row hg (thC_getI l i p hi j u hu)
theorem HBI.glt (h : HBI K B w b v c l) (hg : v.ownBlock = some g) : B ≤ g ∧ g < w.heap.size := h.row.lt g hg
theorem HBI.gfz (h : HBI K B w b v c l) (hg : v.ownBlock = some g) (i : Nat) : w.frozen? ⟨g, i, none⟩ = false := by
  rcases h.row.2 with ⟨rfl, _⟩ | ⟨g', cp, cur, rfl, _, hh, _⟩
  · simp [Value.ownBlock] at hg
  · simp only [Value.ownBlock, Option.some.injEq] at hg
    subst hg
    simp [World.frozen?, hh]
end
/-- Two things, and the function, are kept. -/
structure TwoAtI (K : LK) (B : Nat) (w0 : World) (b g i j : Nat) (x y : Int × Nat) (W : World) : Prop where
  f : W.cell? ⟨b, 0, none⟩ = some (K.fv)
  x0 : W.cell? ⟨g, i * 2, none⟩ = some (.int .i64 x.1)
  x1 : W.cell? ⟨g, i * 2 + 1, none⟩ = some (.int .i64 (x.2 : Int))
  y0 : W.cell? ⟨g, j * 2, none⟩ = some (.int .i64 y.1)
  y1 : W.cell? ⟨g, j * 2 + 1, none⟩ = some (.int .i64 (y.2 : Int))
  bel : Below w0.heap.size w0 W
  ls : LessOk K B W
  ox : okK K x.1
  oy : okK K y.1
theorem TwoAtI.step {B : Nat} {w0 W W' : World} {b g i j : Nat} {x y : Int × Nat} (h : TwoAtI K B w0 b g i j x y W) (hb : b < w0.heap.size) (hg : g < w0.heap.size) (hB : Below W.heap.size W W') : TwoAtI K B w0 b g i j x y W' := by
  have hs := h.bel.size
  have k := fun i => hB.cell (p := ⟨g, i, none⟩) (Nat.lt_of_lt_of_le hg hs)
  exact ⟨(hB.cell (p := ⟨b, 0, none⟩) (Nat.lt_of_lt_of_le hb hs)).trans h.f, (k _).trans h.x0, (k _).trans h.x1, (k _).trans h.y0, (k _).trans h.y1, h.bel.trans (hB.mono hs), h.ls.later hB, h.ox, h.oy⟩
theorem HBI.two {B : Nat} {w : World} {b c g i j : Nat} {v : Value} {l : List (Int × Nat)} {x y : Int × Nat} (h : HBI K B w b v c l) (hg : v.ownBlock = some g) (hx : l[i]? = some x) (hy : l[j]? = some y) : TwoAtI K B w b g i j x y w.drew :=
  ⟨h.c0, h.th hg hx 0 _ rfl, h.th hg hx 1 _ rfl, h.th hg hy 0 _ rfl, h.th hg hy 1 _ rfl, below_drew w, h.less.later (below_drew w), h.ok _ (List.mem_of_getElem? hx), h.ok _ (List.mem_of_getElem? hy)⟩

def RisePostI (K : LK) (B b c g : Nat) (v : Value) (l : List (Int × Nat)) (w : World) (e : Ending) (w' : World) : Prop := e = .returned (.tuple #[]) ∧ ∃ l', l'.Perm l ∧ Hp (keyK K) l' ∧ HBI K B w' b v c l' ∧ Kept [g] w w'
set_option maxRecDepth 100000 in
set_option maxHeartbeats 4000000 in
theorem riseI {B : Nat} {b c g n cap : Nat} {l : List (Int × Nat)} (w : World) (h : HBI K B w b (.slice (some ⟨g, 0, none⟩) n cap) c l) (hn : l.length = n) (h1 : 1 ≤ n) (hU : Up (keyK K) l (n - 1)) :
    Calls Tryz.prog 89 #[.pointer (some ⟨b, 0, none⟩), .slice (some ⟨g, 0, none⟩) n cap] w (RisePostI K B b c g (.slice (some ⟨g, 0, none⟩) n cap) l w) := by
  have hlim : n ≤ 9223372036854775807 := by
    obtain ⟨A, cp, hv, hle, hmx⟩ := own_len h.row
    unfold maxLen at hmx
    omega
  have hm1 : ((n - 1 : Nat) : Int) = (n : Int) - 1 := by omega
  have HH := Lib.hid h
  have HU := Lib.hid hU
  have HN := Lib.hid hn
  have HM := Lib.hid hm1
  clear h hU hn hm1
  go_enter Tryz.func89, Tryz.ntmps89
  go_wp2
  go_loopw [4] (fun a wr => ∃ (k : Nat) (l' : List (Int × Nat)), k < n ∧ a = .int .i64 k ∧ Hid (l'.Perm l) ∧ Hid (Up (keyK K) l' k) ∧ Hid (HBI K B wr b (.slice (some ⟨g, 0, none⟩) n cap) c l') ∧ Hid (Kept [g] w wr)) (fun a _ => (intOf a).toNat)
  case atStart => exact ⟨n - 1, l, by omega, by rw [HM.out], Lib.hid (List.Perm.refl _), HU, HH, Lib.hid (Kept.refl _ _)⟩
  case round =>
    obtain ⟨k, l', hk, rfl, hP, hU, hH, hK⟩ := hrel
    have hln : l'.length = n := by rw [hP.out.length_eq, HN.out]
    by_cases h0 : 0 < k
    · obtain ⟨q, hq⟩ : ∃ q, (k - 1) / 2 = q := ⟨_, rfl⟩
      have hqk : q < k := by omega
      obtain ⟨x, hx⟩ : ∃ x, l'[k]? = some x := ⟨l'[k], List.getElem?_eq_getElem (by omega)⟩
      obtain ⟨y, hy⟩ : ∃ y, l'[q]? = some y := ⟨l'[q], List.getElem?_eq_getElem (by omega)⟩
      have T0 := Lib.hid (hH.out.two rfl hx hy)
      have hqI : ((k : Int) - 1) / 2 = (q : Int) := by omega
      have hqn : q < n := by omega
      have hbl := hH.out.lt
      have hgl := (hH.out.glt rfl).2
      have HX := Lib.hid hx
      have HY := Lib.hid hy
      have HQ := Lib.hid hq
      have HLN := Lib.hid hln
      have ik : (1 : Int) ≤ (k : Int) := by omega
      have ik2 : (k : Int) < (n : Int) := by omega
      have iq : (q : Int) < (n : Int) := by omega
      have iq0 : (0 : Int) ≤ (q : Int) := by omega
      clear hx hy hq hln
      go_upto_region 3 with (fail)
      rw [hqI]
      have F0 := firstI x y wr.drew T0.out.f T0.out.ls T0.out.ox T0.out.oy
      have B0 := Lib.hid (below_drew wr)
      obtain ⟨t, ht⟩ : ∃ t, lexB (keyK K) x y = t := ⟨_, rfl⟩
      rw [ht] at F0
      have HT := Lib.hid ht
      have F0 := Lib.hid F0
      clear ht hqI
      go_region_held3 (fun W => W.cell? ⟨g, k * 2, none⟩ = some (.int .i64 x.1) ∧ W.cell? ⟨g, k * 2 + 1, none⟩ = some (.int .i64 (x.2 : Int)) ∧ W.cell? ⟨g, q * 2, none⟩ = some (.int .i64 y.1) ∧ W.cell? ⟨g, q * 2 + 1, none⟩ = some (.int .i64 (y.2 : Int)))
        (first | assumption | exact ⟨T0.out.x0, T0.out.x1, T0.out.y0, T0.out.y1⟩ | exact ⟨T1.out.x0, T1.out.x1, T1.out.y0, T1.out.y1⟩)
        ((go_at_call 114; (with_reducible refine F0.out.mono ?_); rintro e w' ⟨rfl, hB⟩; have T1 := Lib.hid (T0.out.step hbl hgl hB)))
      have H1 := Lib.hid (hH.out.later T1.out.bel)
      have K1 := Lib.hid (hK.out.later T1.out.bel)
      rcases (Bool.eq_false_or_eq_true t).symm with rfl | rfl
      · go_wp2
        go_end0
        exact ⟨rfl, l', hP.out, hU.out.stop HX.out (by rw [HQ.out]; exact HY.out) HT.out, H1.out, K1.out⟩
      · have x0 := T1.out.x0
        have x1 := T1.out.x1
        have y0 := T1.out.y0
        have y1 := T1.out.y1
        have fx := H1.out.gfz rfl
        have f0 := fx (k * 2)
        have f1 := fx (k * 2 + 1)
        have g0 := fx (q * 2)
        have g1 := fx (q * 2 + 1)
        have d0 : ¬ q * 2 = k * 2 + 1 := by omega
        have d1 : ¬ k * 2 = q * 2 + 1 := by omega
        have d2 : ¬ q * 2 + 1 = k * 2 := by omega
        have d3 : ¬ k * 2 + 1 = q * 2 := by omega
        have e0 : ¬ q = k := by omega
        have e1 : ¬ k = q := by omega
        have U2 : Hid (Up (keyK K) (swp l' k q x y) q) := Lib.hid (by
          have := hU.out.step h0 HX.out (by rw [HQ.out]; exact HY.out) HT.out
          rw [HQ.out] at this
          exact this)
        have P2 := Lib.hid ((swp_perm HX.out HY.out e1).trans hP.out)
        have hxm := List.mem_of_getElem? HX.out
        have hym := List.mem_of_getElem? HY.out
        have H2 := Lib.hid ((H1.out.put rfl (i := k) (p := y) (by rw [HLN.out]; exact hk) (H1.out.ok y hym) (H1.out.few y hym)).put rfl (i := q) (p := x) (by rw [List.length_set, HLN.out]; omega) (H1.out.ok x hxm) (H1.out.few x hxm))
        have K2 := Lib.hid ((K1.out.storedI g k y (by simp)).storedI g q x (by simp))
        clear fx T0 T1 F0 B0 hB hxm hym
        go_upto_region 4 with (fail)
        go_region
        go_wp2
        go_roundw
        case rel => exact ⟨q, swp l' k q x y, by omega, rfl, P2, U2, Lib.hid (H2.out.later (below_drew _)), Lib.hid (K2.out.later (below_drew _))⟩
        case measure => simp [intOf]; omega
    · obtain rfl : k = 0 := by omega
      have hz : decide (((0 : Nat) : Int) > 0) = false := rfl
      go_wp2
      go_end0
      exact ⟨rfl, l', hP.out, hU.out.top, hH.out, hK.out⟩
end Go.Proofs.YtnhddnldebdmbaaGreatDoor
/- A thing goes down. -/
namespace Go.Proofs.YtnhddnldebdmbaaGreatDoor
open Go.RowKit
set_option linter.unusedVariables false
set_option linter.unusedSimpArgs false
variable {K : LK}
attribute [local go_sem ↓] Go.wp_at_zero Go.wp_at_succ

set_option maxRecDepth 100000 in
set_option maxHeartbeats 4000000 in
theorem sinkI {B : Nat} {b c g n cap : Nat} {l : List (Int × Nat)} (w : World) (h : HBI K B w b (.slice (some ⟨g, 0, none⟩) n cap) c l) (hn : l.length = n) (hD : Dn (keyK K) l 0) (hmx : n ≤ 1000000) :
    Calls Tryz.prog 117 #[.pointer (some ⟨b, 0, none⟩), .slice (some ⟨g, 0, none⟩) n cap] w (RisePostI K B b c g (.slice (some ⟨g, 0, none⟩) n cap) l w) := by
  have HH := Lib.hid h
  have HD := Lib.hid hD
  have HN := Lib.hid hn
  clear h hD hn
  go_enter Tryz.func117, Tryz.ntmps117
  go_wp2
  go_step3
  go_wp2
  go_step3
  go_wp2
  go_loopg [4] (n + 1) (fun m a wr => ∃ (k : Nat) (l' : List (Int × Nat)), (k < n ∨ k = 0) ∧ a = .int .i64 k ∧ n + 1 ≤ m + k ∧ Hid (l'.Perm l) ∧ Hid (Dn (keyK K) l' k) ∧ Hid (HBI K B wr b (.slice (some ⟨g, 0, none⟩) n cap) c l') ∧ Hid (Kept [g] w wr))
  case atStart => exact ⟨0, l, .inr rfl, rfl, by omega, Lib.hid (List.Perm.refl _), HD, HH, Lib.hid (Kept.refl _ _)⟩
  case round =>
    obtain ⟨k, l', hk, rfl, hm, hP, hD, hH, hK⟩ := hrel
    have hln : l'.length = n := by rw [hP.out.length_eq, HN.out]
    have HLN := Lib.hid hln
    clear hln
    obtain ⟨a, ha⟩ : ∃ a, 2 * k + 1 = a := ⟨_, rfl⟩
    have haI : 2 * (k : Int) + 1 = (a : Int) := by omega
    have HA := Lib.hid ha
    by_cases hs : n ≤ a
    · have t1 : decide ((a : Int) ≥ (n : Int)) = true := decide_eq_true (by omega)
      have h4 : Dn (keyK K) l' k := hD.out
      clear ha
      go_wp2
      first | rw [Exit.noGoto_ret] | simp only [Exit.noGoto]
      go_end0
      exact ⟨rfl, l', hP.out, hD.out.bottom (by rw [HLN.out, HA.out]; exact hs), hH.out, hK.out⟩
    · have t1 : decide ((a : Int) ≥ (n : Int)) = false := decide_eq_false (by omega)
      have hkn : k < n := by omega
      obtain ⟨x, hx⟩ : ∃ x, l'[k]? = some x := ⟨l'[k]'(by rw [HLN.out]; exact hkn), List.getElem?_eq_getElem _⟩
      obtain ⟨y, hy⟩ : ∃ y, l'[a]? = some y := ⟨l'[a]'(by rw [HLN.out]; omega), List.getElem?_eq_getElem _⟩
      obtain ⟨o, ho⟩ : ∃ o, a + 1 = o := ⟨_, rfl⟩
      have hoI : (a : Int) + 1 = (o : Int) := by omega
      have HX := Lib.hid hx
      have HO := Lib.hid ho
      have iak : k < a := by omega
      have ia0 : (0 : Int) ≤ (a : Int) := by omega
      have ia2 : (a : Int) < (n : Int) := by omega
      have ik0 : (0 : Int) ≤ (k : Int) := by omega
      have ik1 : (k : Int) < (n : Int) := by omega
      by_cases hon : o < n
      · obtain ⟨z, hz⟩ : ∃ z, l'[o]? = some z := ⟨l'[o]'(by rw [HLN.out]; exact hon), List.getElem?_eq_getElem _⟩
        have HZ := Lib.hid hz
        have HY0 := Lib.hid hy
        have t2 : decide ((o : Int) < (n : Int)) = true := decide_eq_true (by omega)
        have io0 : (0 : Int) ≤ (o : Int) := by omega
        have io2 : (o : Int) < (n : Int) := by omega
        have T0 := Lib.hid (hH.out.two rfl HZ.out HY0.out)
        have F0 := firstI z y wr.drew T0.out.f T0.out.ls T0.out.ox T0.out.oy
        obtain ⟨t, ht⟩ : ∃ t, lexB (keyK K) z y = t := ⟨_, rfl⟩
        rw [ht] at F0
        have HT := Lib.hid ht
        have F0 := Lib.hid F0
        have hbl := hH.out.lt
        have hgl := (hH.out.glt rfl).2
        have hao : a + 1 = o := ho
        clear hx hy hz ha ho ht
        go_upto_region 4 with (fail)
        go_region_held3 (fun W => W.cell? ⟨g, o * 2, none⟩ = some (.int .i64 z.1) ∧ W.cell? ⟨g, o * 2 + 1, none⟩ = some (.int .i64 (z.2 : Int)) ∧ W.cell? ⟨g, a * 2, none⟩ = some (.int .i64 y.1) ∧ W.cell? ⟨g, a * 2 + 1, none⟩ = some (.int .i64 (y.2 : Int)))
          (first | assumption | exact ⟨T0.out.x0, T0.out.x1, T0.out.y0, T0.out.y1⟩ | exact ⟨T1.out.x0, T1.out.x1, T1.out.y0, T1.out.y1⟩)
          ((go_at_call 114; (with_reducible refine F0.out.mono ?_); rintro e w1 ⟨rfl, hB1⟩; have T1 := Lib.hid (T0.out.step hbl hgl hB1)))
        have H1 := Lib.hid (hH.out.later T1.out.bel)
        have K1 := Lib.hid (hK.out.later T1.out.bel)
        have HAO := Lib.hid hao
        clear T0 T1 F0 hB1 hao
        rcases (Bool.eq_false_or_eq_true t).symm with rfl | rfl
        · have HY := HY0
          have HSd : Hid (Side (keyK K) l' k a y) := Lib.hid (by
            have h1 := HY0.out
            have h2 := HZ.out
            rw [← HAO.out] at h2
            rw [← HA.out] at h1 h2 ⊢
            exact side_left h1 (.inr ⟨z, h2, HT.out⟩))
          go_upto_region 6 with (fail)
          have hsk : k < a := by have := HSd.out.1; omega
          have hsn : a < n := by have := (List.getElem?_eq_some_iff.1 HY.out).1; have := HLN.out; omega
          have T2 := Lib.hid (H1.out.two rfl HX.out HY.out)
          have F2 := firstI x y w1.drew T2.out.f T2.out.ls T2.out.ox T2.out.oy
          obtain ⟨u, hu⟩ : ∃ u, lexB (keyK K) x y = u := ⟨_, rfl⟩
          rw [hu] at F2
          have HUu := Lib.hid hu
          have F2 := Lib.hid F2
          have hbl2 := H1.out.lt
          have hgl2 := (H1.out.glt rfl).2
          have ik2 : (k : Int) < (n : Int) := by omega
          have is0 : (0 : Int) ≤ (a : Int) := by omega
          have is2 : (a : Int) < (n : Int) := by omega
          clear hu
          go_region_held3 (fun W => W.cell? ⟨g, k * 2, none⟩ = some (.int .i64 x.1) ∧ W.cell? ⟨g, k * 2 + 1, none⟩ = some (.int .i64 (x.2 : Int)) ∧ W.cell? ⟨g, a * 2, none⟩ = some (.int .i64 y.1) ∧ W.cell? ⟨g, a * 2 + 1, none⟩ = some (.int .i64 (y.2 : Int)))
            (first | assumption | exact ⟨T2.out.x0, T2.out.x1, T2.out.y0, T2.out.y1⟩ | exact ⟨T3.out.x0, T3.out.x1, T3.out.y0, T3.out.y1⟩)
            ((go_at_call 114; (with_reducible refine F2.out.mono ?_); rintro e w3 ⟨rfl, hB3⟩; have T3 := Lib.hid (T2.out.step hbl2 hgl2 hB3)))
          have H3 := Lib.hid (H1.out.later T3.out.bel)
          have K3 := Lib.hid (K1.out.later T3.out.bel)
          rcases (Bool.eq_false_or_eq_true u).symm with rfl | rfl
          · have x0 := T3.out.x0
            have x1 := T3.out.x1
            have y0 := T3.out.y0
            have y1 := T3.out.y1
            have fx := H3.out.gfz rfl
            have f0 := fx (k * 2)
            have f1 := fx (k * 2 + 1)
            have g0 := fx (a * 2)
            have g1 := fx (a * 2 + 1)
            have d0 : ¬ a * 2 = k * 2 + 1 := by omega
            have d1 : ¬ k * 2 = a * 2 + 1 := by omega
            have d2 : ¬ a * 2 + 1 = k * 2 := by omega
            have d3 : ¬ k * 2 + 1 = a * 2 := by omega
            have e0 : ¬ a = k := by omega
            have e1 : ¬ k = a := by omega
            have D2 := Lib.hid (hD.out.step HX.out HSd.out HUu.out)
            have P2 := Lib.hid ((swp_perm HX.out HY.out e1).trans hP.out)
            have hxm := List.mem_of_getElem? HX.out
            have hym := List.mem_of_getElem? HY.out
            have H4 := Lib.hid ((H3.out.put rfl (i := k) (p := y) (by rw [HLN.out]; omega) (H3.out.ok y hym) (H3.out.few y hym)).put rfl (i := a) (p := x) (by rw [List.length_set, HLN.out]; omega) (H3.out.ok x hxm) (H3.out.few x hxm))
            have K4 := Lib.hid ((K3.out.storedI g k y (by simp)).storedI g a x (by simp))
            clear fx T2 T3 F2 hB3 hxm hym
            go_upto_region 7 with (fail)
            go_region
            go_wp2
            go_roundg (n + 1 - a)
            case measure => omega
            case rel => exact ⟨a, swp l' k a x y, by omega, rfl, by omega, P2, D2, Lib.hid (H4.out.later (below_drew _)), Lib.hid (K4.out.later (below_drew _))⟩
          · go_wp2
            first | rw [Exit.noGoto_ret] | simp only [Exit.noGoto]
            go_end0
            exact ⟨rfl, l', hP.out, hD.out.stop HX.out HSd.out HUu.out, H3.out, K3.out⟩
        · have HY := HZ
          have HSd : Hid (Side (keyK K) l' k o z) := Lib.hid (by
            have h1 := HY0.out
            have h2 := HZ.out
            rw [← HAO.out] at h2 ⊢
            rw [← HA.out] at h1 h2 ⊢
            exact side_right h1 h2 HT.out)
          go_upto_region 6 with (fail)
          have hsk : k < o := by have := HSd.out.1; omega
          have hsn : o < n := by have := (List.getElem?_eq_some_iff.1 HY.out).1; have := HLN.out; omega
          have T2 := Lib.hid (H1.out.two rfl HX.out HY.out)
          have F2 := firstI x z w1.drew T2.out.f T2.out.ls T2.out.ox T2.out.oy
          obtain ⟨u, hu⟩ : ∃ u, lexB (keyK K) x z = u := ⟨_, rfl⟩
          rw [hu] at F2
          have HUu := Lib.hid hu
          have F2 := Lib.hid F2
          have hbl2 := H1.out.lt
          have hgl2 := (H1.out.glt rfl).2
          have ik2 : (k : Int) < (n : Int) := by omega
          have is0 : (0 : Int) ≤ (o : Int) := by omega
          have is2 : (o : Int) < (n : Int) := by omega
          clear hu
          go_region_held3 (fun W => W.cell? ⟨g, k * 2, none⟩ = some (.int .i64 x.1) ∧ W.cell? ⟨g, k * 2 + 1, none⟩ = some (.int .i64 (x.2 : Int)) ∧ W.cell? ⟨g, o * 2, none⟩ = some (.int .i64 z.1) ∧ W.cell? ⟨g, o * 2 + 1, none⟩ = some (.int .i64 (z.2 : Int)))
            (first | assumption | exact ⟨T2.out.x0, T2.out.x1, T2.out.y0, T2.out.y1⟩ | exact ⟨T3.out.x0, T3.out.x1, T3.out.y0, T3.out.y1⟩)
            ((go_at_call 114; (with_reducible refine F2.out.mono ?_); rintro e w3 ⟨rfl, hB3⟩; have T3 := Lib.hid (T2.out.step hbl2 hgl2 hB3)))
          have H3 := Lib.hid (H1.out.later T3.out.bel)
          have K3 := Lib.hid (K1.out.later T3.out.bel)
          rcases (Bool.eq_false_or_eq_true u).symm with rfl | rfl
          · have x0 := T3.out.x0
            have x1 := T3.out.x1
            have y0 := T3.out.y0
            have y1 := T3.out.y1
            have fx := H3.out.gfz rfl
            have f0 := fx (k * 2)
            have f1 := fx (k * 2 + 1)
            have g0 := fx (o * 2)
            have g1 := fx (o * 2 + 1)
            have d0 : ¬ o * 2 = k * 2 + 1 := by omega
            have d1 : ¬ k * 2 = o * 2 + 1 := by omega
            have d2 : ¬ o * 2 + 1 = k * 2 := by omega
            have d3 : ¬ k * 2 + 1 = o * 2 := by omega
            have e0 : ¬ o = k := by omega
            have e1 : ¬ k = o := by omega
            have D2 := Lib.hid (hD.out.step HX.out HSd.out HUu.out)
            have P2 := Lib.hid ((swp_perm HX.out HY.out e1).trans hP.out)
            have hxm := List.mem_of_getElem? HX.out
            have hym := List.mem_of_getElem? HY.out
            have H4 := Lib.hid ((H3.out.put rfl (i := k) (p := z) (by rw [HLN.out]; omega) (H3.out.ok z hym) (H3.out.few z hym)).put rfl (i := o) (p := x) (by rw [List.length_set, HLN.out]; omega) (H3.out.ok x hxm) (H3.out.few x hxm))
            have K4 := Lib.hid ((K3.out.storedI g k z (by simp)).storedI g o x (by simp))
            clear fx T2 T3 F2 hB3 hxm hym
            go_upto_region 7 with (fail)
            go_region
            go_wp2
            go_roundg (n + 1 - o)
            case measure => omega
            case rel => exact ⟨o, swp l' k o x z, by omega, rfl, by omega, P2, D2, Lib.hid (H4.out.later (below_drew _)), Lib.hid (K4.out.later (below_drew _))⟩
          · go_wp2
            first | rw [Exit.noGoto_ret] | simp only [Exit.noGoto]
            go_end0
            exact ⟨rfl, l', hP.out, hD.out.stop HX.out HSd.out HUu.out, H3.out, K3.out⟩
      · have HY := Lib.hid hy
        have t2 : decide ((o : Int) < (n : Int)) = false := decide_eq_false (by omega)
        have HSd : Hid (Side (keyK K) l' k a y) := Lib.hid (by
          have h1 := HY.out
          rw [← HA.out] at h1 ⊢
          exact side_left h1 (.inl (by rw [HLN.out]; have := HA.out; have := HO.out; omega)))
        clear hx hy ha ho
        go_upto_region 4 with (fail)
        go_quiet (fail)
        obtain ⟨w1, hw1⟩ : ∃ w1, wr.drewN nq = w1 := ⟨_, rfl⟩
        have hb1 : Below wr.heap.size wr w1 := by rw [← hw1]; exact below_drewN' wr nq
        rw [hw1]
        have H1 := Lib.hid (hH.out.later hb1)
        have K1 := Lib.hid (hK.out.later hb1)
        clear hw1 hb1
        go_upto_region 6 with (fail)
        have hsk : k < a := by have := HSd.out.1; omega
        have hsn : a < n := by have := (List.getElem?_eq_some_iff.1 HY.out).1; have := HLN.out; omega
        have T2 := Lib.hid (H1.out.two rfl HX.out HY.out)
        have F2 := firstI x y w1.drew T2.out.f T2.out.ls T2.out.ox T2.out.oy
        obtain ⟨u, hu⟩ : ∃ u, lexB (keyK K) x y = u := ⟨_, rfl⟩
        rw [hu] at F2
        have HUu := Lib.hid hu
        have F2 := Lib.hid F2
        have hbl2 := H1.out.lt
        have hgl2 := (H1.out.glt rfl).2
        have ik2 : (k : Int) < (n : Int) := by omega
        have is0 : (0 : Int) ≤ (a : Int) := by omega
        have is2 : (a : Int) < (n : Int) := by omega
        clear hu
        go_region_held3 (fun W => W.cell? ⟨g, k * 2, none⟩ = some (.int .i64 x.1) ∧ W.cell? ⟨g, k * 2 + 1, none⟩ = some (.int .i64 (x.2 : Int)) ∧ W.cell? ⟨g, a * 2, none⟩ = some (.int .i64 y.1) ∧ W.cell? ⟨g, a * 2 + 1, none⟩ = some (.int .i64 (y.2 : Int)))
          (first | assumption | exact ⟨T2.out.x0, T2.out.x1, T2.out.y0, T2.out.y1⟩ | exact ⟨T3.out.x0, T3.out.x1, T3.out.y0, T3.out.y1⟩)
          ((go_at_call 114; (with_reducible refine F2.out.mono ?_); rintro e w3 ⟨rfl, hB3⟩; have T3 := Lib.hid (T2.out.step hbl2 hgl2 hB3)))
        have H3 := Lib.hid (H1.out.later T3.out.bel)
        have K3 := Lib.hid (K1.out.later T3.out.bel)
        rcases (Bool.eq_false_or_eq_true u).symm with rfl | rfl
        · have x0 := T3.out.x0
          have x1 := T3.out.x1
          have y0 := T3.out.y0
          have y1 := T3.out.y1
          have fx := H3.out.gfz rfl
          have f0 := fx (k * 2)
          have f1 := fx (k * 2 + 1)
          have g0 := fx (a * 2)
          have g1 := fx (a * 2 + 1)
          have d0 : ¬ a * 2 = k * 2 + 1 := by omega
          have d1 : ¬ k * 2 = a * 2 + 1 := by omega
          have d2 : ¬ a * 2 + 1 = k * 2 := by omega
          have d3 : ¬ k * 2 + 1 = a * 2 := by omega
          have e0 : ¬ a = k := by omega
          have e1 : ¬ k = a := by omega
          have D2 := Lib.hid (hD.out.step HX.out HSd.out HUu.out)
          have P2 := Lib.hid ((swp_perm HX.out HY.out e1).trans hP.out)
          have hxm := List.mem_of_getElem? HX.out
          have hym := List.mem_of_getElem? HY.out
          have H4 := Lib.hid ((H3.out.put rfl (i := k) (p := y) (by rw [HLN.out]; omega) (H3.out.ok y hym) (H3.out.few y hym)).put rfl (i := a) (p := x) (by rw [List.length_set, HLN.out]; omega) (H3.out.ok x hxm) (H3.out.few x hxm))
          have K4 := Lib.hid ((K3.out.storedI g k y (by simp)).storedI g a x (by simp))
          clear fx T2 T3 F2 hB3 hxm hym
          go_upto_region 7 with (fail)
          go_region
          go_wp2
          go_roundg (n + 1 - a)
          case measure => omega
          case rel => exact ⟨a, swp l' k a x y, by omega, rfl, by omega, P2, D2, Lib.hid (H4.out.later (below_drew _)), Lib.hid (K4.out.later (below_drew _))⟩
        · go_wp2
          first | rw [Exit.noGoto_ret] | simp only [Exit.noGoto]
          go_end0
          exact ⟨rfl, l', hP.out, hD.out.stop HX.out HSd.out HUu.out, H3.out, K3.out⟩
end Go.Proofs.YtnhddnldebdmbaaGreatDoor
/- A heap's Len, Push. -/
namespace Go.Proofs.YtnhddnldebdmbaaGreatDoor
open Go.RowKit
set_option linter.unusedVariables false
set_option linter.unusedSimpArgs false
variable {K : LK}
attribute [local go_sem ↓] Go.wp_at_zero Go.wp_at_succ

theorem infoThI : (Tryz.prog.info? 145).map (fun i => (i.zero, i.size, i.bytes)) = some (some (.agg #[.int .i64 0, .int .i64 0]), 2, 16) := by kernel_rfl
theorem run_appI {base : Nat} {v : Value} {n : Nat} {xs : List Value} {w : World} (ty : TypeId) (hown : w.ownsRow base 145 2 v n xs) (ad : Addr) (news : List Value) (hn : news.length = 2) (hc : ∀ j u, news[j]? = some u → w.cell? (ad.add j) = some u) (h1c : ∀ u ∈ news, u.oneCell' = true) (b1 : n ≤ 1000000) (hbase : base ≤ w.heap.size) :
    ∃ v' w', (Builtin.append_ #[115, 115] ty #[v, .slice (some ad) 1 1]).run Tryz.prog w = .ok v' w' ∧ w'.ownsRow base 145 2 v' (n + 1) (xs ++ news) ∧ w.grownBy w' v.ownBlock ∧ ∀ k, v'.ownBlock = some k → v.ownBlock = some k ∨ w.heap.size ≤ k := by
  obtain ⟨i0, hi, hz0, hz1, hz2⟩ := info_parts infoThI
  obtain ⟨v', w', hrun, r1, r2, _⟩ := run_append_own (P := Tryz.prog) w base 115 ty 145 i0 _ 2 16 Tryz.underlying115 hi hz0 hz1 hz2 rfl (by omega) v n xs hown ad 1 1 news (by omega) hc h1c (by unfold maxLen; omega) (by omega) hbase
  refine ⟨v', w', hrun, r1, r2, ?_⟩
  rcases hown.2 with ⟨rfl, rfl⟩ | ⟨g, cap, cur, rfl, _, hg, hnc, hcm, hcs, _⟩
  · have h2 := run_append_nil (P := Tryz.prog) w 115 ty 145 i0 _ Tryz.underlying115 hi hz0 ad 1 1 news (by rw [hz1]; omega) hc (by omega) (by omega) (by rw [hz2]; decide)
    rw [hrun] at h2
    injection h2 with e1 e2
    subst e1
    intro k hk
    simp only [Value.ownBlock, Option.some.injEq] at hk
    exact .inr (by omega)
  · by_cases hroom : n + 1 ≤ cap
    · have h2 := run_append_room (P := Tryz.prog) w 115 ty 145 i0 Tryz.underlying115 hi g n cap cur hg ad 1 1 news (by rw [hz1]; omega) hc h1c hroom (by rw [hz1, hn, hcs]; have := Nat.mul_le_mul_right 2 hroom; omega)
      rw [hrun] at h2
      injection h2 with e1 e2
      subst e1
      exact fun k hk => .inl hk
    · have h2 := run_append_grow (P := Tryz.prog) w 115 ty 145 i0 _ Tryz.underlying115 hi hz0 ⟨g, 0, none⟩ n cap xs (by rw [hz1]; exact hown.1) (hown.cells rfl) ad 1 1 news (by rw [hz1]; omega) hc (by omega) (by omega) (by rw [hz2]; exact growslice_fits (by omega) (by omega))
      rw [hrun] at h2
      injection h2 with e1 e2
      subst e1
      intro k hk
      simp only [Value.ownBlock, Option.some.injEq] at hk
      exact .inr (by omega)
/-- append onto a row of the heap's own, as one step of a region that draws. -/
theorem step_appI {ops : Array Oper} {o : Oper} {a : Act} {w : World} {K : Act → World → Prop} {Q : Exit → Act → World → Prop} {E : Prop}
    (hg : o.guard = none) (s x : Operand) (hop : o.op = Op.call { callee := Callee.builtin Builtin.append, args := #[s, x], argTypes := #[115, 115] })
    (base : Nat) (v : Value) (n : Nat) (xs : List Value) (hs : a.eval s = v) (hown : w.ownsRow base 145 2 v n xs)
    (ad : Addr) (news : List Value) (hx : a.eval x = .slice (some ad) 1 1) (hn : news.length = 2) (hc : ∀ j u, news[j]? = some u → w.cell? (ad.add j) = some u) (h1c : ∀ u ∈ news, u.oneCell' = true)
    (b1 : n ≤ 1000000) (hbase : base ≤ w.heap.size)
    (hK : ∀ v' w', w'.ownsRow base 145 2 v' (n + 1) (xs ++ news) → w.grownBy w' v.ownBlock → (∀ k, v'.ownBlock = some k → v.ownBlock = some k ∨ w.heap.size ≤ k) → K (a.put o.dst v') w') :
    if Region.wanted o (yielded ops a.tmps) = true then Oper.wp Tryz.prog o a w K Q else E := by
  have hw : Region.wanted o (yielded ops a.tmps) = true := by simp [Region.wanted, hg]
  rw [if_pos hw]
  obtain ⟨v', w', hrun, r1, r2, r3⟩ := run_appI o.type hown ad news hn hc h1c b1 hbase
  unfold Oper.wp
  simp [execOp, hop, resolve, invoke, builtin, hs, hx, hrun, Result.andThen]
  exact hK v' w' r1 r2 r3
theorem th_newI (w : World) (p : Int × Nat) : ∀ j u, (thI p)[j]? = some u → (w.alloc (.cells #[.int .i64 p.1, .int .i64 (p.2 : Int)] 145)).cell? ((⟨w.heap.size, 0, none⟩ : Addr).add j) = some u := by
  intro j u hj
  rw [add_none, Nat.zero_add, cell_of_row _ _ j _ _ _ (heap_alloc_new w _)]
  simpa [thI] using hj
theorem th_oneI (p : Int × Nat) : ∀ u ∈ thI p, u.oneCell' = true := by
  intro u hu
  simp only [thI, List.mem_cons, List.not_mem_nil, or_false] at hu
  rcases hu with rfl | rfl <;> rfl
theorem len_anyI {B b c : Nat} {v : Value} {l : List (Int × Nat)} (w : World) (h : HBI K B w b v c l) : Calls Tryz.prog 93 #[.pointer (some ⟨b, 0, none⟩)] w fun e w' => e = .returned (.int .i64 l.length) ∧ w = w' := by
  obtain ⟨A, cap, hv, hle, hmx⟩ := own_len h.row
  have c1 := h.c1
  subst hv
  unfold maxLen at hmx
  clear h
  go_enter Tryz.func93, Tryz.ntmps93
  go_wp2
  go_ret
  exact ⟨rfl, rfl⟩

/-- A heap whose row has grown by a thing. -/
theorem HBI.pushed {B : Nat} {w W w2 : World} {b c : Nat} {v v2 : Value} {l : List (Int × Nat)} {p : Int × Nat} (h : HBI K B w b v c l) (hW : Below w.heap.size w W) (hg : W.grownBy w2 v.ownBlock) (ho : w2.ownsRow B 145 2 v2 (l.length + 1) (thCI l ++ thI p)) (hp : okK K p.1) (hpc : p.2 = c) (hc : c + 1 ≤ 1000000) :
    (w2.cell? ⟨b, 1, none⟩ = some v ∧ w2.cell? ⟨b, 2, none⟩ = some (.int .i64 (c : Int)) ∧ (∀ i, w2.frozen? ⟨b, i, none⟩ = false)) ∧ Kept (blk b v) w w2 ∧
    HBI K B ((w2.setCell ⟨b, 1, none⟩ v2).setCell ⟨b, 2, none⟩ (.int .i64 ((c + 1 : Nat) : Int))) b v2 (c + 1) (l ++ [p]) ∧ Kept (blk b v) w ((w2.setCell ⟨b, 1, none⟩ v2).setCell ⟨b, 2, none⟩ (.int .i64 ((c + 1 : Nat) : Int))) := by
  have hk : Kept (blk b v) w w2 := (Kept.of _ hW).trans (kept_grown hg (fun k hk => by simp [blk, hk]))
  have hWb : W.heap[b]? = some (.cells #[K.fv, v, .int .i64 (c : Int)] 117 (0, 0)) := (hW.block b h.lt).trans h.is
  have hb2 : w2.heap[b]? = some (.cells #[K.fv, v, .int .i64 (c : Int)] 117 (0, 0)) :=
    (hg.block b (Nat.lt_of_lt_of_le h.lt hW.size) (fun e => h.ne e.symm)).trans hWb
  have hne := own_ne ho hb2 (by decide)
  have e1 : (w2.setCell ⟨b, 1, none⟩ v2).heap[b]? = some (.cells #[K.fv, v2, .int .i64 (c : Int)] 117 (0, 0)) := heap_setCell_same _ b 1 _ _ _ hb2
  have e2 : ((w2.setCell ⟨b, 1, none⟩ v2).setCell ⟨b, 2, none⟩ (.int .i64 ((c + 1 : Nat) : Int))).heap[b]? = some (.cells #[K.fv, v2, .int .i64 ((c + 1 : Nat) : Int)] 117 (0, 0)) := heap_setCell_same _ b 2 _ _ _ e1
  have k2 : Kept [b] w2 ((w2.setCell ⟨b, 1, none⟩ v2).setCell ⟨b, 2, none⟩ (.int .i64 ((c + 1 : Nat) : Int))) := ((Kept.refl [b] w2).set b 1 v2 (by simp)).set b 2 _ (by simp)
  refine ⟨⟨by rw [cell_of_row w2 b 1 _ _ _ hb2]; rfl, by rw [cell_of_row w2 b 2 _ _ _ hb2]; rfl, fun i => by simp [World.frozen?, hb2]⟩, hk, ⟨h.hB, e2, ?_, ?_, ?_, hc, h.less.kept (hk.trans (k2.mono (by simp [blk]))) (fun k hm => h.less.off (h.blk_ge k hm).1)⟩, hk.trans (k2.mono (by simp [blk]))⟩
  · rw [List.length_append, thC_appI]
    have := k2.row ho (fun g hg' => by simp; exact fun e => hne (by rw [hg', e]))
    simpa [thCI] using this
  · intro q hq
    rcases List.mem_append.1 hq with hq | hq
    · exact h.ok q hq
    · rw [List.mem_singleton.1 hq]; exact hp
  · intro q hq
    rcases List.mem_append.1 hq with hq | hq
    · have := h.few q hq; omega
    · rw [List.mem_singleton.1 hq]; omega
def PushPostI (K : LK) (B b c : Nat) (v : Value) (l : List (Int × Nat)) (x : Int) (w : World) (e : Ending) (w' : World) : Prop := e = .returned (.tuple #[]) ∧ ∃ v' l', l'.Perm (l ++ [(x, c)]) ∧ Hp (keyK K) l' ∧ HBI K B w' b v' (c + 1) l' ∧ Kept (blk b v) w w' ∧ ∀ k ∈ blk b v', k ∈ blk b v ∨ w.heap.size ≤ k
set_option maxRecDepth 100000 in
set_option maxHeartbeats 4000000 in
theorem push_anyI {B b c : Nat} {v : Value} {l : List (Int × Nat)} {x : Int} (w : World) (h : HBI K B w b v c l) (hh : Hp (keyK K) l) (hx : okK K x) (hc : c + 1 ≤ 1000000) (hl : l.length ≤ 1000000) :
    Calls Tryz.prog 64 #[.pointer (some ⟨b, 0, none⟩), .int .i64 x] w (PushPostI K B b c v l x w) := by
  have HH := Lib.hid hh
  have HX := Lib.hid hx
  have hw1 : Below w.heap.size w w := Below.refl _ _
  have h1 := h
  have HI := Lib.hid h
  clear hh hx h
  go_enter Tryz.func64, Tryz.ntmps64
  go_upto_region 1 with (fail)
  obtain ⟨w1, hw⟩ : ∃ w1, w1 = w := ⟨_, rfl⟩
  rw [← hw] at h1 ⊢
  rw [show Below w.heap.size w w ↔ Below w.heap.size w w1 by rw [hw]] at hw1
  clear hw
  have c1 := h1.c1
  have c2 := h1.c2
  have hb := h1.lt
  have H1 := Lib.hid h1
  have HB1 := Lib.hid hw1
  have O1 := Lib.hid (h1.later (((below_drew w1).alloc (Nat.le_refl _) (.cells #[.int .i64 x, .int .i64 (c : Int)] 145))))
  clear h1 hw1
  go_region_law (first
    | (refine step_appI rfl _ _ rfl B v l.length (thCI l) rfl O1.out.row ⟨w1.heap.size, 0, none⟩ (thI (x, c)) rfl rfl (th_newI w1.drew (x, c)) (th_oneI (x, c)) hl (Nat.le_trans O1.out.hB (Nat.le_of_lt O1.out.lt)) ?_
       intro v2 w2 hown2 hg2 hor
       obtain ⟨g2, cap2, rfl, -, hgl2, hle2, hmx2, -⟩ := own_form hown2 (by omega)
       obtain ⟨⟨d1, d2, fz⟩, K2, H2, K3⟩ := H1.out.pushed ((below_drew w1).alloc (Nat.le_refl _) _) hg2 hown2 HX.out rfl hc
       have f1 := fz 1
       have f2 := fz 2))
  all_goals
    have hlen : (l ++ [(x, c)]).length = l.length + 1 := by simp
    have RS := Lib.hid (riseI _ H2 hlen (by omega) HH.out.up_last)
    have HK3 := Lib.hid K3
    have hcI : ((c + 1 : Nat) : Int) = (c : Int) + 1 := by omega
    rw [hcI] at RS HK3
    have HOR := Lib.hid (hor g2 rfl)
    clear hg2 hown2 K2 K3 H2 fz hlen hcI hor
    go_wp2_with (go_at_call 89; (with_reducible refine RS.out.mono ?_); rintro e w4 ⟨rfl, l2, hP, hHp, hH2, hK4⟩)
    go_end0
    have hO : g2 ∈ blk b v ∨ w.heap.size ≤ g2 := by
      rcases HOR.out with h | h
      · exact .inl (by simp [blk, h])
      · exact .inr (by have h2 := HB1.out.size; have h3 : w1.heap.size ≤ g2 := Nat.le_trans (by simp) h; omega)
    refine ⟨rfl, _, l2, hP, hHp, hH2, kept_push HB1.out HK3.out hK4 hO, fun k hk => ?_⟩
    simp only [blk, Value.ownBlock, Option.toList_some, List.mem_cons, List.not_mem_nil, or_false] at hk
    rcases hk with rfl | rfl
    · exact .inl (by simp [blk])
    · exact hO
end Go.Proofs.YtnhddnldebdmbaaGreatDoor
/- A heap's Peek, Pop. -/
namespace Go.Proofs.YtnhddnldebdmbaaGreatDoor
open Go.RowKit
set_option linter.unusedVariables false
set_option linter.unusedSimpArgs false
variable {K : LK}
attribute [local go_sem ↓] Go.wp_at_zero Go.wp_at_succ

set_option maxRecDepth 100000 in
set_option maxHeartbeats 2000000 in
theorem peek_noneI {B b c : Nat} {v : Value} (w : World) (h : HBI K B w b v c []) : Calls Tryz.prog 67 #[.pointer (some ⟨b, 0, none⟩)] w (Told (.tuple #[.int .i64 0, .bool false]) w) := by
  have LN := Lib.hid (fun W (hB : Below w.heap.size w W) => len_anyI W (h.later hB))
  clear h
  go_enter Tryz.func67, Tryz.ntmps67
  go_wp2_with (go_at_call 93; (with_reducible refine (LN.out _ (Below.refl _ _)).mono ?_); rintro e w1 ⟨rfl, rfl⟩)
  go_ret2
  exact ⟨rfl, Below.refl _ _⟩
set_option maxRecDepth 100000 in
set_option maxHeartbeats 2000000 in
theorem peek_someI {B b c : Nat} {v : Value} {l : List (Int × Nat)} {p : Int × Nat} (w : World) (h : HBI K B w b v c l) (hp : l[0]? = some p) : Calls Tryz.prog 67 #[.pointer (some ⟨b, 0, none⟩)] w (Told (.tuple #[.int .i64 p.1, .bool true]) w) := by
  have h0 : 0 < l.length := (List.getElem?_eq_some_iff.1 hp).1
  obtain ⟨g, cap, rfl, -, hgl, hle, hmx, -⟩ := own_form h.row h0
  have hln0 : ((l.length : Int) == 0) = false := by rw [beq_eq_false_iff_ne]; omega
  have hlt : (0 : Int) < (l.length : Int) := by omega
  unfold maxLen at hmx
  have LN := Lib.hid (fun W (hB : Below w.heap.size w W) => len_anyI W (h.later hB))
  have c1 := h.c1
  have x0 : w.cell? ⟨g, 0, none⟩ = some (.int .i64 p.1) := by have := h.th rfl hp 0 _ rfl; rwa [Nat.zero_mul] at this
  clear h hp
  go_enter Tryz.func67, Tryz.ntmps67
  go_wp2_with (go_at_call 93; (with_reducible refine (LN.out _ (Below.refl _ _)).mono ?_); rintro e w1 ⟨rfl, rfl⟩)
  go_ret2
  exact ⟨rfl, Below.refl _ _⟩
end Go.Proofs.YtnhddnldebdmbaaGreatDoor
/- A heap's Pop. -/
namespace Go.Proofs.YtnhddnldebdmbaaGreatDoor
open Go.RowKit
set_option linter.unusedVariables false
set_option linter.unusedSimpArgs false
variable {K : LK}
attribute [local go_sem ↓] Go.wp_at_zero Go.wp_at_succ

def zeroHI : Int := 0
theorem zero_okI {x : Int} (h : okK K x) : okK K zeroHI := by
  obtain ⟨i, -, hi⟩ := h
  exact ⟨0, rfl, by omega⟩
/-- clear of one thing. -/
theorem run_clearI {B : Nat} {w : World} {b c g n cap m k : Nat} {l : List (Int × Nat)} (ty : TypeId) (h : HBI K B w b (.slice (some ⟨g, 0, none⟩) n cap) c l) (hm : m < l.length) : (Builtin.clear_ #[115] ty #[.slice (some ⟨g, m * 2, none⟩) 1 k]).run Tryz.prog w = .ok (.tuple #[]) (ptI w g m (zeroHI, 0)) := by
  obtain ⟨i0, hi, hz0, hz1, hz2⟩ := info_parts infoThI
  obtain ⟨p, hp⟩ : ∃ p, l[m]? = some p := ⟨l[m], List.getElem?_eq_getElem hm⟩
  have x0 : w.cell? ⟨g, m * 2, none⟩ = some (.int .i64 p.1) := h.th rfl hp 0 _ rfl
  have x1 : w.cell? ⟨g, m * 2 + 1, none⟩ = some (.int .i64 (p.2 : Int)) := h.th rfl hp 1 _ rfl
  have f := h.gfz rfl
  have a0 : (⟨g, m * 2, none⟩ : Addr).add 0 = ⟨g, m * 2, none⟩ := by rw [add_none]; rfl
  have a1 : (⟨g, m * 2, none⟩ : Addr).add 1 = ⟨g, m * 2 + 1, none⟩ := add_none _ _ _
  have hu := run_underlying (P := Tryz.prog) Tryz.underlying115
  unfold ptI zeroHI
  simp [Builtin.clear_, hu, zeroValue, typeInfo, hi, hz0, Builtin.zeroCells, storeCells, a0, a1, x0, x1, f, go_sem]
/-- A heap's row is cut. -/
theorem HBI.cut {B : Nat} {w : World} {b c g n cap m : Nat} {l : List (Int × Nat)} (h : HBI K B w b (.slice (some ⟨g, 0, none⟩) n cap) c l) (hl : l.length = n) (hm : m ≤ n) : HBI K B (w.setCell ⟨b, 1, none⟩ (.slice (some ⟨g, 0, none⟩) m cap)) b (.slice (some ⟨g, 0, none⟩) m cap) c (l.take m) := by
  subst hl
  have hne : b ≠ g := fun e => h.ne (by rw [e]; rfl)
  have hln : (l.take m).length = m := List.length_take_of_le hm
  refine ⟨h.hB, heap_setCell_same _ b 1 _ _ _ h.is, ?_, fun p hp => h.ok p (List.mem_of_mem_take hp), fun p hp => h.few p (List.mem_of_mem_take hp), h.lim, h.less.kept ((Kept.refl [b] w).set b 1 _ (by simp)) (fun k e => h.less.off (by rw [List.mem_singleton.1 e]; exact h.hB))⟩
  rw [hln, thC_takeI l m hm]
  have := own_take h.row hm
  exact ((Kept.refl [b] w).set b 1 _ (by simp)).row this (fun k hk => by simp [Value.ownBlock] at hk; simp; omega)
def PopPostI (K : LK) (B b c : Nat) (v : Value) (l : List (Int × Nat)) (p : Int × Nat) (w : World) (e : Ending) (w' : World) : Prop := e = .returned (.tuple #[.int .i64 p.1, .bool true]) ∧ ∃ v' l', (p :: l').Perm l ∧ Hp (keyK K) l' ∧ HBI K B w' b v' c l' ∧ Kept (blk b v) w w' ∧ blk b v' = blk b v
set_option maxRecDepth 100000 in
set_option maxHeartbeats 4000000 in
theorem pop_someI {B b c : Nat} {v : Value} {l : List (Int × Nat)} {p : Int × Nat} (w : World) (h : HBI K B w b v c l) (hh : Hp (keyK K) l) (hp : l[0]? = some p) (hlim : l.length ≤ 1000000) : Calls Tryz.prog 95 #[.pointer (some ⟨b, 0, none⟩)] w (PopPostI K B b c v l p w) := by
  have h0 : 0 < l.length := (List.getElem?_eq_some_iff.1 hp).1
  obtain ⟨g, cap, rfl, -, hgl, hle, hmx, -⟩ := own_form h.row h0
  obtain ⟨m, hm⟩ : ∃ m, l.length = m + 1 := ⟨l.length - 1, by omega⟩
  obtain ⟨y, hy⟩ : ∃ y, l[m]? = some y := ⟨l[m], List.getElem?_eq_getElem (by omega)⟩
  rw [hm] at hle hlim h
  have HM := Lib.hid hm
  have HP := Lib.hid hp
  have HY := Lib.hid hy
  have HH := Lib.hid hh
  have H0 := Lib.hid h
  have PK := fun W (hB : Below w.heap.size w W) => peek_someI W (h.later hB) hp
  have hmI : ((m + 1 : Nat) : Int) - 1 = (m : Int) := by omega
  clear hm hp hy hh h h0
  have PK := Lib.hid PK
  go_enter Tryz.func95, Tryz.ntmps95
  go_upto_region 4 with (go_at_call 67; (with_reducible refine (PK.out _ (Below.refl _ _)).mono ?_); rintro e w1 ⟨rfl, hB1⟩)
  obtain ⟨w2, hw2, B2⟩ : ∃ w2, w1 = w2 ∧ Below w.heap.size w w2 := ⟨_, rfl, hB1⟩
  rw [hw2]
  have h2 := H0.out.later B2
  have c1 := h2.c1
  have fb := h2.fz 1
  have x0 : w2.cell? ⟨g, 0, none⟩ = some (.int .i64 p.1) := by have := h2.th rfl HP.out 0 _ rfl; rwa [Nat.zero_mul] at this
  have x1 : w2.cell? ⟨g, 1, none⟩ = some (.int .i64 (p.2 : Int)) := by have := h2.th rfl HP.out 1 _ rfl; rwa [Nat.zero_mul] at this
  have y0 : w2.cell? ⟨g, m * 2, none⟩ = some (.int .i64 y.1) := h2.th rfl HY.out 0 _ rfl
  have y1 : w2.cell? ⟨g, m * 2 + 1, none⟩ = some (.int .i64 (y.2 : Int)) := h2.th rfl HY.out 1 _ rfl
  have f0 := h2.gfz rfl 0
  have f1 := h2.gfz rfl 1
  have im : (m : Int) < ((m + 1 : Nat) : Int) := by omega
  have im0 : (0 : Int) ≤ (m : Int) := by omega
  have iz : (0 : Int) < ((m + 1 : Nat) : Int) := by omega
  have H2 := Lib.hid h2
  have HB2 := Lib.hid B2
  clear hw2 hB1 h2 B2
  go_upto_region 5 with (fail)
  go_region
  go_upto_region 6 with (fail)
  obtain ⟨w3, hw3⟩ : ∃ w3, (ptI w2 g 0 y).drew = w3 := ⟨_, rfl⟩
  have hym := List.mem_of_getElem? HY.out
  have h3 := (H2.out.put rfl (i := 0) (p := y) (by rw [HM.out]; omega) (H2.out.ok y hym) (H2.out.few y hym)).later (below_drew _)
  have k3 : Kept [b, g] w w3 := by rw [← hw3]; exact (((Kept.of _ HB2.out).storedI g 0 y (by simp)).later (below_drew _))
  rw [hw3] at h3
  have hw3' := hw3
  unfold ptI at hw3'
  try rw [Nat.zero_mul] at hw3'
  rw [show (0 + 1 : Nat) = 1 from rfl] at hw3'
  rw [hw3']
  have hl3 : (l.set 0 y).length = m + 1 := by rw [List.length_set, HM.out]
  have hcl := run_clearI (k := cap - m) 0 h3 (m := m) (by rw [hl3]; omega)
  obtain ⟨w4, hw4⟩ : ∃ w4, ptI w3 g m (zeroHI, 0) = w4 := ⟨_, rfl⟩
  have h4 := h3.put rfl (i := m) (p := (zeroHI, 0)) (by rw [hl3]; omega) (zero_okI (H2.out.ok y hym)) (show (0 : Nat) < 1000000 by omega)
  have k4 : Kept [b, g] w w4 := by rw [← hw4]; exact k3.storedI g m _ (by simp)
  rw [hw4] at hcl h4
  have h5 := h4.cut (by rw [List.length_set, hl3]) (m := m) (by omega)
  rw [take_set_same] at h5
  have k5 := k4.set b 1 (.slice (some ⟨g, 0, none⟩) m cap) (by simp)
  have hl5 : ((l.set 0 y).take m).length = m := by rw [List.length_take, hl3]; omega
  have d1 := h3.c1
  have e1 := h4.c1
  have fb4 := h4.fz 1
  have SK := Lib.hid (sinkI _ h5 hl5 ((HH.out.dn y).take) (by omega))
  have LT := Lib.hid (last_top HP.out (show l[l.length - 1]? = some y by rw [HM.out]; exact HY.out))
  have hcm : cap ≠ m := by omega
  have hcm2 : ¬ cap = m := hcm
  have hmc : (m : Int) ≤ (cap : Int) := by omega
  have hm1 : m + 1 - m = 1 := by omega
  have K5 := Lib.hid k5
  clear hw3 hw3' hw4 h3 h4 h5 k3 k4 k5 hl3 hl5 hym c1 fb x0 x1 y0 y1 f0 f1 
  go_wp2_with (go_at_call 117; (with_reducible refine SK.out.mono ?_); rintro e w6 ⟨rfl, l6, hP6, hHp6, hH6, hK6⟩)
  go_ret2
  refine ⟨rfl, _, l6, (hP6.cons p).trans (by have := LT.out; rw [HM.out] at this; exact this), hHp6, hH6, ?_, rfl⟩
  exact K5.out.trans (hK6.mono (by simp))
end Go.Proofs.YtnhddnldebdmbaaGreatDoor
