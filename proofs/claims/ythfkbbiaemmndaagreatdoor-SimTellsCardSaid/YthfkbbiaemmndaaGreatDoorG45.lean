/- Texts about the program, one after the other: YRpl, YAll, YSim, YAwk. -/
import Derived.WalkKit
import Derived.ProofKit
import Derived.Handy
import Derived.Lib.Hide
import Derived.Deep.MidRow
import Derived.Deep.QuietTactic
import Derived.BigQuiet
import Derived.Deep.RegionHeld3
import Derived.Laws.Externs
import Derived.RangeFuncBox
import Derived.Deep.CutBlock
import Derived.Deep.LoopGhost
import Derived.WalkMore
import Derived.OrdersIn
import Derived.Stop.RegionWithIn
import Derived.Deep.RegionLaw
import Derived.Laws.OwnMore
import Derived.Deep.CutRange
import Derived.Deep.Quiet
import Derived.Deep.RegionHeld
import Derived.Laws.AppendOwn
import Derived.Below
import Derived.LaidMore
import Derived.Laws.CopyOwn
import Derived.IntWalk
import Derived.OwnWalk
import Derived.BigRegion
import Derived.Deep.DrawnRows
import Derived.Deep.RegionHeldLaw
import Derived.LoopIn
import Derived.LoopNIn
import Derived.TacticsInMore
import Derived.OwnWalkIn
import Derived.RangeFuncNested
import Derived.RangeFuncBound
import Derived.RangeFuncCalls
import Derived.RangeFuncLeaves
import Derived.RangeFuncWrites
import Derived.Shelf.Abstract
import Derived.StillTailTactics
import Derived.Lib.SliceRun
import Derived.Deep.AppendSrc
import Derived.Deep.Upon
import Derived.Deep.DeepAppendWide
import Derived.Sort.LoopGhostIn
import Derived.Laws.MakeOwn
import Derived.Shelf.SlGeneric
import Derived.Shelf.Spec.SlicesGrow
import Derived.Ground.Names8Prog
import Derived.Shelf.SlSortCmp.Whole1
import Derived.Ground.SlsfProg
import Derived.Ground.SlgnProg
import Derived.Laws.ShiftsVarLaws
import Derived.Outline
import Derived.Laws.Bits128
import Derived.Deep.RegionWith
import Derived.Shelf.RegionOpen
import Derived.Laws.BytesString
import Derived.RangeFuncRecord
import Derived.MapKept
import Derived.Maps.AppendAt
import Derived.Laws.AppendOwnNone
import Derived.Shelf.SlSortCmp.NoneTotal
import Derived.Shelf.Small.Bits
import Derived.Shelf.Small.Strs
import Derived.Shelf.Small.Wraps
import Derived.Shelf.Strconv.Itoa0
import Derived.Shelf.LaysM
import Derived.Shelf.Strconv.Clone
import Derived.Shelf.Strings.Search1
import Derived.Shelf.Bits.Mul64
import Derived.Ground.Names2Prog
import Derived.Shelf.Slices.SearchI
import Derived.ChangeOld
import Derived.OpenShut
import Derived.Test.YthfkbbiaemmndaaGreatDoorRows
import Derived.Test.YthfkbbiaemmndaaGreatDoorProg
import Derived.Test.YthfkbbiaemmndaaGreatDoorG3
import Derived.Test.YthfkbbiaemmndaaGreatDoorG4
import Derived.Test.YthfkbbiaemmndaaGreatDoorG6
import Derived.Test.YthfkbbiaemmndaaGreatDoorG7
import Derived.Test.YthfkbbiaemmndaaGreatDoorG8
import Derived.Test.YthfkbbiaemmndaaGreatDoorG9
import Derived.Test.YthfkbbiaemmndaaGreatDoorG10
import Derived.Test.YthfkbbiaemmndaaGreatDoorG11
import Derived.Test.YthfkbbiaemmndaaGreatDoorG12
import Derived.Test.YthfkbbiaemmndaaGreatDoorG13
import Derived.Test.YthfkbbiaemmndaaGreatDoorG14
import Derived.Test.YthfkbbiaemmndaaGreatDoorG19
import Derived.Test.YthfkbbiaemmndaaGreatDoorG23
import Derived.Test.YthfkbbiaemmndaaGreatDoorG25
import Derived.Test.YthfkbbiaemmndaaGreatDoorG35
import Derived.Test.YthfkbbiaemmndaaGreatDoorG41
import Derived.Test.YthfkbbiaemmndaaGreatDoorG42
import Derived.Test.YthfkbbiaemmndaaGreatDoorG43
import Derived.Test.YthfkbbiaemmndaaGreatDoorG44
set_option linter.unusedVariables false
set_option linter.unusedSimpArgs false
set_option maxRecDepth 100000
set_option maxHeartbeats 16000000
namespace Go.Proofs.YthfkbbiaemmndaaGreatDoor
section
open Go.RowKit
abbrev TPl : TypeId := 63
abbrev TG10 : TypeId := 109
def RplP (l : List Ts) (k : Nat) (w : World) (e : Ending) (w' : World) : Prop :=
 ∃ A c, e = .returned (.agg #[.slice A (tst l (sceneS l (k : Int)) (plT l (k : Int))).sp.length c, .int .i64 (plE l (k : Int))]) ∧ SpR w' A c (tst l (sceneS l (k : Int)) (plT l (k : Int))).sp ∧ Below w.heap.size w w'
theorem two_set {W : World} {gb : Nat} {v0 v1 : Value} {T : TypeId} (h : W.heap[gb]? = some (.cells #[v0, v1] T (0, 0))) (x y : Value) : ((W.setCell ⟨gb, 0, none⟩ x).setCell ⟨gb, 1, none⟩ y).heap[gb]? = some (.cells #[x, y] T (0, 0)) := by
 have h1 : (W.setCell ⟨gb, 0, none⟩ x).heap[gb]? = some (.cells #[x, v1] T (0, 0)) := by
  rw [setCell_eq_setRow W gb 0 _ T (0, 0) x h]
  exact setRow_heap W gb _ _ T _ h
 rw [setCell_eq_setRow _ gb 1 _ T (0, 0) y h1]
 exact setRow_heap _ gb _ _ T _ h1
theorem infoPl : (Tryz.prog.info? TPl).map (·.size) = some 2 := by kernel_rfl
theorem results_pl {fn : Func} {p : Tmp} (h : fn.results = #[.cell p TPl]) (tmps : Array Value) (w : World) (b : Nat) {x y : Value} (hp : tmps.getD p undef = .pointer (some ⟨b, 0, none⟩)) (hb : w.heap[b]? = some (.cells #[x, y] TPl (0, 0))) :
  (results fn tmps).run Tryz.prog w = .ok (.agg #[x, y]) w :=
 results_cell_row h tmps w b _ _ _ _ hp hb Tryz.underlying63 rfl infoPl
theorem three_fin {W3 W : World} {pb c5 d5 : Nat} {A5 B5 D5 : Option Addr} {sp : List Spn} {en : List Int} (hpb : W3.heap.size ≤ pb) (hb : Below W3.heap.size W3 W) (h : W.heap[pb]? = some (.cells #[.slice none 0 0, .slice none 0 0, .slice none 0 0] TG10 (0, 0))) (hs : SpR W A5 c5 sp) (hc : CRow W B5 d5 en) :
  (((W.setCell ⟨pb, 0, none⟩ (.slice A5 sp.length c5)).setCell ⟨pb, 1, none⟩ (.slice B5 en.length d5)).setCell ⟨pb, 2, none⟩ (.slice D5 en.length en.length)).heap[pb]? = some (.cells #[.slice A5 sp.length c5, .slice B5 en.length d5, .slice D5 en.length en.length] TG10 (0, 0)) ∧
  SpR (((W.setCell ⟨pb, 0, none⟩ (.slice A5 sp.length c5)).setCell ⟨pb, 1, none⟩ (.slice B5 en.length d5)).setCell ⟨pb, 2, none⟩ (.slice D5 en.length en.length)) A5 c5 sp ∧
  CRow (((W.setCell ⟨pb, 0, none⟩ (.slice A5 sp.length c5)).setCell ⟨pb, 1, none⟩ (.slice B5 en.length d5)).setCell ⟨pb, 2, none⟩ (.slice D5 en.length en.length)) B5 d5 en ∧
  Below W3.heap.size W3 (((W.setCell ⟨pb, 0, none⟩ (.slice A5 sp.length c5)).setCell ⟨pb, 1, none⟩ (.slice B5 en.length d5)).setCell ⟨pb, 2, none⟩ (.slice D5 en.length en.length)) := by
 have h1 := got_set0 h (.slice A5 sp.length c5)
 have h2 := got_set1 h1 (.slice B5 en.length d5)
 have h3 := got_set2 h2 (.slice D5 en.length en.length)
 have key : ∀ (c : Nat) (q : Nat) (x : Int), W.cell? ⟨c, q, none⟩ = some (.int .i64 x) → c ≠ pb := by
  rintro c q x hx rfl
  have : (#[Value.slice none 0 0, .slice none 0 0, .slice none 0 0] : Array Value)[q]? = some (.int .i64 x) := by simpa [World.cell?, h] using hx
  match q, this with
  | 0, this => simp at this
  | 1, this => simp at this
  | 2, this => simp at this
  | q + 3, this => simp at this
 have keep : ∀ (c : Nat) (q : Nat) (x : Int), W.cell? ⟨c, q, none⟩ = some (.int .i64 x) → (((W.setCell ⟨pb, 0, none⟩ (.slice A5 sp.length c5)).setCell ⟨pb, 1, none⟩ (.slice B5 en.length d5)).setCell ⟨pb, 2, none⟩ (.slice D5 en.length en.length)).cell? ⟨c, q, none⟩ = some (.int .i64 x) := fun c q x hx => by
  have hne := key c q x hx
  refine (World.cell?_of_block (w := W) (a := ⟨c, q, none⟩) ?_).trans hx
  exact ((heap_setCell_other _ ⟨pb, 2, none⟩ c _ hne).trans (heap_setCell_other _ ⟨pb, 1, none⟩ c _ hne)).trans (heap_setCell_other _ ⟨pb, 0, none⟩ c _ hne)
 refine ⟨h3, ⟨hs.le, hs.mx, fun i x hx => ?_⟩, ⟨hc.le, hc.mx, hc.wf, fun i x hx => ?_⟩, ((hb.setCell (p := ⟨pb, 0, none⟩) hpb _).setCell (p := ⟨pb, 1, none⟩) hpb _).setCell (p := ⟨pb, 2, none⟩) hpb _⟩
 ·obtain ⟨c, q, e, hr⟩ := hs.at_ i x hx
  refine ⟨c, q, e, fun j v hv => ?_⟩
  have h9 := hr j v hv
  match j, hv with
  | 0, hv => obtain rfl : Value.int .i64 (x.j : Int) = v := by simpa [snL] using hv
             exact keep _ _ _ h9
  | 1, hv => obtain rfl : Value.int .i64 x.f = v := by simpa [snL] using hv
             exact keep _ _ _ h9
  | 2, hv => obtain rfl : Value.int .i64 x.t = v := by simpa [snL] using hv
             exact keep _ _ _ h9
  | j + 3, hv => simp [snL] at hv
 ·obtain ⟨c, q, e, hr⟩ := hc.at_ i x hx
  exact ⟨c, q, e, keep _ _ _ hr⟩
theorem two_fin {B rb c5 : Nat} {W : World} {A5 : Option Addr} {sp : List Spn} {x y v0 v1 : Value} (hB : B ≤ rb) (h : W.heap[rb]? = some (.cells #[v0, v1] TPl (0, 0))) (hs : SpR W A5 c5 sp) :
  ((W.setCell ⟨rb, 0, none⟩ x).setCell ⟨rb, 1, none⟩ y).heap[rb]? = some (.cells #[x, y] TPl (0, 0)) ∧ SpR ((W.setCell ⟨rb, 0, none⟩ x).setCell ⟨rb, 1, none⟩ y) A5 c5 sp ∧ Below B W ((W.setCell ⟨rb, 0, none⟩ x).setCell ⟨rb, 1, none⟩ y) := by
 refine ⟨two_set h x y, ⟨hs.le, hs.mx, fun i z hz => ?_⟩, ((Below.refl B W).setCell (p := ⟨rb, 0, none⟩) hB x).setCell (p := ⟨rb, 1, none⟩) hB y⟩
 obtain ⟨c, q, e, hr⟩ := hs.at_ i z hz
 have hne : c ≠ rb := by
  rintro rfl
  have h9 := hr 2 (.int .i64 z.t) rfl
  simp [World.cell?, h] at h9
 refine ⟨c, q, e, fun j v hv => (World.cell?_of_block (w := W) (a := ⟨c, q + i * 3 + j, none⟩) ?_).trans (hr j v hv)⟩
 exact (heap_setCell_other _ ⟨rb, 1, none⟩ c _ hne).trans (heap_setCell_other _ ⟨rb, 0, none⟩ c _ hne)
theorem rcrit_sm (b o cap : Nat) (l : List Ts) (k : Nat) (y : Ts) (w : World) (hR : Row w (some ⟨b, o, none⟩) cap l) (h : ScH l k y) :
  Calls Tryz.prog 50 #[.slice (some ⟨b, o, none⟩) l.length cap, .int .i64 (k : Int)] w fun e w' => ∃ b1 o1 c2 : Nat, e = .returned (.agg #[.slice (some ⟨b1, o1, none⟩) (sceneS l (k : Int)).length c2, .int .i64 ((headS l (k : Int)).length : Int), .int .i64 0]) ∧ FRow w' (some ⟨b1, o1, none⟩) c2 (sceneS l (k : Int)) ∧ Below w.heap.size w w' :=
 (rcrit_any b o cap l k y w hR h.hc h.hy).mono fun e w' hp => by
  obtain ⟨h2, (⟨hl4, A2, c2, gs, rfl, hfo, hmp⟩ | ⟨hl4, rfl⟩)⟩ := hp
  ·obtain ⟨A, c, hv, hF⟩ := hfo.frow
   simp only [Value.slice.injEq] at hv
   obtain ⟨rfl, -, rfl⟩ := hv
   rw [hmp] at hF
   obtain ⟨b1, o1, rfl, -, -⟩ := mid_cells h hF
   exact ⟨b1, o1, _, rfl, hF, h2⟩
  ·have := h.js; omega
def RpC (gb : Nat) (js : Value) (hl : Int) (p q : Addr) (a d : Int) (W : World) : Prop := W.cell? ⟨gb, 0, none⟩ = some js ∧ W.cell? ⟨gb, 1, none⟩ = some (.int .i64 hl) ∧ W.cell? p = some (.int .i64 a) ∧ W.cell? q = some (.int .i64 d)
theorem rplay_any (b o cap : Nat) (l : List Ts) (k : Nat) (y : Ts) (w : World) (hR : Row w (some ⟨b, o, none⟩) cap l) (h : ScH l k y) (ht : ((sceneS l (k : Int)).map (·.k)).sum ≤ 1000000000) :
  Calls Tryz.prog 25 #[.slice (some ⟨b, o, none⟩) l.length cap, .int .i64 (k : Int)] w (RplP l k w) := by
 obtain ⟨rb, hrb⟩ : ∃ rb, w.heap.size = rb := ⟨_, rfl⟩
 obtain ⟨W1, hW1, hR1, B1⟩ : ∃ W1, w.alloc (.cells #[.slice none 0 0, .int .i64 0] TPl) = W1 ∧ W1.heap[rb]? = some (.cells #[.slice none 0 0, .int .i64 0] TPl (0, 0)) ∧ Below w.heap.size w W1 := ⟨_, rfl, by rw [← hrb]; exact World.alloc_heap_new w _, (Below.refl _ _).alloc (Nat.le_refl _) _⟩
 have KC0 := rcrit_sm b o cap l k y W1 (hR.later B1) h
 have KU0 := fun V R rc hV hF => rplay_until (R := R) (rc := rc) (A := some ⟨b, o, none⟩) (cap := cap) h ht V hV hF
 have KM0 := fun W A c (hF : FRow W A c (sceneS l (k : Int))) => mid_cells h hF
 obtain ⟨-, hln, hhl⟩ := h.mid
 obtain ⟨en0, en1, en2, en3⟩ := h.ends
 have hbd := h.bd
 have hk := h.lt
 have hn8 := h.n8
 have HYY := Lib.hid h.hy
 unfold RplP
 obtain ⟨E, hE⟩ : ∃ E, plE l (k : Int) = E := ⟨_, rfl⟩
 obtain ⟨sp, hsp⟩ : ∃ sp, (tst l (sceneS l (k : Int)) (plT l (k : Int))).sp = sp := ⟨_, rfl⟩
 obtain ⟨en, hen⟩ : ∃ en, (tst l (sceneS l (k : Int)) (plT l (k : Int))).en = en := ⟨_, rfl⟩
 rw [hE] at en1 en2 en3 ⊢
 rw [hsp] at KU0 ⊢
 rw [hen] at KU0 en0 en1
 obtain ⟨js, hjs⟩ : ∃ js, sceneS l (k : Int) = js := ⟨_, rfl⟩
 rw [hjs] at KC0 KU0 KM0 hln en0
 obtain ⟨hl, hhl2⟩ : ∃ hl, (headS l (k : Int)).length = hl := ⟨_, rfl⟩
 rw [hhl2] at KC0 KM0 hln hhl en1
 obtain ⟨S, hS⟩ : ∃ S, startS l (k : Int) = S := ⟨_, rfl⟩
 rw [hS] at KU0 KM0 hbd
 obtain ⟨n, hn⟩ : ∃ n, js.length = n := ⟨_, rfl⟩
 rw [hn] at KC0 KU0 hln en0
 have HEN := Lib.hid (And.intro en0 en1)
 have HR1 := Lib.hid hR1
 have HB1 := Lib.hid B1
 have HROW := Lib.hid hR
 have KC := Lib.hid KC0
 have KU := Lib.hid KU0
 have KM := Lib.hid KM0
 have HNN := Lib.hid hn
 have hle := hR.le
 have hmx := hR.mx
 have HRB := Lib.hid hrb
 clear hR hR1 B1 ht h KC0 KU0 KM0 en0 en1 hE hsp hen hjs hhl2 hS hn
 go_enter Tryz.func25, Tryz.ntmps25
 go_upto_region 1 with (fail)
 clear hW1 hrb
 go_upto_region 2 with (go_at_call 50; (with_reducible refine KC.out.mono ?_); rintro e w2 ⟨b1, o1, c2, rfl, hF, h2⟩; have HF2 := Lib.hid hF; have H2 := Lib.hid h2; clear hF h2)
 clear KC
 obtain ⟨gb, hgb⟩ : ∃ gb, w2.heap.size = gb := ⟨_, rfl⟩
 obtain ⟨W3, hW3, HG3, HB32⟩ : ∃ W3, w2.alloc (.cells #[.slice (some ⟨b1, o1, none⟩) n c2, .int .i64 (hl : Int), .int .i64 0] TGo15) = W3 ∧ Hid (W3.heap[gb]? = some (.cells #[.slice (some ⟨b1, o1, none⟩) n c2, .int .i64 (hl : Int), .int .i64 0] TGo15 (0, 0))) ∧ Hid (Below w2.heap.size w2 W3) := ⟨_, rfl, Lib.hid (by rw [← hgb]; exact World.alloc_heap_new w2 _), Lib.hid ((Below.refl _ _).alloc (Nat.le_refl _) _)⟩
 rw [hgb, hW3]
 clear hW3 hgb
 have HF3 := Lib.hid (HF2.out.later HB32.out)
 have HB3 := Lib.hid ((HB1.out.trans (H2.out.mono HB1.out.size)).trans (HB32.out.mono (HB1.out.trans (H2.out.mono HB1.out.size)).size))
 have HR3 := Lib.hid (((HB32.out.block rb (by have := H2.out.size; have := (Array.getElem?_eq_some_iff.1 HR1.out).1; omega)).trans (H2.out.block rb (Array.getElem?_eq_some_iff.1 HR1.out).1)).trans HR1.out)
 clear HF2 HB32 H2 HR1 HB1
 obtain ⟨b1', o1', m2, m3, m4⟩ := KM.out _ _ _ HF3.out
 cases m2
 obtain ⟨d0, d1, d2, -, -, -⟩ := got_cells HG3.out
 have HCE : Hid (∀ W, Below W3.heap.size W3 W → RpC gb (.slice (some ⟨b1, o1, none⟩) n c2) (hl : Int) ⟨b1, o1 + hl * 5 + 1, none⟩ ⟨b, o + k * 7 + 3, none⟩ (S - y.j) y.d W) := Lib.hid (fun W hb => by
  have hc := cells_below hb
  exact ⟨hc _ _ _ d0, hc _ _ _ d1, hc _ _ _ m4, (row_cells HROW.out HYY.out (HB3.out.trans (hb.mono HB3.out.size))).c3⟩)
 clear m3 m4
 go_upto_region 4 with (fail)
 clear d0 d1 d2
 have hw1 : IntKind.i64.wrap (S - y.j + y.d) = S - y.j + y.d := by rw [IntKind.wrap_i64]; omega
 have i0 : (0 : Int) ≤ (k : Int) := by omega
 have i1 : (k : Int) < (l.length : Int) := by omega
 have j0 : (0 : Int) ≤ (hl : Int) := by omega
 have j1 : (hl : Int) < (n : Int) := by omega
 go_cut [6] from 14 to 30 (fun s6 wx => ∃ pb A5 c5 B5 d5 D5, s6 = .pointer (some ⟨pb, 0, none⟩) ∧ Hid (wx.heap[pb]? = some (.cells #[.slice A5 sp.length c5, .slice B5 en.length d5, .slice D5 en.length en.length] TG10 (0, 0)) ∧ SpR wx A5 c5 sp ∧ CRow wx B5 d5 en ∧ Below W3.heap.size W3 wx))
 case first =>
   have HB7 := Lib.hid (below_drew W3)
   have HC0 := HCE.out _ HB7.out
   have KU := Lib.hid (fun V (hb : Below W3.heap.size W3 V) => KU.out V (some ⟨b1, o1, none⟩) c2 (HROW.out.later (HB3.out.trans (hb.mono HB3.out.size))) (HF3.out.later hb))
   refine wp_region_noPanic ?_
   refine wp_region_held_drew (S := RpC gb (.slice (some ⟨b1, o1, none⟩) n c2) (hl : Int) ⟨b1, o1 + hl * 5 + 1, none⟩ ⟨b, o + k * 7 + 3, none⟩ (S - y.j) y.d) (by kernel_rfl) HC0 (fun hHeld => ?_)
   clear HC0
   generalize W3.drew = W7 at *
   refine wpAnyH_take (i := 0) (oi := ⟨some 14, _, _, _, _, _⟩) (v := .slice (some ⟨b, o, none⟩) l.length cap) rfl (by kernel_rfl) (by kernel_rfl) (by kernel_rfl) (fun _ _ _ h => h) (Or.inl ⟨by rfl, ?_⟩) (by assumption) ?_
   ·intro w0 hSw
    obtain ⟨e0, e1, e2, e3⟩ := hSw
    go_simp
    (try with_reducible rfl)
   (try simp only [Act.put, List.setIfInBounds_toArray, List.set_cons_zero, List.set_cons_succ])
   refine wpAnyH_take (i := 1) (oi := ⟨some 15, _, _, _, _, _⟩) (v := .pointer (some ⟨gb, 0, none⟩)) rfl (by kernel_rfl) (by kernel_rfl) (by kernel_rfl) (fun _ _ _ h => h) (Or.inl ⟨by rfl, ?_⟩) (by assumption) ?_
   ·intro w0 hSw
    obtain ⟨e0, e1, e2, e3⟩ := hSw
    go_simp
    (try with_reducible rfl)
   (try simp only [Act.put, List.setIfInBounds_toArray, List.set_cons_zero, List.set_cons_succ])
   refine wpAnyH_take (i := 2) (oi := ⟨some 16, _, _, _, _, _⟩) (v := .slice (some ⟨b1, o1, none⟩) n c2) rfl (by kernel_rfl) (by kernel_rfl) (by kernel_rfl) (fun _ _ _ h => h) (Or.inl ⟨by rfl, ?_⟩) (by assumption) ?_
   ·intro w0 hSw
    obtain ⟨e0, e1, e2, e3⟩ := hSw
    go_simp
    (try with_reducible rfl)
   (try simp only [Act.put, List.setIfInBounds_toArray, List.set_cons_zero, List.set_cons_succ])
   refine wpAnyH_take (i := 3) (oi := ⟨some 17, _, _, _, _, _⟩) (v := .pointer (some ⟨gb, 0, none⟩)) rfl (by kernel_rfl) (by kernel_rfl) (by kernel_rfl) (fun _ _ _ h => h) (Or.inl ⟨by rfl, ?_⟩) (by assumption) ?_
   ·intro w0 hSw
    obtain ⟨e0, e1, e2, e3⟩ := hSw
    go_simp
    (try with_reducible rfl)
   (try simp only [Act.put, List.setIfInBounds_toArray, List.set_cons_zero, List.set_cons_succ])
   refine wpAnyH_take (i := 4) (oi := ⟨some 18, _, _, _, _, _⟩) (v := .slice (some ⟨b1, o1, none⟩) n c2) rfl (by kernel_rfl) (by kernel_rfl) (by kernel_rfl) (fun _ _ _ h => h) (Or.inl ⟨by rfl, ?_⟩) (by assumption) ?_
   ·intro w0 hSw
    obtain ⟨e0, e1, e2, e3⟩ := hSw
    go_simp
    (try with_reducible rfl)
   (try simp only [Act.put, List.setIfInBounds_toArray, List.set_cons_zero, List.set_cons_succ])
   refine wpAnyH_take (i := 5) (oi := ⟨some 19, _, _, _, _, _⟩) (v := .pointer (some ⟨gb, 1, none⟩)) rfl (by kernel_rfl) (by kernel_rfl) (by kernel_rfl) (fun _ _ _ h => h) (Or.inl ⟨by rfl, ?_⟩) (by assumption) ?_
   ·intro w0 hSw
    obtain ⟨e0, e1, e2, e3⟩ := hSw
    go_simp
    (try with_reducible rfl)
   (try simp only [Act.put, List.setIfInBounds_toArray, List.set_cons_zero, List.set_cons_succ])
   refine wpAnyH_take (i := 6) (oi := ⟨some 20, _, _, _, _, _⟩) (v := .int .i64 (hl : Int)) rfl (by kernel_rfl) (by kernel_rfl) (by kernel_rfl) (fun _ _ _ h => h) (Or.inl ⟨by rfl, ?_⟩) (by assumption) ?_
   ·intro w0 hSw
    obtain ⟨e0, e1, e2, e3⟩ := hSw
    go_simp
    (try with_reducible rfl)
   (try simp only [Act.put, List.setIfInBounds_toArray, List.set_cons_zero, List.set_cons_succ])
   refine wpAnyH_take (i := 7) (oi := ⟨some 21, _, _, _, _, _⟩) (v := .pointer (some ⟨b1, o1 + hl * 5, none⟩)) rfl (by kernel_rfl) (by kernel_rfl) (by kernel_rfl) (fun _ _ _ h => h) (Or.inl ⟨by rfl, ?_⟩) (by assumption) ?_
   ·intro w0 hSw
    obtain ⟨e0, e1, e2, e3⟩ := hSw
    go_simp
    (try with_reducible rfl)
   (try simp only [Act.put, List.setIfInBounds_toArray, List.set_cons_zero, List.set_cons_succ])
   refine wpAnyH_take (i := 8) (oi := ⟨some 22, _, _, _, _, _⟩) (v := .pointer (some ⟨b1, o1 + hl * 5 + 1, none⟩)) rfl (by kernel_rfl) (by kernel_rfl) (by kernel_rfl) (fun _ _ _ h => h) (Or.inl ⟨by rfl, ?_⟩) (by assumption) ?_
   ·intro w0 hSw
    obtain ⟨e0, e1, e2, e3⟩ := hSw
    go_simp
    (try with_reducible rfl)
   (try simp only [Act.put, List.setIfInBounds_toArray, List.set_cons_zero, List.set_cons_succ])
   refine wpAnyH_take (i := 9) (oi := ⟨some 23, _, _, _, _, _⟩) (v := .int .i64 (S - y.j)) rfl (by kernel_rfl) (by kernel_rfl) (by kernel_rfl) (fun _ _ _ h => h) (Or.inl ⟨by rfl, ?_⟩) (by assumption) ?_
   ·intro w0 hSw
    obtain ⟨e0, e1, e2, e3⟩ := hSw
    go_simp
    (try with_reducible rfl)
   (try simp only [Act.put, List.setIfInBounds_toArray, List.set_cons_zero, List.set_cons_succ])
   refine wpAnyH_take (i := 10) (oi := ⟨some 24, _, _, _, _, _⟩) (v := .slice (some ⟨b, o, none⟩) l.length cap) rfl (by kernel_rfl) (by kernel_rfl) (by kernel_rfl) (fun _ _ _ h => h) (Or.inl ⟨by rfl, ?_⟩) (by assumption) ?_
   ·intro w0 hSw
    obtain ⟨e0, e1, e2, e3⟩ := hSw
    go_simp
    (try with_reducible rfl)
   (try simp only [Act.put, List.setIfInBounds_toArray, List.set_cons_zero, List.set_cons_succ])
   refine wpAnyH_take (i := 11) (oi := ⟨some 25, _, _, _, _, _⟩) (v := .int .i64 (k : Int)) rfl (by kernel_rfl) (by kernel_rfl) (by kernel_rfl) (fun _ _ _ h => h) (Or.inl ⟨by rfl, ?_⟩) (by assumption) ?_
   ·intro w0 hSw
    obtain ⟨e0, e1, e2, e3⟩ := hSw
    go_simp
    (try with_reducible rfl)
   (try simp only [Act.put, List.setIfInBounds_toArray, List.set_cons_zero, List.set_cons_succ])
   refine wpAnyH_take (i := 12) (oi := ⟨some 26, _, _, _, _, _⟩) (v := .pointer (some ⟨b, o + k * 7, none⟩)) rfl (by kernel_rfl) (by kernel_rfl) (by kernel_rfl) (fun _ _ _ h => h) (Or.inl ⟨by rfl, ?_⟩) (by assumption) ?_
   ·intro w0 hSw
    obtain ⟨e0, e1, e2, e3⟩ := hSw
    go_simp
    (try with_reducible rfl)
   (try simp only [Act.put, List.setIfInBounds_toArray, List.set_cons_zero, List.set_cons_succ])
   refine wpAnyH_take (i := 13) (oi := ⟨some 27, _, _, _, _, _⟩) (v := .pointer (some ⟨b, o + k * 7 + 3, none⟩)) rfl (by kernel_rfl) (by kernel_rfl) (by kernel_rfl) (fun _ _ _ h => h) (Or.inl ⟨by rfl, ?_⟩) (by assumption) ?_
   ·intro w0 hSw
    obtain ⟨e0, e1, e2, e3⟩ := hSw
    go_simp
    (try with_reducible rfl)
   (try simp only [Act.put, List.setIfInBounds_toArray, List.set_cons_zero, List.set_cons_succ])
   refine wpAnyH_take (i := 14) (oi := ⟨some 28, _, _, _, _, _⟩) (v := .int .i64 y.d) rfl (by kernel_rfl) (by kernel_rfl) (by kernel_rfl) (fun _ _ _ h => h) (Or.inl ⟨by rfl, ?_⟩) (by assumption) ?_
   ·intro w0 hSw
    obtain ⟨e0, e1, e2, e3⟩ := hSw
    go_simp
    (try with_reducible rfl)
   (try simp only [Act.put, List.setIfInBounds_toArray, List.set_cons_zero, List.set_cons_succ])
   refine wpAnyH_take (i := 15) (oi := ⟨some 29, _, _, _, _, _⟩) (v := .int .i64 (S - y.j + y.d)) rfl (by kernel_rfl) (by kernel_rfl) (by kernel_rfl) (fun _ _ _ h => h) (Or.inl ⟨by rfl, ?_⟩) (by assumption) ?_
   ·intro w0 hSw
    obtain ⟨e0, e1, e2, e3⟩ := hSw
    go_simp
    (try with_reducible rfl)
   (try simp only [Act.put, List.setIfInBounds_toArray, List.set_cons_zero, List.set_cons_succ])
   refine wpAnyH_ready (rs := [16, 17]) (by kernel_rfl) (by simp) ?_
   refine (AllReadyH.cons (o := ⟨some 30, _, _, _, _, _⟩) rfl (fun K hK => ?_) (AllReadyH.cons (o := ⟨some 6, _, _, _, _, _⟩) rfl (fun K hK => ?_) AllReadyH.nil))
   ·go_simp
    go_at_call 51
    refine (KU.out _ HB7.out).mono ?_
    rintro e w8 ⟨A5, c5, B5, d5, D5, rfl, hsp, hcr, h8⟩
    have HSP := Lib.hid hsp
    have HCR := Lib.hid hcr
    have HB8 := Lib.hid h8
    have HB7 := Lib.hid (HB7.out.trans (h8.mono HB7.out.size))
    clear hsp hcr h8
    refine hK.out _ _ (HCE.out _ HB7.out) (fun hHeld => ?_)
    clear hK K
    (try simp only [Act.put, List.setIfInBounds_toArray, List.set_cons_zero, List.set_cons_succ])
    refine wpAnyH_ready (rs := [17]) (by kernel_rfl) (by simp) ?_
    refine (AllReadyH.cons (o := ⟨some 6, _, _, _, _, _⟩) rfl (fun K hK => ?_) AllReadyH.nil)
    obtain ⟨pb, hpb⟩ : ∃ pb, w8.heap.size = pb := ⟨_, rfl⟩
    obtain ⟨W9, hW9, HB9, X9, HBB⟩ : ∃ W9, w8.alloc (.cells #[.slice none 0 0, .slice none 0 0, .slice none 0 0] TG10) = W9 ∧ Hid (Below W3.heap.size W3 W9) ∧ Hid (W9.heap[pb]? = some (.cells #[.slice none 0 0, .slice none 0 0, .slice none 0 0] TG10 (0, 0))) ∧ Hid (Below w8.heap.size w8 W9) :=
     ⟨_, rfl, Lib.hid (HB7.out.alloc HB7.out.size _), Lib.hid (by rw [← hpb]; exact World.alloc_heap_new w8 _), Lib.hid ((Below.refl _ _).alloc (Nat.le_refl _) _)⟩
    go_simp
    have HPB : Hid (W3.heap.size ≤ pb ∧ w8.heap.size = pb) := Lib.hid ⟨by have := HB7.out.size; omega, hpb⟩
    clear hW9 hpb
    have HB7 := HB9
    refine hK.out _ _ (HCE.out _ HB7.out) (fun hHeld => ?_)
    clear hK K
    (try simp only [Act.put, List.setIfInBounds_toArray, List.set_cons_zero, List.set_cons_succ])
    have HFF : Hid (SpR W9 A5 c5 sp ∧ CRow W9 B5 d5 en) := Lib.hid ⟨HSP.out.later HBB.out, HCR.out.later HBB.out⟩
    refine wpAnyH_ready (rs := [18]) (by kernel_rfl) (by simp) ?_
    refine (AllReadyH.cons (o := ⟨none, _, _, _, _, _⟩) rfl (fun K hK => ?_) AllReadyH.nil)
    obtain ⟨g0, g1, g2, f0, f1, f2⟩ := got_cells X9.out
    go_simp
    clear g0 g1 g2 f0 f1 f2
    have HF := Lib.hid (three_fin HPB.out.1 HB7.out X9.out HFF.out.1 HFF.out.2 (D5 := D5))
    refine hK.out _ _ (HCE.out _ HF.out.2.2.2) (fun hHeld => ?_)
    clear hK K
    (try simp only [Act.put, List.setIfInBounds_toArray, List.set_cons_zero, List.set_cons_succ])
    refine wpAnyH_done (by kernel_rfl) ?_ _
    refine NoPanic.normal ?_
    simp only [Exit.then]
    apply_assumption
    go_meet
    exact ⟨pb, A5, c5, B5, d5, D5, rfl, HF⟩
   ·obtain ⟨pb, hpb⟩ : ∃ pb, W7.heap.size = pb := ⟨_, rfl⟩
    obtain ⟨W9, hW9, HB9, X9, HBB⟩ : ∃ W9, W7.alloc (.cells #[.slice none 0 0, .slice none 0 0, .slice none 0 0] TG10) = W9 ∧ Hid (Below W3.heap.size W3 W9) ∧ Hid (W9.heap[pb]? = some (.cells #[.slice none 0 0, .slice none 0 0, .slice none 0 0] TG10 (0, 0))) ∧ Hid (Below W7.heap.size W7 W9) :=
     ⟨_, rfl, Lib.hid (HB7.out.alloc HB7.out.size _), Lib.hid (by rw [← hpb]; exact World.alloc_heap_new W7 _), Lib.hid ((Below.refl _ _).alloc (Nat.le_refl _) _)⟩
    go_simp
    have HPB : Hid (W3.heap.size ≤ pb ∧ W7.heap.size = pb) := Lib.hid ⟨by have := HB7.out.size; omega, hpb⟩
    clear hW9 hpb
    have HB7 := HB9
    refine hK.out _ _ (HCE.out _ HB7.out) (fun hHeld => ?_)
    clear hK K
    (try simp only [Act.put, List.setIfInBounds_toArray, List.set_cons_zero, List.set_cons_succ])
    refine wpAnyH_ready (rs := [16]) (by kernel_rfl) (by simp) ?_
    refine (AllReadyH.cons (o := ⟨some 30, _, _, _, _, _⟩) rfl (fun K hK => ?_) AllReadyH.nil)
    go_simp
    go_at_call 51
    refine (KU.out _ HB7.out).mono ?_
    rintro e w8 ⟨A5, c5, B5, d5, D5, rfl, hsp, hcr, h8⟩
    have HSP := Lib.hid hsp
    have HCR := Lib.hid hcr
    have HB8 := Lib.hid h8
    have HB7 := Lib.hid (HB7.out.trans (h8.mono HB7.out.size))
    clear hsp hcr h8
    refine hK.out _ _ (HCE.out _ HB7.out) (fun hHeld => ?_)
    clear hK K
    (try simp only [Act.put, List.setIfInBounds_toArray, List.set_cons_zero, List.set_cons_succ])
    have HFF : Hid (SpR w8 A5 c5 sp ∧ CRow w8 B5 d5 en) := Lib.hid ⟨HSP.out, HCR.out⟩
    have X9 := Lib.hid ((HB8.out.block pb (Array.getElem?_eq_some_iff.1 X9.out).1).trans X9.out)
    refine wpAnyH_ready (rs := [18]) (by kernel_rfl) (by simp) ?_
    refine (AllReadyH.cons (o := ⟨none, _, _, _, _, _⟩) rfl (fun K hK => ?_) AllReadyH.nil)
    obtain ⟨g0, g1, g2, f0, f1, f2⟩ := got_cells X9.out
    go_simp
    clear g0 g1 g2 f0 f1 f2
    have HF := Lib.hid (three_fin HPB.out.1 HB7.out X9.out HFF.out.1 HFF.out.2 (D5 := D5))
    refine hK.out _ _ (HCE.out _ HF.out.2.2.2) (fun hHeld => ?_)
    clear hK K
    (try simp only [Act.put, List.setIfInBounds_toArray, List.set_cons_zero, List.set_cons_succ])
    refine wpAnyH_done (by kernel_rfl) ?_ _
    refine NoPanic.normal ?_
    simp only [Exit.then]
    apply_assumption
    go_meet
    exact ⟨pb, A5, c5, B5, d5, D5, rfl, HF⟩
 case rest =>
  obtain ⟨pb, A5, c5, B5, d5, D5, rfl, HX⟩ := hcut
  obtain ⟨w9, hw9⟩ : ∃ W, W = wc := ⟨_, rfl⟩
  subst hw9
  obtain ⟨e0, e1, -, -⟩ := HCE.out w9 HX.out.2.2.2
  obtain ⟨p0, p1, -, -, -, -⟩ := got_cells HX.out.1
  have HR9 := Lib.hid ((HX.out.2.2.2.block rb (Array.getElem?_eq_some_iff.1 HR3.out).1).trans HR3.out)
  obtain ⟨r0, r1, f0, f1⟩ := two_cells HR9.out
  obtain ⟨b6, o6, rfl, q1⟩ := HX.out.2.2.1.at_ hl E HEN.out.2
  have hel := HEN.out.1
  have hce := HX.out.2.2.1.le
  have hcm := HX.out.2.2.1.mx
  rw [hel] at p1 hce
  have HB9 := Lib.hid (HB3.out.trans (HX.out.2.2.2.mono HB3.out.size))
  have HSP := Lib.hid HX.out.2.1
  have hrB : w.heap.size ≤ rb := Nat.le_of_eq HRB.out
  have HF := Lib.hid (two_fin (x := .slice A5 sp.length c5) (y := .int .i64 E) hrB HR9.out HSP.out)
  clear HX hel hw1
  apply_assumption
  go_upto_region 5 with (fail)
  go_region
  all_goals
   go_wp2
   exact bodyPost_ret (v := .agg #[.slice A5 sp.length c5, .int .i64 E]) (results_pl rfl _ _ _ rfl HF.out.1) rfl ⟨A5, c5, rfl, HF.out.2.1.later (below_drew _), HB9.out.trans (HF.out.2.2.trans ((below_drew _).mono (by have := HB9.out.size; have := HF.out.2.2.size; omega)))⟩
abbrev TBd : TypeId := 57
theorem infoBd : (Tryz.prog.info? TBd).map (·.size) = some 2 := by kernel_rfl
theorem results_bd {fn : Func} {p : Tmp} (h : fn.results = #[.cell p TBd]) (tmps : Array Value) (w : World) (b : Nat) {x y : Value} (hp : tmps.getD p undef = .pointer (some ⟨b, 0, none⟩)) (hb : w.heap[b]? = some (.cells #[x, y] TBd (0, 0))) :
  (results fn tmps).run Tryz.prog w = .ok (.agg #[x, y]) w :=
 results_cell_row h tmps w b _ _ _ _ hp hb Tryz.underlying57 rfl infoBd
theorem bd_set {W : World} {B rb : Nat} {v0 v1 : Value} {T : TypeId} (hB : B ≤ rb) (h : W.heap[rb]? = some (.cells #[v0, v1] T (0, 0))) (x y : Value) : ((W.setCell ⟨rb, 0, none⟩ x).setCell ⟨rb, 1, none⟩ y).heap[rb]? = some (.cells #[x, y] T (0, 0)) ∧ Below B W ((W.setCell ⟨rb, 0, none⟩ x).setCell ⟨rb, 1, none⟩ y) :=
 ⟨two_set h x y, ((Below.refl B W).setCell (p := ⟨rb, 0, none⟩) hB x).setCell (p := ⟨rb, 1, none⟩) hB y⟩
theorem rbnd_any (b o cap : Nat) (l : List Ts) (k : Nat) (y : Ts) (w : World) (hR : Row w (some ⟨b, o, none⟩) cap l) (h : ScH l k y) (ht : ((sceneS l (k : Int)).map (·.k)).sum ≤ 1000000000) :
  Calls Tryz.prog 23 #[.slice (some ⟨b, o, none⟩) l.length cap, .int .i64 (k : Int)] w fun e w' => e = .returned (.agg #[.int .i64 (boundI l (k : Int)).1, .int .i64 (boundI l (k : Int)).2]) ∧ Below w.heap.size w w' := by
 obtain ⟨rb, hrb⟩ : ∃ rb, w.heap.size = rb := ⟨_, rfl⟩
 obtain ⟨W1, hW1, hR1, B1⟩ : ∃ W1, w.alloc (.cells #[.int .i64 0, .int .i64 0] TBd) = W1 ∧ W1.heap[rb]? = some (.cells #[.int .i64 0, .int .i64 0] TBd (0, 0)) ∧ Below w.heap.size w W1 := ⟨_, rfl, by rw [← hrb]; exact World.alloc_heap_new w _, (Below.refl _ _).alloc (Nat.le_refl _) _⟩
 have KC0 := rcrit_sm b o cap l k y W1 (hR.later B1) h
 have KP0 := fun V (hb : Below w.heap.size w V) => rplay_any b o cap l k y V (hR.later hb) h ht
 unfold RplP at KP0
 have KM0 := fun W A c (hF : FRow W A c (sceneS l (k : Int))) => mid_cells h hF
 obtain ⟨-, hln, hhl⟩ := h.mid
 obtain ⟨-, -, en2, en3⟩ := h.ends
 have hbd := h.bd
 have hbb := h.bound
 obtain ⟨⟨br, be⟩, hbr⟩ : ∃ p, boundI l (k : Int) = p := ⟨_, rfl⟩
 rw [hbr] at hbb ⊢
 simp only
 obtain ⟨E, hE⟩ : ∃ E, plE l (k : Int) = E := ⟨_, rfl⟩
 obtain ⟨sp, hsp⟩ : ∃ sp, (tst l (sceneS l (k : Int)) (plT l (k : Int))).sp = sp := ⟨_, rfl⟩
 rw [hE] at KP0 hbb en2 en3
 rw [hsp] at KP0
 obtain ⟨js, hjs⟩ : ∃ js, sceneS l (k : Int) = js := ⟨_, rfl⟩
 rw [hjs] at KC0 KM0 hln
 obtain ⟨hl, hhl2⟩ : ∃ hl, (headS l (k : Int)).length = hl := ⟨_, rfl⟩
 rw [hhl2] at KC0 KM0 hln hhl
 obtain ⟨S, hS⟩ : ∃ S, startS l (k : Int) = S := ⟨_, rfl⟩
 rw [hS] at KM0 hbd hbb
 obtain ⟨n, hn⟩ : ∃ n, js.length = n := ⟨_, rfl⟩
 rw [hn] at KC0 hln
 have HR1 := Lib.hid hR1
 have HB1 := Lib.hid B1
 have KC := Lib.hid KC0
 have KP := Lib.hid KP0
 have KM := Lib.hid KM0
 have HBB := Lib.hid hbb
 have hle := hR.le
 have hmx := hR.mx
 have HRB := Lib.hid hrb
 clear hR hR1 B1 ht h KC0 KM0 KP0 hE hsp hjs hhl2 hS hn hbb hbr
 go_enter Tryz.func23, Tryz.ntmps23
 go_upto_region 1 with (fail)
 clear hW1 hrb
 go_upto_region 2 with (go_at_call 50; (with_reducible refine KC.out.mono ?_); rintro e w2 ⟨b1, o1, c2, rfl, hF, h2⟩; have HF2 := Lib.hid hF; have H2 := Lib.hid h2; clear hF h2)
 clear KC
 obtain ⟨gb, hgb⟩ : ∃ gb, w2.heap.size = gb := ⟨_, rfl⟩
 obtain ⟨W3, hW3, HG3, HB32⟩ : ∃ W3, w2.alloc (.cells #[.slice (some ⟨b1, o1, none⟩) n c2, .int .i64 (hl : Int), .int .i64 0] TGo15) = W3 ∧ Hid (W3.heap[gb]? = some (.cells #[.slice (some ⟨b1, o1, none⟩) n c2, .int .i64 (hl : Int), .int .i64 0] TGo15 (0, 0))) ∧ Hid (Below w2.heap.size w2 W3) := ⟨_, rfl, Lib.hid (by rw [← hgb]; exact World.alloc_heap_new w2 _), Lib.hid ((Below.refl _ _).alloc (Nat.le_refl _) _)⟩
 rw [hgb, hW3]
 clear hW3 hgb
 have HF3 := Lib.hid (HF2.out.later HB32.out)
 have HB3 := Lib.hid ((HB1.out.trans (H2.out.mono HB1.out.size)).trans (HB32.out.mono (HB1.out.trans (H2.out.mono HB1.out.size)).size))
 have HR3 := Lib.hid (((HB32.out.block rb (by have := H2.out.size; have := (Array.getElem?_eq_some_iff.1 HR1.out).1; omega)).trans (H2.out.block rb (Array.getElem?_eq_some_iff.1 HR1.out).1)).trans HR1.out)
 clear HF2 HB32 H2 HR1 HB1
 obtain ⟨b1', o1', m2, m3, m4⟩ := KM.out _ _ _ HF3.out
 cases m2
 have HM4 := Lib.hid m4
 clear m3 m4
 obtain ⟨d0, d1, d2, -, -, -⟩ := got_cells HG3.out
 go_upto_region 5 with (go_at_call 25; (with_reducible refine (KP.out _ HB3.out).mono ?_); rintro e w4 ⟨A5, c5, rfl, hsr, h4⟩; have H4 := Lib.hid h4; clear h4 hsr)
 clear d0 d1 d2
 obtain ⟨pb, hpb⟩ : ∃ pb, w4.heap.size = pb := ⟨_, rfl⟩
 obtain ⟨W5, hW5, HP5, HB45⟩ : ∃ W5, w4.alloc (.cells #[.slice A5 sp.length c5, .int .i64 E] TPl) = W5 ∧ Hid (W5.heap[pb]? = some (.cells #[.slice A5 sp.length c5, .int .i64 E] TPl (0, 0))) ∧ Hid (Below w4.heap.size w4 W5) := ⟨_, rfl, Lib.hid (by rw [← hpb]; exact World.alloc_heap_new w4 _), Lib.hid ((Below.refl _ _).alloc (Nat.le_refl _) _)⟩
 rw [hpb, hW5]
 clear hW5 hpb
 have HB35 := Lib.hid (H4.out.trans (HB45.out.mono H4.out.size))
 obtain ⟨p0, p1, -, -⟩ := two_cells HP5.out
 have hG5 := (HB35.out.block gb (Array.getElem?_eq_some_iff.1 HG3.out).1).trans HG3.out
 obtain ⟨d0, d1, d2, -, -, -⟩ := got_cells hG5
 have m4 := cells_below HB35.out _ _ _ HM4.out
 have HR5 := Lib.hid ((HB35.out.block rb (Array.getElem?_eq_some_iff.1 HR3.out).1).trans HR3.out)
 obtain ⟨r0, r1, f0, f1⟩ := two_cells HR5.out
 have HB5 := Lib.hid (HB3.out.trans (HB35.out.mono HB3.out.size))
 have hrB : w.heap.size ≤ rb := Nat.le_of_eq HRB.out
 have j0 : (0 : Int) ≤ (hl : Int) := by omega
 have j1 : (hl : Int) < (n : Int) := by omega
 clear hG5
 rcases HBB.out with ⟨hE0, hbr⟩ | ⟨hE0, hbr⟩
 ·obtain ⟨rfl, rfl⟩ : br = E - (S - y.j) ∧ be = 0 := by simpa using hbr
  have u1 : decide (E < 0) = false := decide_eq_false (by omega)
  have hw1 : IntKind.i64.wrap (E - (S - y.j)) = E - (S - y.j) := by rw [IntKind.wrap_i64]; omega
  have HF := Lib.hid (bd_set hrB HR5.out (.int .i64 (E - (S - y.j))) (.int .i64 0))
  clear hbr hE0 en2 en3 hbd
  go_upto_region 7 with (fail)
  go_region
  all_goals
   go_wp2
   exact bodyPost_ret (v := .agg #[.int .i64 (E - (S - y.j)), .int .i64 0]) (results_bd rfl _ _ _ rfl HF.out.1) rfl ⟨rfl, HB5.out.trans (HF.out.2.trans ((below_drew _).mono (by have := HB5.out.size; have := HF.out.2.size; omega)))⟩
 ·obtain ⟨rfl, rfl⟩ : br = 0 ∧ be = 16 := by simpa using hbr
  have u1 : decide (E < 0) = true := decide_eq_true (by omega)
  have HF := Lib.hid (bd_set hrB HR5.out (.int .i64 0) (.int .i64 16))
  clear hbr hE0 en2 en3 hbd
  go_wp2
  exact bodyPost_ret (v := .agg #[.int .i64 0, .int .i64 16]) (results_bd rfl _ _ _ rfl HF.out.1) rfl ⟨rfl, HB5.out.trans HF.out.2⟩
end
section
open Go.RowKit
theorem rplay_not (A : Option Addr) (cap : Nat) (l : List Ts) (i : Int) (w : World) (hR : Row w A cap l) (hi : in64 i) (hb : isB l i = false) :
  Calls Tryz.prog 25 #[.slice A l.length cap, .int .i64 i] w fun e w' => e = .returned (.agg #[.slice none 0 0, .int .i64 (-1)]) ∧ Below w.heap.size w w' := by
 obtain ⟨W1, hW1, hR1, B1⟩ : ∃ W1, w.alloc (.cells #[.slice none 0 0, .int .i64 0] TPl) = W1 ∧ W1.heap[w.heap.size]? = some (.cells #[.slice none 0 0, .int .i64 0] TPl (0, 0)) ∧ Below w.heap.size w W1 := ⟨_, rfl, World.alloc_heap_new w _, (Below.refl _ _).alloc (Nat.le_refl _) _⟩
 have K := Lib.hid (rcrit_not A cap l i W1 (hR.later B1) hi hb)
 have HR1 := Lib.hid hR1
 have HB1 := Lib.hid B1
 clear hR hR1 B1 hb
 go_enter Tryz.func25, Tryz.ntmps25
 go_upto_region 1 with (fail)
 clear hW1
 go_upto_region 2 with (go_at_call 50; (with_reducible refine K.out.mono ?_); rintro e w2 ⟨rfl, h2⟩; have H2 := Lib.hid h2; clear h2)
 obtain ⟨W3, hW3, HG3, HB32⟩ : ∃ W3, w2.alloc (.cells #[.slice none 0 0, .int .i64 0, .int .i64 1] TGo15) = W3 ∧ Hid (W3.heap[w2.heap.size]? = some (.cells #[.slice none 0 0, .int .i64 0, .int .i64 1] TGo15 (0, 0))) ∧ Hid (Below w2.heap.size w2 W3) := ⟨_, rfl, Lib.hid (World.alloc_heap_new w2 _), Lib.hid ((Below.refl _ _).alloc (Nat.le_refl _) _)⟩
 rw [hW3]
 clear hW3
 obtain ⟨d0, d1, d2, -, -, -⟩ := got_cells HG3.out
 have HR3 := Lib.hid (((HB32.out.block w.heap.size (by have := H2.out.size; have := (Array.getElem?_eq_some_iff.1 HR1.out).1; omega)).trans (H2.out.block w.heap.size (Array.getElem?_eq_some_iff.1 HR1.out).1)).trans HR1.out)
 obtain ⟨r0, r1, f0, f1⟩ := two_cells HR3.out
 have HB3 := Lib.hid ((HB1.out.trans (H2.out.mono HB1.out.size)).trans (HB32.out.mono (HB1.out.trans (H2.out.mono HB1.out.size)).size))
 have HF := Lib.hid (bd_set (Nat.le_refl w.heap.size) HR3.out (.slice none 0 0) (.int .i64 (-1)))
 go_wp2
 exact bodyPost_ret (v := .agg #[.slice none 0 0, .int .i64 (-1)]) (results_pl rfl _ _ _ rfl HF.out.1) rfl ⟨rfl, HB3.out.trans HF.out.2⟩
theorem rbnd_not (A : Option Addr) (cap : Nat) (l : List Ts) (i : Int) (w : World) (hR : Row w A cap l) (hi : in64 i) (hb : isB l i = false) :
  Calls Tryz.prog 23 #[.slice A l.length cap, .int .i64 i] w fun e w' => e = .returned (.agg #[.int .i64 0, .int .i64 1]) ∧ Below w.heap.size w w' := by
 obtain ⟨W1, hW1, hR1, B1⟩ : ∃ W1, w.alloc (.cells #[.int .i64 0, .int .i64 0] TBd) = W1 ∧ W1.heap[w.heap.size]? = some (.cells #[.int .i64 0, .int .i64 0] TBd (0, 0)) ∧ Below w.heap.size w W1 := ⟨_, rfl, World.alloc_heap_new w _, (Below.refl _ _).alloc (Nat.le_refl _) _⟩
 have K := Lib.hid (rcrit_not A cap l i W1 (hR.later B1) hi hb)
 have HR1 := Lib.hid hR1
 have HB1 := Lib.hid B1
 clear hR hR1 B1 hb
 go_enter Tryz.func23, Tryz.ntmps23
 go_upto_region 1 with (fail)
 clear hW1
 go_upto_region 2 with (go_at_call 50; (with_reducible refine K.out.mono ?_); rintro e w2 ⟨rfl, h2⟩; have H2 := Lib.hid h2; clear h2)
 obtain ⟨W3, hW3, HG3, HB32⟩ : ∃ W3, w2.alloc (.cells #[.slice none 0 0, .int .i64 0, .int .i64 1] TGo15) = W3 ∧ Hid (W3.heap[w2.heap.size]? = some (.cells #[.slice none 0 0, .int .i64 0, .int .i64 1] TGo15 (0, 0))) ∧ Hid (Below w2.heap.size w2 W3) := ⟨_, rfl, Lib.hid (World.alloc_heap_new w2 _), Lib.hid ((Below.refl _ _).alloc (Nat.le_refl _) _)⟩
 rw [hW3]
 clear hW3
 obtain ⟨d0, d1, d2, -, -, -⟩ := got_cells HG3.out
 have HR3 := Lib.hid (((HB32.out.block w.heap.size (by have := H2.out.size; have := (Array.getElem?_eq_some_iff.1 HR1.out).1; omega)).trans (H2.out.block w.heap.size (Array.getElem?_eq_some_iff.1 HR1.out).1)).trans HR1.out)
 obtain ⟨r0, r1, f0, f1⟩ := two_cells HR3.out
 have HB3 := Lib.hid ((HB1.out.trans (H2.out.mono HB1.out.size)).trans (HB32.out.mono (HB1.out.trans (H2.out.mono HB1.out.size)).size))
 have HF := Lib.hid (bd_set (Nat.le_refl w.heap.size) HR3.out (.int .i64 0) (.int .i64 1))
 go_wp2
 exact bodyPost_ret (v := .agg #[.int .i64 0, .int .i64 1]) (results_bd rfl _ _ _ rfl HF.out.1) rfl ⟨rfl, HB3.out.trans HF.out.2⟩
def plySp (l : List Ts) (i : Int) : List Spn := if isB l i then (tst l (sceneS l i) (plT l i)).sp else []
def plyE (l : List Ts) (i : Int) : Int := if isB l i then plE l i else -1
theorem rply_all (A : Option Addr) (cap : Nat) (l : List Ts) (i : Int) (w : World) (hR : Row w A cap l) (hi : in64 i) (hS : SmS l i 1000000000) :
  Calls Tryz.prog 25 #[.slice A l.length cap, .int .i64 i] w fun e w' => ∃ A5 c5, e = .returned (.agg #[.slice A5 (plySp l i).length c5, .int .i64 (plyE l i)]) ∧ SpR w' A5 c5 (plySp l i) ∧ Below w.heap.size w w' := by
 unfold plySp plyE
 cases hb : isB l i with
 | false =>
   refine (rplay_not A cap l i w hR hi hb).mono fun e w' h => ?_
   obtain ⟨rfl, h2⟩ := h
   exact ⟨none, 0, rfl, SpR.nil _ _ (by decide), h2⟩
 | true =>
   obtain ⟨k, y, rfl, hk, hy⟩ := isB_get hb
   obtain ⟨b, o, rfl⟩ := row_at hR hk
   refine (rplay_any b o cap l k y w hR (hS.sch (by omega) hb hy) (hS.tot hb)).mono fun e w' h => ?_
   exact h
theorem rbd_all (A : Option Addr) (cap : Nat) (l : List Ts) (i : Int) (w : World) (hR : Row w A cap l) (hi : in64 i) (hS : SmS l i 1000000000) :
  Calls Tryz.prog 23 #[.slice A l.length cap, .int .i64 i] w fun e w' => e = .returned (.agg #[.int .i64 (boundI l i).1, .int .i64 (boundI l i).2]) ∧ Below w.heap.size w w' := by
 cases hb : isB l i with
 | false => rw [bound_not hb]; exact rbnd_not A cap l i w hR hi hb
 | true =>
   obtain ⟨k, y, rfl, hk, hy⟩ := isB_get hb
   obtain ⟨b, o, rfl⟩ := row_at hR hk
   exact rbnd_any b o cap l k y w hR (hS.sch (by omega) hb hy) (hS.tot hb)
end
section
open Go.RowKit
def SplP (sp : List Spn) (E : Int) (w : World) (e : Ending) (w' : World) : Prop := ∃ A5 c5, e = .returned (.tuple #[.slice A5 sp.length c5, .int .i64 E, .bool (decide (0 ≤ E))]) ∧ SpR w' A5 c5 sp ∧ Below w.heap.size w w'
theorem splay_any (b o cap : Nat) (l : List Ts) (k : Nat) (y : Ts) (w : World) (hR : Row w (some ⟨b, o, none⟩) cap l) (h : ScH l k y) (hT : Tab w) :
  Calls Tryz.prog 24 #[.slice (some ⟨b, o, none⟩) l.length cap, .int .i64 (k : Int)] w (SplP (tst l (sceneS l (k : Int)) (plT l (k : Int))).sp (plE l (k : Int)) w) := by
 have KC0 := scrit_sm b o cap l k y w hR h hT
 have KP0 := fun b1 o1 c2 V (hb : Below w.heap.size w V) (hF : FRow V (some ⟨b1, o1, none⟩) c2 (sceneS l (k : Int))) => sdue_in b o cap l k y b1 o1 c2 V (hR.later hb) h hF
 unfold RunJ at KP0
 obtain ⟨-, hln, -⟩ := h.mid
 obtain ⟨en0, en1, en2, en3⟩ := h.ends
 unfold SplP
 obtain ⟨E, hE⟩ : ∃ E, plE l (k : Int) = E := ⟨_, rfl⟩
 obtain ⟨sp, hsp⟩ : ∃ sp, (tst l (sceneS l (k : Int)) (plT l (k : Int))).sp = sp := ⟨_, rfl⟩
 obtain ⟨en, hen⟩ : ∃ en, (tst l (sceneS l (k : Int)) (plT l (k : Int))).en = en := ⟨_, rfl⟩
 rw [hE] at en1 en2 en3 ⊢
 rw [hsp] at KP0 ⊢
 rw [hen] at KP0 en0 en1
 obtain ⟨js, hjs⟩ : ∃ js, sceneS l (k : Int) = js := ⟨_, rfl⟩
 rw [hjs] at KC0 KP0 en0 hln
 obtain ⟨hl, hhl2⟩ : ∃ hl, (headS l (k : Int)).length = hl := ⟨_, rfl⟩
 rw [hhl2] at KC0 KP0 en1 hln
 have KC := Lib.hid KC0
 have KP := Lib.hid KP0
 have HEN := Lib.hid (And.intro en0 en1)
 have j0 : (0 : Int) ≤ (hl : Int) := by omega
 have j1 : (hl : Int) < (js.length : Int) := by omega
 have u1 : decide (E ≥ 0) = decide (0 ≤ E) := rfl
 clear hR hT h KC0 KP0 hE hsp hen hjs hhl2 en0 en1
 go_enter Tryz.func24, Tryz.ntmps24
 go_upto_region 4 with (go_at_call 14; (with_reducible refine KC.out.mono ?_); rintro e w2 ⟨b1, o1, c2, rfl, hF, h2⟩; have K2 := Lib.hid (KP.out b1 o1 c2 w2 h2 hF); have H2 := Lib.hid h2; clear h2 hF)
 go_upto_region 5 with (go_at_call 27; (with_reducible refine K2.out.mono ?_); rintro e w3 ⟨A5, c5, B5, d5, rfl, hs, hcr, h3⟩; have HX := Lib.hid (And.intro hs hcr); have H3 := Lib.hid (H2.out.trans (h3.mono (Below.size H2.out))); clear hs hcr h3)
 obtain ⟨b6, o6, rfl, q1⟩ := HX.out.2.at_ hl E HEN.out.2
 have hel := HEN.out.1
 have hce := HX.out.2.le
 have hcm := HX.out.2.mx
 rw [hel] at hce ⊢
 clear hel
 go_quiet (fail)
 go_wp2
 exact bodyPost_ret (v := .tuple #[.slice A5 sp.length c5, .int .i64 E, .bool (decide (0 ≤ E))]) (by simp [results, Tryz.f24, go_sem]) rfl ⟨A5, c5, rfl, HX.out.1.later (below_drewN2 _ _), H3.out.trans ((below_drewN2 _ _).mono (Below.size H3.out))⟩
theorem splay_not (A : Option Addr) (cap : Nat) (l : List Ts) (i : Int) (w : World) (hR : Row w A cap l) (hi : in64 i) (hb : isB l i = false) :
  Calls Tryz.prog 24 #[.slice A l.length cap, .int .i64 i] w fun e w' => e = .returned (.tuple #[.slice none 0 0, .int .i64 (-1), .bool false]) ∧ Below w.heap.size w w' := by
 have KC := Lib.hid (scrit_not A cap l i w hR hi hb)
 clear hR hb
 go_enter Tryz.func24, Tryz.ntmps24
 go_wp2_with (go_at_call 14; (with_reducible refine KC.out.mono ?_); rintro e w2 ⟨rfl, h2⟩; have H2 := Lib.hid h2; clear h2)
 exact bodyPost_ret (v := .tuple #[.slice none 0 0, .int .i64 (-1), .bool false]) (by simp [results, Tryz.f24, go_sem]) rfl ⟨rfl, H2.out⟩
theorem sply_all (A : Option Addr) (cap : Nat) (l : List Ts) (i : Int) (w : World) (hR : Row w A cap l) (hi : in64 i) (hT : Tab w) (hS : SmS l i 1000000000000) :
  Calls Tryz.prog 24 #[.slice A l.length cap, .int .i64 i] w (SplP (plySp l i) (plyE l i) w) := by
 unfold plySp plyE
 cases hb : isB l i with
 | false =>
   refine (splay_not A cap l i w hR hi hb).mono fun e w' h => ?_
   obtain ⟨rfl, h2⟩ := h
   exact ⟨none, 0, rfl, SpR.nil _ _ (by decide), h2⟩
 | true =>
   obtain ⟨k, y, rfl, hk, hy⟩ := isB_get hb
   obtain ⟨b, o, rfl⟩ := row_at hR hk
   exact splay_any b o cap l k y w hR (hS.sch (by omega) hb hy) hT
end
section
open Go.RowKit
theorem tells_any (A : Option Addr) (cap : Nat) (l : List Ts) (i : Int) (w : World) (hR : Row w A cap l) (hi : in64 i) (hT : Tab w) (hS : SmS l i 1000000000) :
  Calls Tryz.prog 9 #[.slice A l.length cap, .int .i64 i] w fun e w' => e = .returned (.bool true) ∧ Below w.heap.size w w' := by
 have hS2 := hS.more (M' := 1000000000000) (by omega)
 have K1 := Lib.hid (fun W (h : Lt w W) => sbd_all A cap l i W (hR.later h) hi (hT.below h) hS2)
 have K2 := Lib.hid (fun W (h : Lt w W) => rbd_all A cap l i W (hR.later h) hi hS)
 have K3 := fun W (h : Lt w W) => sply_all A cap l i W (hR.later h) hi (hT.below h) hS2
 unfold SplP at K3
 have K3 := Lib.hid K3
 have K4 := Lib.hid (fun W (h : Lt w W) => rply_all A cap l i W (hR.later h) hi hS)
 have HL : Hid (Lt w w) := Lib.hid (Below.refl _ _)
 obtain ⟨⟨r, e⟩, hre⟩ : ∃ re, boundI l i = re := ⟨_, rfl⟩
 obtain ⟨E, hE⟩ : ∃ E, plyE l i = E := ⟨_, rfl⟩
 obtain ⟨sp, hsp⟩ : ∃ sp, plySp l i = sp := ⟨_, rfl⟩
 rw [hre] at K1 K2
 rw [hE, hsp] at K3 K4
 simp only at K1 K2
 generalize l.length = N at *
 clear hR hT hS hS2 hre hE hsp
 go_enter Tryz.func9, Tryz.ntmps9
 go_upto_region 2 with (go_at_call 11; (with_reducible refine (K1.out _ HL.out).mono ?_); rintro e1 w1 ⟨rfl, g⟩; have HL := Lib.hid (lt_step _ _ HL.out g); clear g)
 go_upto_region 3 with (go_at_call 23; (with_reducible refine (K2.out _ HL.out).mono ?_); rintro e1 w2 ⟨rfl, g⟩; have HL := Lib.hid (lt_step _ _ HL.out g); clear g)
 obtain ⟨V, hV, HQ, HL⟩ : ∃ V, w2.alloc (.cells #[.int .i64 r, .int .i64 e] TBd) = V ∧ Hid (V.heap[w2.heap.size]? = some (.cells #[.int .i64 r, .int .i64 e] TBd (0, 0))) ∧ Hid (Lt w V) := ⟨_, rfl, Lib.hid (World.alloc_heap_new w2 _), Lib.hid (lt_step _ _ HL.out ((Below.refl _ _).alloc (Nat.le_refl _) _))⟩
 rw [hV]
 clear hV
 obtain ⟨qb, hqb⟩ : ∃ qb, w2.heap.size = qb := ⟨_, rfl⟩
 rw [hqb] at HQ ⊢
 clear hqb
 go_upto_region 4 with (go_at_call 24; (with_reducible refine (K3.out _ HL.out).mono ?_); rintro e1 w3 ⟨A5, c5, rfl, hs, g⟩; have HS := Lib.hid hs; have HQ := Lib.hid ((g.block qb (Array.getElem?_eq_some_iff.1 HQ.out).1).trans HQ.out); have HL := Lib.hid (lt_step _ _ HL.out g); clear g hs)
 go_upto_region 5 with (go_at_call 25; (with_reducible refine (K4.out _ HL.out).mono ?_); rintro e1 w4 ⟨B5, d5, rfl, hs, g⟩; have HS2 := Lib.hid hs; have HS := Lib.hid (HS.out.later g); have HQ := Lib.hid ((g.block qb (Array.getElem?_eq_some_iff.1 HQ.out).1).trans HQ.out); have HL := Lib.hid (lt_step _ _ HL.out g); clear g hs)
 obtain ⟨V4, hV4, HP, HS, HS2, HQ, HL⟩ : ∃ V4, w4.alloc (.cells #[.slice B5 sp.length d5, .int .i64 E] TPl) = V4 ∧ Hid (V4.heap[w4.heap.size]? = some (.cells #[.slice B5 sp.length d5, .int .i64 E] TPl (0, 0))) ∧ Hid (SpR V4 A5 c5 sp) ∧ Hid (SpR V4 B5 d5 sp) ∧ Hid (V4.heap[qb]? = some (.cells #[.int .i64 r, .int .i64 e] TBd (0, 0))) ∧ Hid (Lt w V4) := by
  have hb : Below w4.heap.size w4 (w4.alloc (.cells #[.slice B5 sp.length d5, .int .i64 E] TPl)) := (Below.refl _ _).alloc (Nat.le_refl _) _
  exact ⟨_, rfl, Lib.hid (World.alloc_heap_new w4 _), Lib.hid (HS.out.later hb), Lib.hid (HS2.out.later hb), Lib.hid ((hb.block qb (Array.getElem?_eq_some_iff.1 HQ.out).1).trans HQ.out), Lib.hid (lt_step _ _ HL.out hb)⟩
 rw [hV4]
 clear hV4
 obtain ⟨pb, hpb⟩ : ∃ pb, w4.heap.size = pb := ⟨_, rfl⟩
 rw [hpb] at HP ⊢
 clear hpb
 obtain ⟨n, hn⟩ : ∃ n, sp.length = n := ⟨_, rfl⟩
 have KS := Lib.hid (fun W (h : Below V4.heap.size V4 W) => sameS_any W (HS.out.later h) (HS2.out.later h) hn)
 rw [hn] at HP ⊢
 obtain ⟨p0, -, -, -⟩ := two_cells HP.out
 go_upto_region 6 with (go_at_call 26; (with_reducible refine (KS.out _ (by first | exact Below.refl _ _ | exact below_drewN (Below.refl _ _) _ | exact below_drew _)).mono ?_); rintro e1 w5 ⟨rfl, g⟩; have HG := Lib.hid g; clear g)
 obtain ⟨p0', p1, -, -⟩ := two_cells ((HG.out.block pb (Array.getElem?_eq_some_iff.1 HP.out).1).trans HP.out)
 obtain ⟨q0, q1, -, -⟩ := two_cells ((HG.out.block qb (Array.getElem?_eq_some_iff.1 HQ.out).1).trans HQ.out)
 have g1 : (decide (0 ≤ E) == decide (E ≥ 0)) = true := by simp
 clear p0
 go_wp2
 go_ret
 exact ⟨rfl, HL.out.trans (HG.out.mono (Below.size HL.out))⟩
end
end Go.Proofs.YthfkbbiaemmndaaGreatDoor
