/- Texts about the program, one after the other: ERs. -/
import Derived.Test.YtngmaiiibinkaaaG3
import Derived.Test.YtngmaiiibinkaaaG1
import Derived.Laws.OwnMore
/- The document's run in memory. -/
namespace Go.Proofs.Ytngmaiiibinkaaa
open Go.RowKit
set_option linter.unusedVariables false
set_option linter.unusedSimpArgs false
attribute [local go_sem ↓] Go.wp_at_zero Go.wp_at_succ
abbrev TGo : TypeId := 35
structure RfS (w0 : World) (n bg ge gd : Nat) (st : TSt) (vs : Value) (wr : World) : Prop where
  bel : Below w0.heap.size w0 wr
  box : wr.heap[bg]? = some (Obj.cells #[vs, .slice (some ⟨ge, 0, none⟩) n n, .slice (some ⟨gd, 0, none⟩) n n] TGo (0, 0))
  spn : wr.ownsRow w0.heap.size TSp 3 vs st.sp.length (spC st.sp)
  ens : wr.ownsRow w0.heap.size T64 1 (.slice (some ⟨ge, 0, none⟩) n n) n (numL st.en)
  dns : wr.ownsRow w0.heap.size T64 1 (.slice (some ⟨gd, 0, none⟩) n n) n (numL st.dn)
  ne : ge ≠ gd
  gb : w0.heap.size ≤ bg
  nb : bg ≠ w0.heap.size
  res : wr.heap[w0.heap.size]? = some (Obj.cells #[.slice none 0 0, .slice none 0 0, .slice none 0 0] TGo (0, 0))
structure RfS' (w0 : World) (n ge gd : Nat) (st : TSt) (vs : Value) (wr : World) : Prop where
  spn : wr.ownsRow w0.heap.size TSp 3 vs st.sp.length (spC st.sp)
  ens : wr.ownsRow w0.heap.size T64 1 (.slice (some ⟨ge, 0, none⟩) n n) n (numL st.en)
  bel : Below w0.heap.size w0 wr
theorem infoG10 : (Try.prog.info? TGo).map (·.size) = some 3 := by kernel_rfl
theorem results_got10 {fn : Func} {p : Tmp} (h : fn.results = #[.cell p TGo]) (tmps : Array Value) (w : World) (b : Nat) {x y z : Value} (hp : tmps.getD p undef = .pointer (some ⟨b, 0, none⟩)) (hb : w.heap[b]? = some (.cells #[x, y, z] TGo (0, 0))) :
    (results fn tmps).run Try.prog w = .ok (.agg #[x, y, z]) w :=
  results_cell_row h tmps w b _ _ _ _ hp hb Try.underlying35 rfl infoG10
section
variable {w0 wr : World} {n bg ge gd : Nat} {st : TSt} {vs : Value}
theorem RfS.cell (h : RfS w0 n bg ge gd st vs wr) (i : Nat) : wr.cell? ⟨bg, i, none⟩ = (#[vs, .slice (some ⟨ge, 0, none⟩) n n, .slice (some ⟨gd, 0, none⟩) n n] : Array Value)[i]? := cell_of_row wr bg i _ _ _ h.box
theorem RfS.c0 (h : RfS w0 n bg ge gd st vs wr) : wr.cell? ⟨bg, 0, none⟩ = some vs := h.cell 0
theorem RfS.c1 (h : RfS w0 n bg ge gd st vs wr) : wr.cell? ⟨bg, 1, none⟩ = some (.slice (some ⟨ge, 0, none⟩) n n) := h.cell 1
theorem RfS.c2 (h : RfS w0 n bg ge gd st vs wr) : wr.cell? ⟨bg, 2, none⟩ = some (.slice (some ⟨gd, 0, none⟩) n n) := h.cell 2
theorem RfS.fz (h : RfS w0 n bg ge gd st vs wr) (i : Nat) : wr.frozen? ⟨bg, i, none⟩ = false := by simp [World.frozen?, h.box]
theorem RfS.later {w' : World} (h : RfS w0 n bg ge gd st vs wr) (hb : Below wr.heap.size wr w') : RfS w0 n bg ge gd st vs w' := by
  have k : KT [] wr w' := KT.of hb
  exact ⟨h.bel.trans (hb.mono h.bel.size), k.blk _ _ _ h.box (by simp), k.row h.spn (by simp), k.row h.ens (by simp), k.row h.dns (by simp), h.ne, h.gb, h.nb, k.blk _ _ _ h.res (by simp)⟩
theorem RfS.ru (h : RfS w0 n bg ge gd st vs wr) (r : Option Nat) : RfS w0 n bg ge gd { st with ru := r } vs wr := ⟨h.bel, h.box, h.spn, h.ens, h.dns, h.ne, h.gb, h.nb, h.res⟩
theorem RfS.grow {l : List Spn} {x : Spn} {g cap : Nat} (h : RfS w0 n bg ge gd st (.slice (some ⟨g, 0, none⟩) (l.length + 1) cap) wr) (hsp : st.sp = l ++ [x]) (t : Int) :
    RfS w0 n bg ge gd { st with sp := l ++ [⟨x.j, x.f, t⟩] } (.slice (some ⟨g, 0, none⟩) (l.length + 1) cap) (wr.setCell ⟨g, l.length * 3 + 2, none⟩ (.int .i64 t)) := by
  have hs := h.spn
  rw [hsp] at hs
  obtain ⟨cs, hcs⟩ := own_ty hs (g := g) rfl
  have k : KT [TSp] wr (wr.setCell ⟨g, l.length * 3 + 2, none⟩ (.int .i64 t)) := KT.set hcs (by simp)
  have h2 : (l ++ [x]).length = l.length + 1 := by simp
  have h3 := own_set hs (g := g) rfl (i := l.length * 3 + 2) (by rw [h2]; omega) (.int .i64 t)
  rw [sp_set] at h3
  exact ⟨below_set h.bel (hs.lt g rfl).1 h.bel.size, k.blk _ _ _ h.box (by decide), by simpa using h3, k.row h.ens (by decide), k.row h.dns (by decide), h.ne, h.gb, h.nb, k.blk _ _ _ h.res (by decide)⟩
theorem RfS.more {vs2 : Value} {w1 w2 : World} {x : Spn} (h : RfS w0 n bg ge gd st vs wr) (hB : Below wr.heap.size wr w1) (hown : w2.ownsRow w0.heap.size TSp 3 vs2 (st.sp.length + 1) (spC st.sp ++ snL x)) (hg : w1.grownBy w2 vs.ownBlock) :
    (w2.cell? ⟨bg, 0, none⟩ = some vs ∧ ∀ i, w2.frozen? ⟨bg, i, none⟩ = false) ∧ RfS w0 n bg ge gd { st with sp := st.sp ++ [x] } vs2 (w2.setCell ⟨bg, 0, none⟩ vs2) := by
  have h1 := h.later hB
  have hk : Kept vs.ownBlock.toList w1 w2 := kept_grown hg (fun k hk => by simp [hk])
  have kt : KT [TGo, TSp] w1 w2 := KT.kept hk (fun k hm => by
    obtain ⟨cs, hc⟩ := own_ty h1.spn (g := k) (by simpa using hm)
    exact ⟨cs, _, hc, by simp⟩)
  have hbox2 : w2.heap[bg]? = some (Obj.cells #[vs, .slice (some ⟨ge, 0, none⟩) n n, .slice (some ⟨gd, 0, none⟩) n n] TGo (0, 0)) := by
    refine (hk.block bg (Array.getElem?_eq_some_iff.1 h1.box).1 (fun hm => ?_)).trans h1.box
    exact own_ne h1.spn h1.box (by decide) (by simpa using hm)
  have kt2 : KT [TGo, TSp] w1 (w2.setCell ⟨bg, 0, none⟩ vs2) := kt.trans (KT.set hbox2 (by simp))
  have b2 : Below w0.heap.size w0 w2 := h1.bel.trans (hk.below h1.bel.size (fun k hm => (h1.spn.lt k (by simpa using hm)).1))
  refine ⟨⟨cell_of_row w2 bg 0 _ _ _ hbox2, fun i => by simp [World.frozen?, hbox2]⟩, below_set b2 h.gb b2.size, heap_setCell_same _ _ 0 _ _ _ hbox2, ?_, kt2.row h1.ens (by decide), kt2.row h1.dns (by decide), h.ne, h.gb, h.nb, ?_⟩
  rotate_left
  · have q1 := h1.res
    rw [Below.heap_setCell _ _ _ _ (by simpa using Ne.symm h.nb)]
    exact (hk.block _ (Array.getElem?_eq_some_iff.1 q1).1 (fun hm => own_ne h1.spn q1 (by decide) (by simpa using hm))).trans q1
  have hne : ∀ g, vs2.ownBlock = some g → g ∉ [bg] := fun g hg2 => by
    rw [List.mem_singleton]
    intro e
    subst e
    exact own_ne hown hbox2 (by decide) hg2
  have := ((Kept.refl [bg] w2).set bg 0 vs2 (by simp)).row hown hne
  rw [List.length_append, spC_app]
  exact this
theorem RfS.done (h : RfS w0 n bg ge gd st vs wr) {i : Nat} (hi : i < n) (v : Int) : RfS w0 n bg ge gd { st with dn := st.dn.set i v } vs (wr.setCell ⟨gd, i, none⟩ (.int .i64 v)) := by
  obtain ⟨cs, hcs⟩ := own_ty h.dns (g := gd) rfl
  have k : KT [T64] wr (wr.setCell ⟨gd, i, none⟩ (.int .i64 v)) := KT.set hcs (by simp)
  have h3 := own_set h.dns (g := gd) rfl (i := i) (by omega) (.int .i64 v)
  have e : numL (st.dn.set i v) = (numL st.dn).set i (.int .i64 v) := by simp [numL, List.map_set]
  exact ⟨below_set h.bel (h.dns.lt gd rfl).1 h.bel.size, k.blk _ _ _ h.box (by decide), k.row h.spn (by decide), ((Kept.refl [gd] wr).set gd i _ (by simp)).row h.ens (fun g hg => by simp [Value.ownBlock] at hg; simp; intro e; exact h.ne (by rw [hg]; exact e)), by rw [e]; exact h3, h.ne, h.gb, h.nb, k.blk _ _ _ h.res (by decide)⟩
theorem RfS.ended (h : RfS w0 n bg ge gd st vs wr) {i : Nat} (hi : i < n) (v : Int) : RfS w0 n bg ge gd { st with en := st.en.set i v } vs (wr.setCell ⟨ge, i, none⟩ (.int .i64 v)) := by
  obtain ⟨cs, hcs⟩ := own_ty h.ens (g := ge) rfl
  have k : KT [T64] wr (wr.setCell ⟨ge, i, none⟩ (.int .i64 v)) := KT.set hcs (by simp)
  have h3 := own_set h.ens (g := ge) rfl (i := i) (by omega) (.int .i64 v)
  have e : numL (st.en.set i v) = (numL st.en).set i (.int .i64 v) := by simp [numL, List.map_set]
  exact ⟨below_set h.bel (h.ens.lt ge rfl).1 h.bel.size, k.blk _ _ _ h.box (by decide), k.row h.spn (by decide), by rw [e]; exact h3, ((Kept.refl [ge] wr).set ge i _ (by simp)).row h.dns (fun g hg => by simp [Value.ownBlock] at hg; simp; intro e; exact h.ne (by rw [hg]; exact e.symm)), h.ne, h.gb, h.nb, k.blk _ _ _ h.res (by decide)⟩
theorem RfS.final (h : RfS w0 n bg ge gd st vs wr) : (((wr.setCell ⟨w0.heap.size, 0, none⟩ vs).setCell ⟨w0.heap.size, 1, none⟩ (.slice (some ⟨ge, 0, none⟩) n n)).setCell ⟨w0.heap.size, 2, none⟩ (.slice (some ⟨gd, 0, none⟩) n n)).heap[w0.heap.size]? = some (Obj.cells #[vs, .slice (some ⟨ge, 0, none⟩) n n, .slice (some ⟨gd, 0, none⟩) n n] TGo (0, 0)) ∧
    RfS' w0 n ge gd st vs (((wr.setCell ⟨w0.heap.size, 0, none⟩ vs).setCell ⟨w0.heap.size, 1, none⟩ (.slice (some ⟨ge, 0, none⟩) n n)).setCell ⟨w0.heap.size, 2, none⟩ (.slice (some ⟨gd, 0, none⟩) n n)) := by
  have e1 := heap_setCell_same _ _ 0 _ _ vs h.res
  have e2 := heap_setCell_same _ _ 1 _ _ (.slice (some ⟨ge, 0, none⟩) n n) e1
  have e3 := heap_setCell_same _ _ 2 _ _ (.slice (some ⟨gd, 0, none⟩) n n) e2
  have k : KT [TGo] wr _ := ((KT.set (i := 0) (v := vs) h.res (by simp)).trans (KT.set (i := 1) (v := .slice (some ⟨ge, 0, none⟩) n n) e1 (by simp))).trans (KT.set (i := 2) (v := .slice (some ⟨gd, 0, none⟩) n n) e2 (by simp))
  have hs := h.bel.size
  have b1 := below_set (i := 0) (v := vs) h.bel (Nat.le_refl _) hs
  have b2 := below_set (i := 1) (v := .slice (some ⟨ge, 0, none⟩) n n) b1 (Nat.le_refl _) b1.size
  have b3 := below_set (i := 2) (v := .slice (some ⟨gd, 0, none⟩) n n) b2 (Nat.le_refl _) b2.size
  exact ⟨e3, k.row h.spn (by decide), k.row h.ens (by decide), b3⟩
theorem zero_own {B g n : Nat} {w : World} (h : w.heap[g]? = some (Obj.cells (madeCells (Value.cells (.int .i64 0)) n) T64 (0, 0))) (hB : B ≤ g) (hn : n ≤ 1000) : w.ownsRow B T64 1 (.slice (some ⟨g, 0, none⟩) n n) n (numL (List.replicate n 0)) := by
  refine ⟨by simp [numL], .inr ⟨g, n, _, rfl, hB, h, Nat.le_refl _, by unfold maxLen; omega, by rw [size_madeCells]; omega, ?_⟩⟩
  have e : Value.cells (.int .i64 0) = #[.int .i64 0] := rfl
  rw [e, toList_madeCells_one, Nat.mul_one, List.take_of_length_le (by simp)]
  simp [numL]
end
end Go.Proofs.Ytngmaiiibinkaaa
