/- slices.Clone of a heap's things. -/
import Derived.Test.YtebbpgokhelmdaaKM
import Derived.Lib.SliceRun
namespace Go.Proofs.Ytebbpgokhelmdaa
open Go.RowKit Go.Shelf
set_option linter.unusedVariables false
set_option linter.unusedSimpArgs false
attribute [local go_sem ↓] Go.wp_at_zero Go.wp_at_succ
def CloneP (B n : Nat) (cs : List Value) (w : World) (e : Ending) (w' : World) : Prop := ∃ v', e = .returned v' ∧ w'.ownsRow B 76 3 v' n cs ∧ Below w.heap.size w w'
theorem own_emptyT {w : World} {base : Nat} (hb : base ≤ w.heap.size) : (w.alloc (.cells #[] 76)).ownsRow base 76 3 (.slice (some ⟨w.heap.size, 0, none⟩) 0 0) 0 [] := World.ownsRow_lit w #[] 0 hb (by unfold maxLen; omega) rfl
theorem own_cell_size {w : World} {B n : Nat} {v : Value} {xs : List Value} (h : w.ownsRow B 76 3 v n xs) : xs.length = n * 3 := h.1
set_option maxRecDepth 100000 in
set_option maxHeartbeats 4000000 in
theorem clone_any {B : Nat} {v : Value} {l : List (It × Nat)} (w : World) (h : w.ownsRow B 76 3 v l.length (thCM l)) (hl : l.length ≤ 100000) :
    Calls Try.prog 35 #[v] w (CloneP w.heap.size l.length (thCM l) w) := by
  obtain ⟨i0, hi, hz0, hz1, hz2⟩ := info_parts infoTM
  have h1 : ∀ u ∈ thCM l, u.oneCell' = true := by
    intro u hu
    obtain ⟨p, -, hp⟩ := List.mem_flatMap.1 hu
    exact th_oneM p u hp
  rcases h.2 with ⟨rfl, h0⟩ | ⟨g, cap, cur, rfl, hbg, hg, hnc, hcm, hcs, ht⟩
  · have hl0 : l = [] := List.eq_nil_of_length_eq_zero h0
    subst hl0
    have hne := fun w => Lib.run_eql_slice_nil (P := Try.prog) w 68 _ none 0 0 0 0 Try.underlying68
    clear h
    go_enter Try.func35, Try.ntmps35
    go_wp2
    go_ret
    exact ⟨_, rfl, World.ownsRow_nil _ _ _ _, Below.refl _ _⟩
  · have hc := h.cells (g := g) rfl
    have hgl := (Array.getElem?_eq_some_iff.1 hg).1
    have HC := Lib.hid (show ∀ (j : Nat) (u : Value), (thCM l)[j]? = some u → (w.alloc (.cells #[] 76)).cell? ((⟨g, 0, none⟩ : Addr).add j) = some u from fun j u hj => by
      have := hc j u hj
      rw [add_none] at this ⊢
      rw [World.cell?_alloc_lt _ _ _ (by simpa using hgl)]
      exact this)
    have HL := Lib.hid (show (thCM l).length = l.length * 3 from h.1)
    have HO := Lib.hid (own_emptyT (w := w) (Nat.le_refl _))
    have HA := Lib.hid (show Below w.heap.size w (w.alloc (.cells #[] 76)) from (Below.refl _ _).alloc (Nat.le_refl _) _)
    have H1 := Lib.hid h1
    generalize thCM l = cs at *
    generalize l.length = n at *
    have hne := fun w => Lib.run_eql_slice_nil (P := Try.prog) w 68 _ (some ⟨g, 0, none⟩) n cap 0 0 Try.underlying68
    clear h h1 hc hg hcs ht
    go_enter Try.func35, Try.ntmps35
    go_wp2_with (at_builtin; go_loud (refine wpList_append_own _ rfl _ _ 68 rfl w.heap.size 76 i0 _ 3 24 Try.underlying68 hi hz0 hz1 hz2 rfl (by decide) (.slice (some ⟨w.heap.size, 0, none⟩) 0 0) 0 [] rfl HO.out ⟨g, 0, none⟩ n cap cs rfl HL.out HC.out H1.out (by unfold maxLen; omega) (by omega) (by simp) ?_; intro v' w1 hown hgrow hnil; have hB1 : Below w.heap.size w w1 := HA.out.grown hgrow (by simp) (fun k e => by simp [Value.ownBlock] at e; omega)))
    go_ret
    exact ⟨v', rfl, by simpa using hown, hB1⟩
end Go.Proofs.Ytebbpgokhelmdaa
