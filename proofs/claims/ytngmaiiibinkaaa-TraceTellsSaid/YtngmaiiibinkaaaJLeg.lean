/- Legal: the walk. -/
import Derived.Test.YtngmaiiibinkaaaJClo
import Derived.WalkMore
namespace Go.Proofs.Ytngmaiiibinkaaa
open Go.RowKit
set_option linter.unusedVariables false
set_option linter.unusedSimpArgs false

attribute [local go_sem] run_store_func
theorem legS_bad {ts : List Ts} {js : List Fv} (h : (chkAll ts).2 ≠ 0) : legS ts js = false := by
  rw [legS, decide_eq_false (fun hh => h hh.1)]; rfl
theorem legS_many {ts : List Ts} {js : List Fv} (h : 4096 < js.length) : legS ts js = false := by
  rw [legS, decide_eq_false (fun hh => by omega)]; rfl
theorem legS_good {ts : List Ts} {js : List Fv} (h : (chkAll ts).2 = 0) (hl : js.length ≤ 4096) : legS ts js = legF ts [] js := by
  rw [legS, decide_eq_true ⟨h, hl⟩]; rfl
theorem legF_at {ts : List Ts} {js : List Fv} {k : Nat} {x : Fv} (h : legF ts [] js = legF ts (js.take k) (js.drop k)) (hx : js[k]? = some x) : legF ts [] js = (legJ ts (js.take k) x && legF ts (js.take (k + 1)) (js.drop (k + 1))) := by
  obtain ⟨hl, he⟩ := List.getElem?_eq_some_iff.1 hx
  rw [h, List.drop_eq_getElem_cons hl, he, legF, take_one hx]
end Go.Proofs.Ytngmaiiibinkaaa
