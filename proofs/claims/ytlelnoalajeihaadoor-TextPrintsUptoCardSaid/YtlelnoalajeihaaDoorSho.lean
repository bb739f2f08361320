/- Sets have short names. -/
import Derived.Test.YtlelnoalajeihaaDoorTBk
namespace Go.Proofs.YtlelnoalajeihaaDoor
open Go.RowKit
set_option linter.unusedVariables false

theorem sho_of {w : World} {A : Option Addr} {cap : Nat} {ts : List Ts} (hR : Row w A cap ts) (h : SFs ts) : Shorts ts := by
  intro x hx
  refine ⟨hR.wf x hx, ?_⟩
  obtain ⟨i, hi⟩ := List.getElem?_of_mem hx
  rw [(h i x hi).n, bs_size]
  simp
theorem lon_of {w : World} {A : Option Addr} {cap : Nat} {ts : List Ts} (hR : Row w A cap ts) (h : SFs ts) : Longs ts := fun x hx => by
  have := sho_of hR h x hx
  exact ⟨this.1, by omega⟩
theorem six_of {ts : List Ts} (h : Shorts ts) (hn : (ts.length : Int) ≤ 6) : (printS ts).size ≤ 1800 := by
  have := printS_size h ts.length (Nat.le_refl _)
  rw [List.take_length] at this
  omega
end Go.Proofs.YtlelnoalajeihaaDoor
