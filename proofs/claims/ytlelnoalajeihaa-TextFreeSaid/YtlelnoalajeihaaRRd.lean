/- The document's reader: kind, place, text, field. -/
import Derived.Test.YtlelnoalajeihaaRd
import Derived.Test.YtlelnoalajeihaaWd
namespace Go.Proofs.Ytlelnoalajeihaa
open Go.RowKit
set_option linter.unusedVariables false
set_option linter.unusedSimpArgs false

def kAt (ts : List Tk) (i : Nat) : Nat := match ts[i]? with | some x => x.k | none => 0
def tAt (ts : List Tk) (i : Nat) : List UInt8 := match ts[i]? with | some x => x.t | none => []
def pAt (ts : List Tk) (i n : Nat) : Nat := match ts[i]? with | some x => x.at' | none => n
/-- Tokens in memory, as the walk asks for them. -/
structure Tks (w : World) (A : Option Addr) (cap : Nat) (ts : List Tk) : Prop where
  le : ts.length ≤ cap
  mx : cap ≤ 9223372036854775807
  at_ : ∀ i x, ts[i]? = some x → ∃ g, A = some ⟨g, 0, none⟩ ∧ TkAt w g (i * 4) x
theorem tks_of {w : World} {v : Value} {ts : List Tk} (h : Toks w v ts) : ∃ A cap, v = .slice A ts.length cap ∧ Tks w A cap ts ∧ ∀ g, A = some ⟨g, 0, none⟩ → g < w.heap.size := by
  rcases h with ⟨rfl, rfl⟩ | ⟨g, cap, rfl, h1, h2, h3, h4⟩
  · exact ⟨none, 0, rfl, ⟨by simp, by omega, by simp⟩, by simp⟩
  · refine ⟨_, cap, rfl, ⟨h1, by unfold maxLen at h2; exact h2, fun i x hx => ⟨g, rfl, ⟨fun j v hv => ?_⟩⟩⟩, fun g' e => by cases e; exact h3⟩
    have q := h4 i x hx
    have hj : j < 4 := by
      rcases Nat.lt_or_ge j 4 with h | h
      · exact h
      · rw [List.getElem?_eq_none (by simp [tkL]; omega)] at hv; cases hv
    rw [Nat.mul_comm i 4]
    rcases (by omega : j = 0 ∨ j = 1 ∨ j = 2 ∨ j = 3) with rfl | rfl | rfl | rfl
    · cases hv; exact q.1
    · cases hv; exact q.2.1
    · cases hv; exact q.2.2.1
    · cases hv; exact q.2.2.2
/-- Block br is the document's reader, at the i-th token. -/
structure RR (w : World) (br : Nat) (A : Option Addr) (cap : Nat) (ts : List Tk) (i n : Nat) : Prop where
  is : w.heap[br]? = some (.cells #[.slice A ts.length cap, .int .i64 (i : Int), .int .i64 (n : Int)] 64 (0, 0))
  tk : Tks w A cap ts
  ne : ∀ g, A = some ⟨g, 0, none⟩ → g ≠ br
theorem Tks.kept {X : List Nat} {w w' : World} {A : Option Addr} {cap : Nat} {ts : List Tk} (h : Tks w A cap ts) (hk : Kept X w w') (hx : ∀ g, A = some ⟨g, 0, none⟩ → g ∉ X) : Tks w' A cap ts :=
  ⟨h.le, h.mx, fun i x hi => by
    obtain ⟨g, e, ht⟩ := h.at_ i x hi
    exact ⟨g, e, ht.keep fun j => hk.cell ht.lt (hx g e)⟩⟩
theorem RR.lt {w : World} {br : Nat} {A : Option Addr} {cap : Nat} {ts : List Tk} {i n : Nat} (h : RR w br A cap ts i n) : br < w.heap.size := (Array.getElem?_eq_some_iff.1 h.is).1
theorem RR.kept {X : List Nat} {w w' : World} {br : Nat} {A : Option Addr} {cap : Nat} {ts : List Tk} {i n : Nat} (h : RR w br A cap ts i n) (hk : Kept X w w') (h1 : br ∉ X) (h2 : ∀ g, A = some ⟨g, 0, none⟩ → g ∉ X) : RR w' br A cap ts i n :=
  ⟨(hk.block br h.lt h1).trans h.is, h.tk.kept hk h2, h.ne⟩
theorem RR.later {w w' : World} {br : Nat} {A : Option Addr} {cap : Nat} {ts : List Tk} {i n : Nat} (h : RR w br A cap ts i n) (hb : Below w.heap.size w w') : RR w' br A cap ts i n := h.kept (Kept.of [] hb) (by simp) (by simp)
theorem RR.c0 {w : World} {br : Nat} {A : Option Addr} {cap : Nat} {ts : List Tk} {i n : Nat} (h : RR w br A cap ts i n) : w.cell? ⟨br, 0, none⟩ = some (.slice A ts.length cap) := by rw [cell_of_row w br 0 _ _ _ h.is]; rfl
theorem RR.c1 {w : World} {br : Nat} {A : Option Addr} {cap : Nat} {ts : List Tk} {i n : Nat} (h : RR w br A cap ts i n) : w.cell? ⟨br, 1, none⟩ = some (.int .i64 (i : Int)) := by rw [cell_of_row w br 1 _ _ _ h.is]; rfl
theorem RR.c2 {w : World} {br : Nat} {A : Option Addr} {cap : Nat} {ts : List Tk} {i n : Nat} (h : RR w br A cap ts i n) : w.cell? ⟨br, 2, none⟩ = some (.int .i64 (n : Int)) := by rw [cell_of_row w br 2 _ _ _ h.is]; rfl
theorem RR.frozen {w : World} {br : Nat} {A : Option Addr} {cap : Nat} {ts : List Tk} {i n : Nat} (h : RR w br A cap ts i n) (j : Nat) : w.frozen? ⟨br, j, none⟩ = false := frozen_of_row w br j _ _ h.is
theorem RR.step {w : World} {br : Nat} {A : Option Addr} {cap : Nat} {ts : List Tk} {i n : Nat} (h : RR w br A cap ts i n) (j : Nat) : RR (w.setCell ⟨br, 1, none⟩ (.int .i64 (j : Int))) br A cap ts j n :=
  ⟨heap_setCell_same _ br 1 _ _ _ h.is, h.tk.kept ((Kept.refl [br] w).set br 1 _ (by simp)) (fun g e => by simp; exact h.ne g e), h.ne⟩
/-- The token at which it stands. -/
theorem RR.here {w : World} {br : Nat} {A : Option Addr} {cap : Nat} {ts : List Tk} {i n : Nat} (h : RR w br A cap ts i n) (hi : i < ts.length) : ∃ g x, A = some ⟨g, 0, none⟩ ∧ ts[i]? = some x ∧ TkAt w g (i * 4) x := by
  obtain ⟨g, e, ht⟩ := h.tk.at_ i ts[i] (List.getElem?_eq_getElem hi)
  exact ⟨g, ts[i], e, List.getElem?_eq_getElem hi, ht⟩
theorem at_none {ts : List Tk} {i : Nat} (h : ¬ i < ts.length) : ts[i]? = none := List.getElem?_eq_none (by omega)

set_option maxRecDepth 100000 in
set_option maxHeartbeats 2000000 in
theorem kind_any {w : World} {br : Nat} {A : Option Addr} {cap : Nat} {ts : List Tk} {i n : Nat} (h : RR w br A cap ts i n) :
    Calls Try.prog 27 #[.pointer (some ⟨br, 0, none⟩)] w fun e w' => e = .returned (.int .i64 (kAt ts i : Int)) ∧ Below w.heap.size w w' := by
  have c0 := h.c0
  have c1 := h.c1
  have c2 := h.c2
  by_cases hi : i < ts.length
  · obtain ⟨g, x, rfl, hx, hT⟩ := h.here hi
    have d := hT.c0
    rw [(show kAt ts i = x.k by rw [kAt, hx])]
    have h1 : decide ((i : Int) ≥ (ts.length : Int)) = false := decide_eq_false (by omega)
    have h2 : decide (ts.length ≤ i) = false := decide_eq_false (by omega)
    have hi0 : (0 : Int) ≤ (i : Int) := by omega
    have hi1 : (i : Int) < (ts.length : Int) := by omega
    generalize ts.length = m at *
    clear h hT hx
    go_enter Try.func27, Try.ntmps27
    go_wp2
    go_quiet (fail)
    go_wp2
    go_quiet (fail)
    go_wp2
    go_ret
    exact ⟨rfl, below_drewN (below_drewN (Below.refl _ _) _) _⟩
  · rw [(show kAt ts i = 0 by rw [kAt, at_none hi])]
    have h1 : decide ((i : Int) ≥ (ts.length : Int)) = true := decide_eq_true (by omega)
    have h2 : decide (ts.length ≤ i) = true := decide_eq_true (by omega)
    generalize ts.length = m at *
    clear h
    go_enter Try.func27, Try.ntmps27
    go_wp2
    go_quiet (fail)
    go_wp2
    go_ret
    exact ⟨rfl, below_drewN (Below.refl _ _) _⟩
set_option maxRecDepth 100000 in
set_option maxHeartbeats 2000000 in
theorem place_any {w : World} {br : Nat} {A : Option Addr} {cap : Nat} {ts : List Tk} {i n : Nat} (h : RR w br A cap ts i n) :
    Calls Try.prog 29 #[.pointer (some ⟨br, 0, none⟩)] w fun e w' => e = .returned (.int .i64 (pAt ts i n : Int)) ∧ Below w.heap.size w w' := by
  have c0 := h.c0
  have c1 := h.c1
  have c2 := h.c2
  by_cases hi : i < ts.length
  · obtain ⟨g, x, rfl, hx, hT⟩ := h.here hi
    have d := hT.c1
    rw [(show pAt ts i n = x.at' by rw [pAt, hx])]
    have h1 : decide ((i : Int) ≥ (ts.length : Int)) = false := decide_eq_false (by omega)
    have h2 : decide (ts.length ≤ i) = false := decide_eq_false (by omega)
    have hi0 : (0 : Int) ≤ (i : Int) := by omega
    have hi1 : (i : Int) < (ts.length : Int) := by omega
    generalize ts.length = m at *
    clear h hT hx
    go_enter Try.func29, Try.ntmps29
    go_wp2
    go_quiet (fail)
    go_wp2
    go_quiet (fail)
    go_wp2
    go_ret
    exact ⟨rfl, below_drewN (below_drewN (Below.refl _ _) _) _⟩
  · rw [(show pAt ts i n = n by rw [pAt, at_none hi])]
    have h1 : decide ((i : Int) ≥ (ts.length : Int)) = true := decide_eq_true (by omega)
    have h2 : decide (ts.length ≤ i) = true := decide_eq_true (by omega)
    generalize ts.length = m at *
    clear h
    go_enter Try.func29, Try.ntmps29
    go_wp2
    go_quiet (fail)
    go_wp2
    go_ret
    exact ⟨rfl, below_drewN (Below.refl _ _) _⟩
set_option maxRecDepth 100000 in
set_option maxHeartbeats 2000000 in
theorem text_any {w : World} {br : Nat} {A : Option Addr} {cap : Nat} {ts : List Tk} {i n : Nat} (h : RR w br A cap ts i n) :
    Calls Try.prog 44 #[.pointer (some ⟨br, 0, none⟩)] w fun e w' => e = .returned (.string (bs (tAt ts i))) ∧ Below w.heap.size w w' := by
  have c0 := h.c0
  have c1 := h.c1
  have c2 := h.c2
  by_cases hi : i < ts.length
  · obtain ⟨g, x, rfl, hx, hT⟩ := h.here hi
    have d := hT.c2
    rw [(show tAt ts i = x.t by rw [tAt, hx])]
    have h1 : decide ((i : Int) ≥ (ts.length : Int)) = false := decide_eq_false (by omega)
    have h2 : decide (ts.length ≤ i) = false := decide_eq_false (by omega)
    have hi0 : (0 : Int) ≤ (i : Int) := by omega
    have hi1 : (i : Int) < (ts.length : Int) := by omega
    generalize ts.length = m at *
    clear h hT hx
    go_enter Try.func44, Try.ntmps44
    go_wp2
    go_quiet (fail)
    go_wp2
    go_quiet (fail)
    go_wp2
    go_ret
    exact ⟨rfl, below_drewN (below_drewN (Below.refl _ _) _) _⟩
  · rw [(show tAt ts i = [] by rw [tAt, at_none hi])]
    have h1 : decide ((i : Int) ≥ (ts.length : Int)) = true := decide_eq_true (by omega)
    have h2 : decide (ts.length ≤ i) = true := decide_eq_true (by omega)
    generalize ts.length = m at *
    clear h
    go_enter Try.func44, Try.ntmps44
    go_wp2
    go_quiet (fail)
    go_wp2
    go_ret
    exact ⟨rfl, below_drewN (Below.refl _ _) _⟩
end Go.Proofs.Ytlelnoalajeihaa
