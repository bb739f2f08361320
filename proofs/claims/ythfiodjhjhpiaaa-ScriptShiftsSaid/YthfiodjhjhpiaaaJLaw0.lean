/- Decode of any; sets by numbers may be; the chapter's example. -/
import Derived.Test.YthfiodjhjhpiaaaJDco
import Derived.Test.YthfiodjhjhpiaaaRDec
import Derived.Test.YthfiodjhjhpiaaaJSame
import Derived.Test.YthfiodjhjhpiaaaJFew
import Derived.Test.YthfiodjhjhpiaaaJRead
namespace Go.Proofs.Ythfiodjhjhpiaaa
open Go.RowKit
set_option linter.unusedVariables false
set_option linter.unusedSimpArgs false

def decR (ts : List Ts) (rs : List Fv) : List Fv := if (chkAll ts).2 = 0 then decS ts rs else []
theorem decode_any (A R : Option Addr) (cap rc : Nat) (ts : List Ts) (rs : List Fv) (w : World) (hT : Row w A cap ts) (hR : FRow w R rc rs) :
    Calls Try.prog 14 #[.slice A ts.length cap, .slice R rs.length rc] w (DecodePost (decR ts rs) w) := by
  by_cases h : (chkAll ts).2 = 0
  · rw [decR, if_pos h]; exact decode_good A R cap rc ts rs w hT hR h
  · rw [decR, if_neg h]; exact decode_bad A R cap rc ts rs w hT h
theorem rdecode_any (A R : Option Addr) (cap rc : Nat) (ts : List Ts) (rs : List Fv) (w : World) (hT : Row w A cap ts) (hR : FRow w R rc rs) :
    Calls Try.prog 15 #[.slice A ts.length cap, .slice R rs.length rc] w (DecodePost (decR ts rs) w) := by
  by_cases h : (chkAll ts).2 = 0
  · rw [decR, if_pos h]; exact rdecode_good A R cap rc ts rs w hT hR h
  · rw [decR, if_neg h]; exact rdecode_bad A R cap rc ts rs w hT h

/-! ### Sets by numbers -/
theorem word_t : ∀ i, i < 8 → wordB (bs [116, UInt8.ofNat (97 + i)]) = true := by
  intro i hi
  rw [wordB_cons (c := 116) (r := [UInt8.ofNat (97 + i)]) (by simp [bs])]
  have h : ∀ i, i < 8 → (decide ((oneT 0 116 [UInt8.ofNat (97 + i)]).k = 1) && decide ((oneT 0 116 [UInt8.ofNat (97 + i)]).t.length = 2)) = true := by decide +kernel
  have := h i hi
  rw [bs_size]
  exact this
theorem name_t_inj : ∀ i, i < 8 → ∀ j, j < 8 → bs [116, UInt8.ofNat (97 + i)] = bs [116, UInt8.ofNat (97 + j)] → i = j := by
  intro i hi j hj h
  have h2 : [116, UInt8.ofNat (97 + i)] = [116, UInt8.ofNat (97 + j)] := by
    have := congrArg (fun b : ByteArray => b.data.toList) h
    simpa [bs] using this
  have h3 : UInt8.ofNat (97 + i) = UInt8.ofNat (97 + j) := by simpa using h2
  have h4 := congrArg UInt8.toNat h3
  simp at h4
  omega
theorem sf_check {i : Nat} {x : Ts} (h : SF i x) (hi : i < 8) (h1 : 1 ≤ x.p) (h2 : x.p ≤ 8) : checkE x = 0 := by
  have hn : namedB x = true := by
    rw [namedB, h.n, word_t i hi, bs_size]
    rfl
  have hr : rangedB x = true := by
    have := h.c0; have := h.c1; have := h.d0; have := h.d1; have := h.j0; have := h.t0; have := h.t1; have := h.q0; have := h.q1
    rw [rangedB, inB_yes (by omega), inB_yes (by omega), inB_yes (by omega), inB_yes (by omega), inB_yes (by omega), inB_yes (by omega)]
    rfl
  have ho : overB x = false := by
    have := h.d0; have := h.t0; have := h.q1
    simp only [overB, decide_eq_false_iff_not]
    omega
  rw [checkE, hn, hr, ho]
  rfl
theorem chkFrom_good : ∀ (l pre : List Ts), (∀ x ∈ l, checkE x = 0) → (∀ (i j : Nat) (x y : Ts), (pre ++ l)[i]? = some x → (pre ++ l)[j]? = some y → (x.n = y.n ∨ x.p = y.p) → i = j) → (chkFrom pre l).2 = 0
  | [], pre, _, _ => rfl
  | a :: r, pre, h1, h2 => by
    have ha : (pre ++ a :: r)[pre.length]? = some a := by simp
    have hn : (nameIn pre a || prioIn pre a) = false := by
      rw [Bool.or_eq_false_iff]
      constructor
      · rw [nameIn, List.any_eq_false]
        intro y hy
        obtain ⟨i, hi, rfl⟩ := List.getElem_of_mem hy
        intro he
        have := h2 i pre.length _ a (by rw [List.getElem?_append_left hi, List.getElem?_eq_getElem hi]) ha (.inl (by simpa using he))
        omega
      · rw [prioIn, List.any_eq_false]
        intro y hy
        obtain ⟨i, hi, rfl⟩ := List.getElem_of_mem hy
        intro he
        have := h2 i pre.length _ a (by rw [List.getElem?_append_left hi, List.getElem?_eq_getElem hi]) ha (.inr (by simpa using he))
        omega
    rw [chkFrom, if_neg (by rw [h1 a (by simp)]; simp), hn]
    refine chkFrom_good r (pre ++ [a]) (fun x hx => h1 x (by simp [hx])) (fun i j x y hx hy he => h2 i j x y (by simpa using hx) (by simpa using hy) he)
theorem set_ok {ts : List Ts} (h1 : 1 ≤ ts.length) (h8 : ts.length ≤ 8) (hd : Dist ts) (hs : SFs ts) (hp : ∀ (i : Nat) (x : Ts), ts[i]? = some x → 1 ≤ x.p ∧ x.p ≤ 8) : (chkAll ts).2 = 0 := by
  rw [chkAll, if_neg (by omega)]
  refine chkFrom_good ts [] (fun x hx => ?_) (fun i j x y hx hy he => ?_)
  · obtain ⟨i, hi, rfl⟩ := List.getElem_of_mem hx
    have hg := List.getElem?_eq_getElem hi
    exact sf_check (hs i _ hg) (by omega) (hp i _ hg).1 (hp i _ hg).2
  · simp only [List.nil_append] at hx hy
    rcases he with he | he
    · have e1 := (hs i x hx).n
      have e2 := (hs j y hy).n
      have hi := (List.getElem?_eq_some_iff.1 hx).1
      have hj := (List.getElem?_eq_some_iff.1 hy).1
      rw [e1, e2] at he
      exact name_t_inj i (by omega) j (by omega) he
    · exact hd i j x y hx hy he

/-! ### The example -/
def exT : Ts := ⟨{ data := #[97] }, 3, 9, 9, 2, 2, 1⟩
def exR : Fv := ⟨0, 4, 5, 8, [1, 7]⟩
def exJ : Fv := ⟨0, 4, 6, 3, [2, 1]⟩
theorem ex_ok : (chkAll [exT]).2 = 0 := by
  have h : checkE exT = 0 := by simp [checkE, namedB, exT, word_a, ByteArray.size, rangedB, inB, overB]
  rw [chkAll, if_neg (by simp), chkFrom, if_neg (by rw [h]; simp)]
  rfl
theorem ex_dec : decR [exT] [exR] = [exJ] := by
  rw [decR, if_pos ex_ok]
  decide +kernel
end Go.Proofs.Ythfiodjhjhpiaaa
