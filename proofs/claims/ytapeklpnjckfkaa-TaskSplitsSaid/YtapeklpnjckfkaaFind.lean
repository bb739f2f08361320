/- Find, and the law's finds. -/
import Derived.Test.YtapeklpnjckfkaaRow
namespace Go.Proofs.Ytapeklpnjckfkaa
open Go.RowKit
set_option linter.unusedVariables false
set_option linter.unusedSimpArgs false

/-- The first place of a task of that name. -/
def fnd : List Ts → ByteArray → Option Nat
  | [], _ => none
  | x :: r, s => if x.n = s then some 0 else (fnd r s).map (· + 1)
theorem name_eq (a b : ByteArray) : (a.toList == b.toList) = decide (a = b) := by
  rw [Lib.toList_data, Lib.toList_data, Bool.eq_iff_iff]
  simp only [beq_iff_eq, decide_eq_true_eq]
  constructor
  · intro h
    apply ByteArray.ext
    exact Array.toList_inj.1 h
  · intro h; rw [h]
theorem drop_ts {l : List Ts} {k : Nat} {x : Ts} (h : l[k]? = some x) : l.drop k = x :: l.drop (k + 1) := by
  obtain ⟨hk, e⟩ := List.getElem?_eq_some_iff.1 h
  rw [List.drop_eq_getElem_cons hk, e]
theorem fnd_hit {l : List Ts} {s : ByteArray} {k : Nat} {x : Ts} (h : fnd l s = (fnd (l.drop k) s).map (· + k)) (hx : l[k]? = some x) (he : x.n = s) : fnd l s = some k := by
  rw [h, drop_ts hx, fnd, if_pos he]; simp
theorem fnd_miss {l : List Ts} {s : ByteArray} {k : Nat} {x : Ts} (h : fnd l s = (fnd (l.drop k) s).map (· + k)) (hx : l[k]? = some x) (he : x.n ≠ s) : fnd l s = (fnd (l.drop (k + 1)) s).map (· + (k + 1)) := by
  rw [h, drop_ts hx, fnd, if_neg he, Option.map_map]
  congr 1
  funext m
  simp; omega
theorem fnd_end {l : List Ts} {s : ByteArray} (h : fnd l s = (fnd (l.drop l.length) s).map (· + l.length)) : fnd l s = none := by
  rw [h, List.drop_length]; rfl
theorem fnd_self : ∀ {l : List Ts} {k : Nat} {x : Ts}, l[k]? = some x → ∃ m y, fnd l x.n = some m ∧ m ≤ k ∧ l[m]? = some y ∧ y.n = x.n
  | [], k, x, h => by simp at h
  | a :: r, k, x, h => by
    by_cases ha : a.n = x.n
    · exact ⟨0, a, by rw [fnd, if_pos ha], Nat.zero_le _, rfl, ha⟩
    · cases k with
      | zero => exact absurd (by simpa using congrArg (Option.map Ts.n) h) ha
      | succ k =>
        obtain ⟨m, y, h1, h2, h3, h4⟩ := fnd_self (l := r) (k := k) (x := x) (by simpa using h)
        exact ⟨m + 1, y, by rw [fnd, if_neg ha, h1]; rfl, by omega, by simpa using h3, h4⟩
theorem fnd_lt : ∀ {l : List Ts} {s : ByteArray} {m : Nat}, fnd l s = some m → m < l.length
  | [], s, m, h => by cases h
  | a :: r, s, m, h => by
    unfold fnd at h
    by_cases ha : a.n = s
    · rw [if_pos ha] at h; cases h; simp
    · rw [if_neg ha] at h
      cases hr : fnd r s with
      | none => rw [hr] at h; cases h
      | some k => rw [hr] at h; have := fnd_lt hr; simp at h; simp; omega

set_option maxRecDepth 100000 in
set_option maxHeartbeats 2000000 in
theorem find_any (A : Option Addr) (cap : Nat) (l : List Ts) (s : ByteArray) (w : World) (hR : Row w A cap l) :
    Calls Try.prog 41 #[.slice A l.length cap, .string s] w fun e w' => e = .returned (.tuple #[.int .i64 (((fnd l s).getD 0 : Nat) : Int), .bool (fnd l s).isSome]) ∧ Below w.heap.size w w' := by
  have hmx := hR.mx
  have hle := hR.le
  obtain ⟨r, hr⟩ : ∃ r, fnd l s = r := ⟨_, rfl⟩
  rw [hr]
  have HR := Lib.hid hr
  clear hr
  have ROW := Lib.hid hR
  clear hR
  have h0 : Hid (fnd l s = (fnd (l.drop 0) s).map (· + 0)) := Lib.hid (by simp)
  go_enter Try.func41, Try.ntmps41
  go_wp2
  go_loopw [10] (fun i wr => ∃ k : Nat, k ≤ l.length ∧ i = .int .i64 k ∧ Hid (fnd l s = (fnd (l.drop k) s).map (· + k)) ∧ Lt w wr) (fun i _ => l.length - (intOf i).toNat)
  case atStart => exact ⟨0, Nat.zero_le _, rfl, h0, Below.refl _ _⟩
  case round =>
    obtain ⟨k, hk, rfl, hq, hL⟩ := hrel
    clear h0
    by_cases hlt : k < l.length
    · obtain ⟨b, o, x, rfl, hx, hw, hbl, hT⟩ := ROW.out.get hlt
      have hTr := hT.later hL
      have c0 := hTr.c0
      have c1 := hTr.c1
      have c2 := hTr.c2
      have c3 := hTr.c3
      have c4 := hTr.c4
      have c5 := hTr.c5
      have c6 := hTr.c6
      have hi0 : (0 : Int) ≤ (k : Int) := by omega
      have hi1 : (k : Int) < (l.length : Int) := by omega
      have HX := Lib.hid hx
      have HTr := Lib.hid hTr
      have HT := Lib.hid hT
      clear hT hTr hx hw
      by_cases he : x.n = s
      · have t1 : (x.n.toList == s.toList) = true := by rw [name_eq, decide_eq_true he]
        have HF := Lib.hid (HR.out.symm.trans (fnd_hit hq.out HX.out he))
        clear he hq
        go_wp2
        go_ret2
        exact ⟨by rw [HF.out]; rfl, Below.trans hL ((Below.refl _ _).alloc (Below.size hL) _)⟩
      · have t1 : (x.n.toList == s.toList) = false := by rw [name_eq, decide_eq_false he]
        have HF := Lib.hid (fnd_miss hq.out HX.out he)
        clear he hq
        go_wp2
        go_roundw
        case rel => exact ⟨k + 1, by omega, by go_num, HF, Below.trans hL ((Below.refl _ _).alloc (Below.size hL) _)⟩
        case measure => simp [intOf]; omega
    · obtain rfl : k = l.length := by omega
      have HF := Lib.hid (HR.out.symm.trans (fnd_end hq.out))
      clear hq
      go_wp2
      go_ret2
      exact ⟨by rw [HF.out]; rfl, hL⟩
end Go.Proofs.Ytapeklpnjckfkaa
