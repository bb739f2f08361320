/- Is there a task that has none? -/
import Derived.Test.YtghijgpelkjohaaLForm
namespace Go.Proofs.Ytghijgpelkjohaa
open Go.RowKit
set_option linter.unusedVariables false
set_option linter.unusedSimpArgs false
set_option maxRecDepth 100000 in
set_option maxHeartbeats 2000000 in
theorem hasNone_any (x : Ts) (hx : TsW x) (w : World) :
    Calls Try.prog 31 #[tsV x] w fun e w' => e = .returned (.bool (noF x.c x.t)) ∧ Below w.heap.size w w' := by
  have b0 := boxT w x
  have K := Lib.hid (fun W => of_any x hx W)
  have HE := Lib.hid (noF_eq hx.c hx.t)
  generalize noF x.c x.t = b at *
  generalize ofF x.c x.t = f at *
  obtain ⟨fn, fd⟩ := f
  clear hx
  go_enter Try.func31, Try.ntmps31
  go_wp2_with (go_at_call 18; (with_reducible refine (K.out _).mono ?_); rintro e w1 ⟨rfl, hbel⟩)
  all_goals
    go_ret
    exact ⟨by rw [HE.out]; simp [*], b0.trans (hbel.mono (by simp))⟩
/-- What the place of the first one that has none is told as. -/
def IdP (b : Bool) (w : World) (e : Ending) (w' : World) : Prop := ∃ r : Int, e = .returned (.int .i64 r) ∧ decide (r ≥ 0) = b ∧ -1 ≤ r ∧ Below w.heap.size w w'
def anyNo (l : List Ts) : Bool := l.any (fun x => noF x.c x.t)
theorem anyNo_hit {l : List Ts} {k : Nat} {x : Ts} (hx : l[k]? = some x) (h : noF x.c x.t = true) : anyNo l = true := by
  unfold anyNo
  rw [List.any_eq_true]
  exact ⟨x, List.mem_of_getElem? hx, h⟩
theorem anyNo_step {l : List Ts} {k : Nat} {x : Ts} (hx : l[k]? = some x) (h : noF x.c x.t = false) (ha : anyNo (l.take k) = false) : anyNo (l.take (k + 1)) = false := by
  obtain ⟨hk, e⟩ := List.getElem?_eq_some_iff.1 hx
  unfold anyNo at ha ⊢
  rw [List.take_succ_eq_append_getElem hk, List.any_append, ha, e]
  simp [h]
set_option maxRecDepth 100000 in
set_option maxHeartbeats 4000000 in
theorem index_any (A : Option Addr) (cap : Nat) (l : List Ts) (w : World) (hR : Row w A cap l) :
    Calls Try.prog 44 #[.slice A l.length cap, .func (.func 31) #[] #[]] w (IdP (anyNo l) w) := by
  have hle := hR.le
  have hmx := hR.mx
  have ROW := Lib.hid hR
  generalize hb : anyNo l = b
  have HBB := Lib.hid hb
  clear hR hb
  generalize hN : l.length = N at *
  have HN := Lib.hid hN
  clear hN
  go_enter Try.func44, Try.ntmps44
  go_wp2
  go_loopw [8] (fun i wr => ∃ k : Nat, k ≤ N ∧ i = .int .i64 k ∧ Lt w wr ∧ Hid (anyNo (l.take k) = false)) (fun i _ => N - (intOf i).toNat)
  case atStart => exact ⟨0, Nat.zero_le _, rfl, Below.refl _ _, Lib.hid rfl⟩
  case round =>
    obtain ⟨k, hk, rfl, hL, hq⟩ := hrel
    by_cases hlt : k < N
    · obtain ⟨b', o, x, rfl, hx, hxw, hbl, hT⟩ := ROW.out.get (k := k) (by rw [HN.out]; exact hlt)
      have hTr := hT.later hL
      have c0 := hTr.c0
      have c1 := hTr.c1
      have c2 := hTr.c2
      have c3 := hTr.c3
      have c4 := hTr.c4
      have c5 := hTr.c5
      have c6 := hTr.c6
      have hi0 : (0 : Int) ≤ (k : Int) := by omega
      have hi1 : (k : Int) < ((N : Nat) : Int) := by omega
      have K := Lib.hid (fun W => hasNone_any x hxw W)
      have HX := Lib.hid hx
      have HL := Lib.hid hL
      clear hT hTr hx hL hxw
      cases hno : noF x.c x.t
      · have HNO := Lib.hid hno
        rw [hno] at K
        clear hno
        go_wp2_with (go_at_call 31; (with_reducible refine (K.out _).mono ?_); rintro e w1 ⟨rfl, hbel⟩)
        go_roundw
        case rel => exact ⟨k + 1, by omega, by go_num, Below.trans HL.out (hbel.mono (Below.size HL.out)), Lib.hid (anyNo_step HX.out HNO.out hq.out)⟩
        case measure => simp [intOf]; omega
      · have HNO := Lib.hid hno
        rw [hno] at K
        clear hno
        go_wp2_with (go_at_call 31; (with_reducible refine (K.out _).mono ?_); rintro e w1 ⟨rfl, hbel⟩)
        go_ret
        exact ⟨k, rfl, by rw [← HBB.out, anyNo_hit HX.out HNO.out]; simp, by omega, Below.trans HL.out (hbel.mono (Below.size HL.out))⟩
    · obtain rfl : k = N := by omega
      have HL := Lib.hid hL
      clear hL
      go_wp2
      go_ret
      exact ⟨-1, rfl, by rw [← HBB.out]; have := hq.out; rw [List.take_of_length_le (by rw [HN.out]; exact Nat.le_refl _)] at this; rw [this]; rfl, by omega, HL.out⟩
set_option maxRecDepth 100000 in
set_option maxHeartbeats 4000000 in
theorem contains_any (A : Option Addr) (cap : Nat) (l : List Ts) (w : World) (hR : Row w A cap l) :
    Calls Try.prog 30 #[.slice A l.length cap, .func (.func 31) #[] #[]] w fun e w' => e = .returned (.bool (anyNo l)) ∧ Below w.heap.size w w' := by
  have K := Lib.hid (index_any A cap l w hR)
  generalize anyNo l = b at *
  generalize l.length = N at *
  clear hR
  go_enter Try.func30, Try.ntmps30
  go_wp2_with (go_at_call 44; (with_reducible refine K.out.mono ?_); rintro e w1 ⟨r, rfl, hr, hr1, hbel⟩)
  go_ret
  exact ⟨by rw [← hr]; rfl, hbel⟩
end Go.Proofs.Ytghijgpelkjohaa
