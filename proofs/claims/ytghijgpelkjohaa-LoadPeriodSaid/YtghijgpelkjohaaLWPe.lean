/- LoadPeriod: the walk. -/
import Derived.Test.YtghijgpelkjohaaLSml
import Derived.Test.YtghijgpelkjohaaLTak
import Derived.Test.YtghijgpelkjohaaLAwk
namespace Go.Proofs.Ytghijgpelkjohaa
open Go.RowKit
set_option linter.unusedVariables false
set_option linter.unusedSimpArgs false
theorem wrap_in (n : Int) : in64 (wrap64 n) := by
  unfold wrap64
  unfold in64
  omega
/-- All of them divide it. -/
def dvA (k : Int) (l : List Ts) : Bool := l.all fun x => decide (k % x.t = 0)
theorem dvA_step {k : Int} {l : List Ts} {i : Nat} {x : Ts} (hx : l[i]? = some x) : dvA k (l.take (i + 1)) = (dvA k (l.take i) && decide (k % x.t = 0)) := by
  obtain ⟨hk, e⟩ := List.getElem?_eq_some_iff.1 hx
  unfold dvA
  rw [List.take_succ_eq_append_getElem hk, List.all_append, e]
  simp
theorem dvA_all {k L : Int} {l : List Ts} (h : ∀ m, L ∣ m ↔ ∀ x ∈ l, x.t ∣ m) : dvA k l = decide (k % L = 0) := by
  have h1 := h k
  rw [Bool.eq_iff_iff, decide_eq_true_eq]
  unfold dvA
  rw [List.all_eq_true]
  constructor
  · intro ha
    exact Int.emod_eq_zero_of_dvd (h1.2 fun x hx => Int.dvd_of_emod_eq_zero (by simpa using ha x hx))
  · intro hm x hx
    have := h1.1 (Int.dvd_of_emod_eq_zero hm) x hx
    simpa using Int.emod_eq_zero_of_dvd this
set_option maxRecDepth 100000 in
set_option maxHeartbeats 8000000 in
theorem lpe_walk (A0 : Option Addr) (cap0 : Nat) (l0 : List Sp) (n : Int) (w : World) (h0 : SRow w A0 cap0 l0) (i1 : U n) :
    Calls Try.prog 7 #[.slice A0 l0.length cap0, .int .u64 n] w fun e w' => e = .returned (.bool true) ∧ Below w.heap.size w w' := by
  have KA := Lib.hid awake_any
  have KS := Lib.hid (fun W (h : Lt w W) => set_any 6 (by omega) (by omega) A0 cap0 l0 (wrap64 (Go.bits BinOp.and IntKind.u64 n 63)) W (h0.later h) (wrap_in _))
  have HL : Hid (Lt w w) := Lib.hid (Below.refl _ _)
  obtain ⟨n0, n1⟩ := i1
  generalize l0.length = m0 at *
  clear h0
  go_enter Try.func7, Try.ntmps7
  go_upto_region 3 with (first
    | (go_at_call 9; (with_reducible refine (KA.out _).mono ?_); rintro e v ⟨rfl, h⟩; have HL := Lib.hid (lt_step _ _ HL.out h); clear h)
    | (go_at_call 11; (with_reducible refine (KS.out _ HL.out).mono ?_); rintro e v ⟨A, cap, ts, rfl, hR, hn1, hn6, -, hsf, -, h⟩; have HR := Lib.hid hR; have HSF := Lib.hid hsf; have HL := Lib.hid (lt_step _ _ HL.out h); clear h hR hsf)
    | fail)
  have hle := HR.out.le
  have hmx := HR.out.mx
  have hsm := sml_of HSF.out
  have hp := period_small hsm
  obtain ⟨p1, p2, p3, p4, p5⟩ := hp
  have KP := Lib.hid (fun W (h : Row W A cap ts) => period_any A cap ts W h)
  rw [p1, p2] at KP
  have HDV := Lib.hid (fun k => dvA_all (k := k) p5)
  have HDT := Lib.hid (fun x hx => (p5 (lcmL ts)).1 (Int.dvd_refl _) x hx)
  have HSM := Lib.hid hsm
  clear p1 p2 p5 hsm
  generalize lcmL ts = p at *
  have zp : (p == 0) = false := by simp; omega
  have zpn : p ≠ 0 := by omega
  have p0 : 0 ≤ p := by omega
  have pm : p ≤ 18446744073709551615 := by omega
  generalize hN : ts.length = N at *
  have HN := Lib.hid hN
  clear hN p4
  go_upto_region 4 with (go_at_call 19; (with_reducible refine (KP.out _ HR.out).mono ?_); rintro e v2 ⟨rfl, h2⟩; have HR2 := Lib.hid (HR.out.later h2); have HL2 := Lib.hid (lt_step _ _ HL.out h2); clear h2)
  have hk0 : 0 ≤ n % 1000 := by omega
  have hk1 : n % 1000 < 1000 := by omega
  go_upto_region 8 with (fail)
  generalize n % 1000 = k at *
  go_wp2
  go_loopw [10, 11] (fun al i wr => ∃ (j : Nat) (a : Bool), j ≤ N ∧ i = .int .i64 j ∧ al = .bool a ∧ Hid (a = dvA k (ts.take j)) ∧ Hid (Below v2.heap.size v2 wr)) (fun _ i _ => N - (intOf i).toNat)
  case atStart => exact ⟨0, true, Nat.zero_le _, rfl, rfl, Lib.hid rfl, Lib.hid (Below.refl _ _)⟩
  case round =>
    obtain ⟨j, a, hj, rfl, rfl, HA, HB⟩ := hrel
    by_cases hlt : j < N
    · obtain ⟨b', o, x, rfl, hx, hxw, hbl, hT⟩ := HR2.out.get (k := j) (by rw [HN.out]; exact hlt)
      have hTr := hT.later HB.out
      have c2 := hTr.c2
      have hs := HSM.out x (List.mem_of_getElem? hx)
      have hdv := Int.emod_eq_zero_of_dvd (HDT.out x (List.mem_of_getElem? hx))
      have HST := Lib.hid (dvA_step (k := k) hx)
      have hi0 : (0 : Int) ≤ (j : Int) := by omega
      have hi1 : (j : Int) < ((N : Nat) : Int) := by omega
      obtain ⟨s1, s2, s3⟩ := hs
      have t0 : 0 ≤ x.t := by omega
      have t1 : x.t ≤ 20 := s3
      have zt : (x.t == 0) = false := by simp; omega
      have ztn : x.t ≠ 0 := by omega
      have u1 : (p % x.t != 0) = false := by rw [hdv]; rfl
      have u1' : (p % x.t == 0) = true := by rw [hdv]; rfl
      clear hT hTr hx hxw hdv s1 s2 s3 hbl
      cases a
      · go_wp2
        go_roundw
        case rel => exact ⟨j + 1, false, by omega, by go_num, rfl, Lib.hid (by rw [HST.out, ← HA.out]; rfl), HB⟩
        case measure => simp [intOf]; omega
      · by_cases hq : k % x.t = 0
        · have u2 : (k % x.t == 0) = true := by rw [hq]; rfl
          have HQ := Lib.hid hq
          clear hq
          go_wp2
          go_roundw
          case rel => exact ⟨j + 1, true, by omega, by go_num, rfl, Lib.hid (by rw [HST.out, ← HA.out, decide_eq_true HQ.out]; rfl), HB⟩
          case measure => simp [intOf]; omega
        · have u2 : (k % x.t == 0) = false := by simpa using hq
          have HQ := Lib.hid hq
          clear hq
          go_wp2
          go_roundw
          case rel => exact ⟨j + 1, false, by omega, by go_num, rfl, Lib.hid (by rw [HST.out, ← HA.out, decide_eq_false HQ.out]; rfl), HB⟩
          case measure => simp [intOf]; omega
    · obtain rfl : j = N := by omega
      have ha : a = decide (k % p = 0) := by
        rw [HA.out, List.take_of_length_le (by rw [HN.out]; exact Nat.le_refl _)]
        exact HDV.out k
      clear HA
      by_cases hq : k % p = 0
      · rw [decide_eq_true hq] at ha
        subst ha
        have u2 : (k % p == 0) = true := by rw [hq]; rfl
        clear hq
        go_wp2
        go_ret
        exact ⟨rfl, Below.trans HL2.out (HB.out.mono (Below.size HL2.out))⟩
      · rw [decide_eq_false hq] at ha
        subst ha
        have u2 : (k % p == 0) = false := by simpa using hq
        clear hq
        go_wp2
        go_ret
        exact ⟨rfl, Below.trans HL2.out (HB.out.mono (Below.size HL2.out))⟩
end Go.Proofs.Ytghijgpelkjohaa
