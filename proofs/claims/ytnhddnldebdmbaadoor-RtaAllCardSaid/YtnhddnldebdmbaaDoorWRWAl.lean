/- RtaAll: the walk. -/
import Derived.Test.YtnhddnldebdmbaaDoorG11
namespace Go.Proofs.YtnhddnldebdmbaaDoor
open Go.RowKit
set_option linter.unusedVariables false
set_option linter.unusedSimpArgs false
set_option maxRecDepth 100000 in
set_option maxHeartbeats 8000000 in
theorem ral_walk (A0 : Option Addr) (cap0 : Nat) (l0 : List Sp) (A1 : Option Addr) (cap1 : Nat) (l1 : List Ts) (x0 : Int) (w : World) (hT : Tab w) (h0 : SRow w A0 cap0 l0) (h1 : Row w A1 cap1 l1) (i0 : in64 x0) :
    Calls Tryd.prog 4 #[.slice A0 l0.length cap0, .slice A1 l1.length cap1, .int .i64 x0] w fun e w' => e = .returned (.bool true) ∧ Below w.heap.size w w' := by
  have KA := Lib.hid awake_any
  have KS := Lib.hid (fun W (h : Lt w W) => set_any 6 (by omega) (by omega) A0 cap0 l0 x0 W (h0.later h) i0)
  have HTB := Lib.hid (fun W (h : Lt w W) => hT.below h)
  have HR1 := Lib.hid (fun W (h : Lt w W) => h1.later h)
  have HL : Hid (Lt w w) := Lib.hid (Below.refl _ _)
  have hle1 := h1.le
  have hmx1 := h1.mx
  generalize l0.length = m0 at *
  clear h0 hT h1
  go_enter Tryd.func4, Tryd.ntmps4
  go_upto_region 2 with (go_at_call 8; (with_reducible refine (KA.out _ (HTB.out _ HL.out)).mono ?_); rintro e v0 ⟨rfl, h⟩; have HL := Lib.hid (lt_step _ _ HL.out h); clear h)
  generalize hL1 : l1.length = n1 at *
  have HL1 := Lib.hid hL1
  clear hL1
  obtain ⟨pb, u1⟩ : ∃ pb, decide ((n1 : Int) > 4) = pb := ⟨_, rfl⟩
  have u1' : decide ((4 : Int) < (n1 : Int)) = pb := u1
  have HP := Lib.hid u1
  go_upto_if 11 with (fail)
  clear u1 u1'
  go_cut [1] from 9 to 13 (fun s1 wx => ∃ (A : Option Addr) (cap : Nat) (r : List Ts) (n : Nat), s1 = .slice A n cap ∧ r.length = n ∧ n ≤ 4 ∧ Hid (∀ W, Lt w W → Row W A cap r) ∧ v0 = wx)
  case first =>
    cases pb
    · have hp : n1 ≤ 4 := by have := of_decide_eq_false HP.out; omega
      go_wp2
      go_meet
      exact ⟨A1, cap1, l1, n1, rfl, HL1.out, hp, HR1, rfl⟩
    · have hp : (4 : Int) < (n1 : Int) := of_decide_eq_true HP.out
      obtain ⟨b1, o1, x, rfl, hx, hxw, hbl, hT⟩ := (HR1.out _ HL.out).get (k := 0) (by rw [HL1.out]; omega)
      have hlen : (l1.take 4).length = 4 := by rw [List.length_take, HL1.out]; omega
      clear hT hx hxw hbl
      go_wp2
      go_meet
      exact ⟨_, _, l1.take 4, 4, rfl, hlen, Nat.le_refl _, Lib.hid (fun W h => (HR1.out W h).take 4), rfl⟩
  case rest =>
    obtain ⟨Ar, cr, r, nr, rfl, hr, hr4, HRR, rfl⟩ := hcut
    have HNR := Lib.hid hr
    clear HR1 HP
    have KA2 := Lib.hid (fun Ag cg W (h : Lt w W) (hg : Row W Ag cg (r.map smT)) => lall_any Ag cg (r.map smT) W hg (HTB.out _ h) (by rw [List.length_map]; omega))
    have KA3 : Hid (∀ W (h : Lt w W), Calls Tryd.prog 13 #[.slice none 0 0] W fun e w' => e = .returned (.bool true) ∧ Below W.heap.size W w') := Lib.hid (fun W (h : Lt w W) => lall_any none 0 [] W (Row.nil _ _ (by omega)) (HTB.out _ h) (by simp))
    have KM := Lib.hid (fun W (h : Lt w W) => small_any Ar cr r W (HRR.out W h) (by omega))
    have hml : (r.map smT).length = nr := by rw [List.length_map]; exact hr
    rw [hr] at KM
    rw [hml] at KA2
    clear hr hr4 hle1 hmx1
    go_wp2_with (first
      | (go_at_call 9; (with_reducible refine (KS.out _ HL.out).mono ?_); rintro e v ⟨A, cap, ts, rfl, hR, hn1, hn6, hd, hsf, hp, h⟩; have HR := Lib.hid hR; have HV : Hid (Lt v v) := Lib.hid (Below.refl _ _); have HL := Lib.hid (lt_step _ _ HL.out h); have HTV := Lib.hid (HTB.out _ HL.out); have KA1 := Lib.hid (lall_any A cap ts v HR.out HTV.out (by omega)); clear h hR hsf hd hp)
      | (go_at_call 13; (with_reducible refine (KA1.out).mono ?_); rintro e v1 ⟨rfl, h⟩; have HL := Lib.hid (lt_step _ _ HL.out h); clear h)
      | (go_at_call 13; (with_reducible refine (KA2.out _ _ _ HL.out HSM.out).mono ?_); rintro e v1 ⟨rfl, h⟩; have HL := Lib.hid (lt_step _ _ HL.out h); clear h)
      | (go_at_call 13; (with_reducible refine (KA3.out _ HL.out).mono ?_); rintro e v1 ⟨rfl, h⟩; have HL := Lib.hid (lt_step _ _ HL.out h); clear h)
      | (go_at_call 12; (with_reducible refine (KM.out _ HL.out).mono ?_); rintro e v3 ⟨Ag, cg, rfl, hg, h⟩; have HSM := Lib.hid hg; have HL := Lib.hid (lt_step _ _ HL.out h); clear h hg)
      | fail)
    go_ret
    exact ⟨rfl, HL.out⟩
end Go.Proofs.YtnhddnldebdmbaaDoor
