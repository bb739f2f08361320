/- Texts about the program, one after the other: ESct, EScn, YNum. -/
import Derived.WalkKit
import Derived.ProofKit
import Derived.Handy
import Derived.Lib.Hide
import Derived.Deep.MidRow
import Derived.Deep.QuietTactic
import Derived.BigQuiet
import Derived.Deep.RegionHeld3
import Derived.Laws.Externs
import Derived.RangeFuncBox
import Derived.Deep.CutBlock
import Derived.Deep.LoopGhost
import Derived.WalkMore
import Derived.Below
import Derived.LaidMore
import Derived.Laws.AppendOwn
import Derived.Laws.CopyOwn
import Derived.IntWalk
import Derived.OwnWalk
import Derived.Deep.RegionLaw
import Derived.BigRegion
import Derived.Deep.DrawnRows
import Derived.Deep.Quiet
import Derived.Deep.RegionHeldLaw
import Derived.LoopIn
import Derived.LoopNIn
import Derived.TacticsInMore
import Derived.OwnWalkIn
import Derived.RangeFuncNested
import Derived.RangeFuncBound
import Derived.RangeFuncCalls
import Derived.RangeFuncLeaves
import Derived.RangeFuncWrites
import Derived.Shelf.Abstract
import Derived.StillTailTactics
import Derived.Lib.SliceRun
import Derived.Deep.AppendSrc
import Derived.Deep.Upon
import Derived.Deep.DeepAppendWide
import Derived.OrdersIn
import Derived.Sort.LoopGhostIn
import Derived.Laws.OwnMore
import Derived.Laws.BytesString
import Derived.RangeFuncRecord
import Derived.MapKept
import Derived.Shelf.Small.Bits
import Derived.Shelf.Small.Strs
import Derived.Shelf.Small.Wraps
import Derived.Shelf.Strconv.Itoa0
import Derived.Shelf.LaysM
import Derived.Shelf.Strconv.Clone
import Derived.Shelf.Strings.Search1
import Derived.Shelf.Bits.Mul64
import Derived.Ground.Names2Prog
import Derived.Shelf.Slices.SearchI
import Derived.ChangeOld
import Derived.OpenShut
import Derived.Maps.AppendAt
import Derived.Test.YthfkbbiaemmndaaGreatDoorRows
import Derived.Test.YthfkbbiaemmndaaGreatDoorProg
import Derived.Laws.ShiftsVarLaws
import Derived.Outline
import Derived.Laws.Bits128
import Derived.Deep.RegionWith
import Derived.Shelf.RegionOpen
import Derived.Test.YthfkbbiaemmndaaGreatDoorG4
import Derived.Test.YthfkbbiaemmndaaGreatDoorG5
import Derived.Test.YthfkbbiaemmndaaGreatDoorG6
import Derived.Test.YthfkbbiaemmndaaGreatDoorG7
import Derived.Test.YthfkbbiaemmndaaGreatDoorG9
import Derived.Test.YthfkbbiaemmndaaGreatDoorG10
import Derived.Test.YthfkbbiaemmndaaGreatDoorG11
set_option linter.unusedVariables false
set_option linter.unusedSimpArgs false
set_option maxRecDepth 100000
set_option maxHeartbeats 16000000
namespace Go.Proofs.YthfkbbiaemmndaaGreatDoor
section
structure Scn (ts : List Ts) (js : List Fv) (m S B : Nat) (hi : Nat → Int) (L : Nat) : Prop where
 lg : Lg js
 m0 : m < js.length
 rm : (jb js m).r = (S : Int)
 up : ∀ k, k < js.length → prO ts js k ≤ prO ts js m → (S : Int) ≤ (jb js k).r ∧ (jb js k).c = []
 one : ∀ k, k < js.length → prO ts js k = prO ts js m → k = m ∨ ((S + L : Nat) : Int) ≤ (jb js k).r
 low : (B = 0 ∧ ∀ k, k < js.length → prO ts js m < prO ts js k → (S : Int) ≤ (jb js k).r ∧ (jb js k).c = []) ∨ (1 ≤ S ∧ ∃ b, b < js.length ∧ prO ts js m < prO ts js b ∧ (jb js b).r = (S : Int) - 1 ∧ (jb js b).k = (B : Int) + 1 ∧ (jb js b).c = [(B : Int) + 1] ∧ ∀ k, k < js.length → prO ts js m < prO ts js k → k = b ∨ ((S : Int) ≤ (jb js k).r ∧ (jb js k).c = []))
 hw : ∀ w : Nat, 1 ≤ w → w ≤ L → rs js.length (fun k => if prO ts js k < prO ts js m ∧ (jb js k).r < ((S + w : Nat) : Int) then (jb js k).k else 0) = hi w
section
variable {ts : List Ts} {js : List Fv} {m S B L : Nat} {hi : Nat → Int}
theorem Scn.at_ (h : Scn ts js m S B hi L) : Dec js (tst ts js (S + B)) ∧ (∀ k, k < js.length → prO ts js k ≤ prO ts js m → kO (tst ts js (S + B)).dn k = 0) ∧ ∀ k, k < js.length → prO ts js m < prO ts js k → (jb js k).c = [] ∨ kO (tst ts js (S + B)).dn k = (jb js k).k := by
 have h0 : ∀ n : Nat, (∀ k, k < js.length → (n : Int) ≤ (jb js k).r) → tst ts js n = tst ts js 0 := by
  intro n hn
  by_cases hz : n = 0
  ·rw [hz]
  ·have hw : who ts js 0 = none := by
    unfold who whoS
    refine pkN_no fun i hi => ?_
    rw [← Bool.not_eq_true, rdy_iff]
    have := hn i hi
    omega
   have := run_idle (m := n) hw h.lg (fun j hj => .inr (by have := hn j hj; omega)) n (by omega) (Nat.le_refl _)
   rw [Nat.zero_add] at this
   rw [this]
   rfl
 have z0 : ∀ k, k < js.length → kO (tst ts js 0).dn k = 0 := fun k hk => kO_rep _ _ _ hk
 rcases h.low with ⟨hB, hall⟩ | ⟨hS1, b, hb, hpb, hrb, hkb, hcb, hall⟩
 ·subst hB
  have e := h0 S (fun k hk => by
   rcases Int.lt_or_le (prO ts js m) (prO ts js k) with hp | hp
   ·exact (hall k hk hp).1
   ·exact (h.up k hk hp).1)
  rw [Nat.add_zero, e]
  exact ⟨(fun i hi => by simp [tst] at hi), fun k hk _ => z0 k hk, fun k hk hp => .inl (hall k hk hp).2⟩
 ·obtain ⟨S', rfl⟩ : ∃ S', S = S' + 1 := ⟨S - 1, by omega⟩
  have hoth : ∀ k, k < js.length → k ≠ b → ((S' + 1 : Nat) : Int) ≤ (jb js k).r := fun k hk hkb => by
   rcases Int.lt_or_le (prO ts js m) (prO ts js k) with hp | hp
   ·rcases hall k hk hp with h1 | h1
    ·exact absurd h1 hkb
    ·exact h1.1
   ·exact (h.up k hk hp).1
  have e := h0 S' (fun k hk => by
   by_cases hkb : k = b
   ·subst hkb; omega
   ·have := hoth k hk hkb; omega)
  have hI := ti_all (ts := ts) h.lg S'
  have hw : who ts js S' = some b := by
   unfold who whoS
   rw [e]
   show pkN ts js (tst ts js 0).dn S' js.length = some b
   refine pkN_best ⟨hb, rdy_iff.2 ⟨by omega, by rw [z0 b hb]; omega⟩, fun k hk hr => ?_⟩
   rw [rdy_iff] at hr
   by_cases hkb : k = b
   ·subst hkb; exact .inr ⟨rfl, Nat.le_refl _⟩
   ·have := hoth k hk hkb; omega
  have hcl : cl (jb js b).c (kO (tst ts js S').dn b) = [(B : Int) + 1] := by
   rw [e, z0 b hb, hcb, cl, if_neg (by omega)]
  have hwt : wthS (jb js b).c (kO (tst ts js S').dn b) = false := by
   rw [e, z0 b hb]; exact wthS_neg _ _ (h.lg.pos b) (Int.le_refl _)
  have hrun := run_sec h.lg hw hwt hcl (B + 1) (by omega) (by omega)
  have hbd : b < (tst ts js S').dn.length := by rw [hI.ld]; exact hb
  have es : S' + 1 + B = S' + (B + 1) := by omega
  rw [es, hrun]
  refine ⟨fun i hi => ?_, fun k hk hp => ?_, fun k hk hp => ?_⟩
  ·simp only [runM, Option.some.injEq] at hi ⊢
   subst hi
   rw [kO_set _ _ hbd, if_pos rfl, hcb, e, z0 b hb]
   simp [wthS]
  ·simp only [runM]
   rw [kO_set _ _ hbd, if_neg (fun hh => by subst hh; omega), e, z0 k hk]
  ·rcases hall k hk hp with h1 | h1
   ·subst h1
    right
    simp only [runM]
    rw [kO_set _ _ hbd, if_pos rfl, e, z0 k hk, hkb]
    omega
   ·exact .inl h1.2
theorem Scn.on (h : Scn ts js m S B hi L) : ∀ d : Nat, Dec js (tst ts js (S + B + d)) ∧ ∀ k, k < js.length → prO ts js m < prO ts js k → (jb js k).c = [] ∨ kO (tst ts js (S + B + d)).dn k = (jb js k).k
 | 0 => by
   obtain ⟨h1, _, h3⟩ := h.at_
   exact ⟨h1, h3⟩
 | d + 1 => by
   obtain ⟨h1, h3⟩ := h.on d
   have hI := ti_all (ts := ts) h.lg (S + B + d)
   rw [← Nat.add_assoc, tst_succ]
   cases hw : whoS ts js (tst ts js (S + B + d)) ((S + B + d : Nat) : Int) with
   | none => rw [tstep_none hw]; exact ⟨(fun i hi => by cases hi), h3⟩
   | some i =>
     obtain ⟨g1, g2, g3⟩ := hI.who_some h.lg hw
     have hic : (jb js i).c = [] := by
      rcases Int.lt_or_le (prO ts js m) (prO ts js i) with hh | hh
      ·rcases h3 i g1 hh with h4 | h4
       ·exact h4
       ·omega
      ·exact (h.up i g1 hh).2
     have hid : i < (tst ts js (S + B + d)).dn.length := by rw [hI.ld]; exact g1
     rw [tstep_some hw]
     refine ⟨fun j hj => ?_, fun k hk hp => ?_⟩
     ·simp only [runM, Option.some.injEq] at hj
      subst hj
      rw [hic]
      rfl
     ·rcases h3 k hk hp with h4 | h4
      ·exact .inl h4
      ·right
       simp only [runM]
       rw [kO_set _ _ hid, if_neg (fun hh => by subst hh; omega)]
       exact h4
theorem Scn.who (h : Scn ts js m S B hi L) (d : Nat) {k : Nat} (hk : k < js.length) (hp : prO ts js k ≤ prO ts js m) (hr : (jb js k).r ≤ ((S + B + d : Nat) : Int)) (hd : kO (tst ts js (S + B + d)).dn k < (jb js k).k) :
  ∃ y, whoS ts js (tst ts js (S + B + d)) ((S + B + d : Nat) : Int) = some y ∧ prO ts js y ≤ prO ts js k := by
 have hI := ti_all (ts := ts) h.lg (S + B + d)
 have hrd : rdy js (tst ts js (S + B + d)).dn ((S + B + d : Nat) : Int) k = true := rdy_iff.2 ⟨hr, hd⟩
 have e := (h.on d).1.who (ts := ts) (t := ((S + B + d : Nat) : Int))
 cases hw : whoS ts js (tst ts js (S + B + d)) ((S + B + d : Nat) : Int) with
 | none => have := hI.who_none h.lg hw k hk; rw [hrd] at this; cases this
 | some y =>
   rw [e] at hw
   have := ((pkN_spec _).2 y hw).2.2 k hk hrd
   exact ⟨y, rfl, by omega⟩
theorem Scn.come (h : Scn ts js m S B hi L) {w : Nat} (h1 : 1 ≤ w) (hL : w ≤ L) : rs js.length (fun k => if prO ts js k ≤ prO ts js m then (if (jb js k).r < ((S + w : Nat) : Int) then (jb js k).k else 0) else 0) = (jb js m).k + hi w := by
 rw [← h.hw w h1 hL, Int.add_comm]
 refine rs_upd (i := m) _ h.m0 (fun k hkl hk => ?_) ?_
 ·by_cases hp : prO ts js k < prO ts js m
  ·have hp2 : prO ts js k ≤ prO ts js m := by omega
   by_cases hr : (jb js k).r < ((S + w : Nat) : Int)
   ·rw [if_pos hp2, if_pos hr, if_pos (And.intro hp hr)]
   ·have hn : ¬ (prO ts js k < prO ts js m ∧ (jb js k).r < ((S + w : Nat) : Int)) := fun hh => hr hh.2
    rw [if_pos hp2, if_neg hr, if_neg hn]
  ·have hn : ¬ (prO ts js k < prO ts js m ∧ (jb js k).r < ((S + w : Nat) : Int)) := fun hh => hp hh.1
   by_cases hp2 : prO ts js k ≤ prO ts js m
   ·have hr : ¬ (jb js k).r < ((S + w : Nat) : Int) := fun hh => by
     rcases h.one k hkl (by omega) with h3 | h3
     ·exact hk h3
     ·omega
    rw [if_pos hp2, if_neg hr, if_neg hn]
   ·rw [if_neg hp2, if_neg hn]
 ·have hn : ¬ (prO ts js m < prO ts js m ∧ (jb js m).r < ((S + w : Nat) : Int)) := fun hh => by omega
  have hr : (jb js m).r < ((S + w : Nat) : Int) := by rw [h.rm]; omega
  rw [if_pos (Int.le_refl _), if_pos hr, if_neg hn]
  omega
theorem Scn.busy (h : Scn ts js m S B hi L) {w0 : Nat} (hL : w0 ≤ L + 1) (hn : ∀ w : Nat, 1 ≤ w → w < w0 → (w : Int) < (jb js m).k + B + hi w) : ∀ d : Nat, B + d ≤ w0 → lvW ts js (prO ts js m) (tst ts js (S + B + d)).dn = d
 | 0, _ => by
   unfold lvW
   rw [rs_congr _ (g := fun _ => 0) (fun k hk => ?_), rs_nil]
   ·rfl
   ·split
    ·exact h.at_.2.1 k hk (by assumption)
    ·rfl
 | d + 1, hd => by
   have ih := h.busy hL hn d (by omega)
   have hI := ti_all (ts := ts) h.lg (S + B + d)
   obtain ⟨k, hk, hp, hr, hdk⟩ : ∃ k, k < js.length ∧ prO ts js k ≤ prO ts js m ∧ (jb js k).r ≤ ((S + B + d : Nat) : Int) ∧ kO (tst ts js (S + B + d)).dn k < (jb js k).k := by
    refine Classical.byContradiction fun hcon => ?_
    have hall : ∀ k, k < js.length → prO ts js k ≤ prO ts js m → (jb js k).r ≤ ((S + B + d : Nat) : Int) → kO (tst ts js (S + B + d)).dn k = (jb js k).k := fun k hk hp hr => by
     have := (hI.d0 k hk).2
     rcases Int.lt_or_le (kO (tst ts js (S + B + d)).dn k) (jb js k).k with h1 | h1
     ·exact absurd ⟨k, hk, hp, hr, h1⟩ hcon
     ·omega
    rcases Nat.eq_zero_or_pos (B + d) with hz | hz
    ·have h1 := hall m h.m0 (Int.le_refl _) (by rw [h.rm]; omega)
     have h2 := h.at_.2.1 m h.m0 (Int.le_refl _)
     obtain ⟨rfl, rfl⟩ : B = 0 ∧ d = 0 := by omega
     have := h.lg.k1 m h.m0
     simp only [Nat.add_zero] at h1 h2
     omega
    ·have hc := h.come (w := B + d) (by omega) (by omega)
     have hle : rs js.length (fun k => if prO ts js k ≤ prO ts js m then (if (jb js k).r < ((S + (B + d) : Nat) : Int) then (jb js k).k else 0) else 0) ≤ lvW ts js (prO ts js m) (tst ts js (S + B + d)).dn := by
      unfold lvW
      refine rs_le _ fun k hk => ?_
      split
      ·split
       ·rw [hall k hk (by assumption) (by omega)]; exact Int.le_refl _
       ·exact (hI.d0 k hk).1
      ·exact Int.le_refl _
     have := hn (B + d) (by omega) (by omega)
     rw [hc, ih] at hle
     omega
   obtain ⟨y, hw, hy⟩ := h.who d hk hp hr hdk
   obtain ⟨e1, _, _⟩ := lvW_run (p := prO ts js m) h.lg hw
   rw [if_pos (by omega), ih] at e1
   rw [← Nat.add_assoc, e1]
   omega
theorem Scn.wait (h : Scn ts js m S B hi L) {w0 : Nat} (hL : w0 ≤ L + 1) (hn : ∀ w : Nat, 1 ≤ w → w < w0 → (w : Int) < (jb js m).k + B + hi w) : ∀ w : Nat, w < w0 → kO (tst ts js (S + w)).dn m < (jb js m).k := by
 intro w hw
 have hI := ti_all (ts := ts) h.lg (S + w)
 have hk1 := h.lg.k1 m h.m0
 refine Classical.byContradiction fun hcon => ?_
 have hdm : kO (tst ts js (S + w)).dn m = (jb js m).k := by have := (hI.d0 m h.m0).2; omega
 rcases Nat.lt_or_ge w B with hwB | hwB
 ·have h1 := h.at_.2.1 m h.m0 (Int.le_refl _)
  have h2 := dn_mono (ts := ts) h.lg (S + w) m (B - w)
  rw [show S + w + (B - w) = S + B by omega, h1] at h2
  omega
 ·-- the last tick at which it ran: nobody more urgent waited
  have key : ∀ d : Nat, B + d < w0 → kO (tst ts js (S + B + d)).dn m = (jb js m).k → ∃ e : Nat, e < d ∧ (∀ k, k < js.length → prO ts js k ≤ prO ts js m → (jb js k).r < ((S + B + (e + 1) : Nat) : Int) → kO (tst ts js (S + B + (e + 1))).dn k = (jb js k).k) := by
   intro d
   induction d with
   | zero =>
     intro _ h1
     have h2 := h.at_.2.1 m h.m0 (Int.le_refl _)
     rw [Nat.add_zero] at h1
     omega
   | succ d ih =>
     intro hd h1
     have hId := ti_all (ts := ts) h.lg (S + B + d)
     by_cases h2 : kO (tst ts js (S + B + d)).dn m = (jb js m).k
     ·obtain ⟨e, he, hx⟩ := ih (by omega) h2
      exact ⟨e, by omega, hx⟩
     ·refine ⟨d, by omega, fun k hk hp hr => ?_⟩
      -- it ran at that tick
      have hrun : whoS ts js (tst ts js (S + B + d)) ((S + B + d : Nat) : Int) = some m := by
       cases hw' : whoS ts js (tst ts js (S + B + d)) ((S + B + d : Nat) : Int) with
       | none =>
         rw [← Nat.add_assoc, tst_succ, tstep_none hw'] at h1
         exact absurd h1 h2
       | some i =>
         by_cases him : i = m
         ·rw [him]
         ·rw [← Nat.add_assoc, tst_succ, tstep_some hw'] at h1
          simp only [runM] at h1
          rw [kO_set _ _ (by rw [hId.ld]; exact (hId.who_some h.lg hw').1), if_neg (fun e => him e.symm)] at h1
          exact absurd h1 h2
      by_cases hkm : k = m
      ·rw [hkm]; exact h1
      ·have hlt : prO ts js k < prO ts js m := by
        rcases Int.lt_or_le (prO ts js k) (prO ts js m) with hh | hh
        ·exact hh
        ·rcases h.one k hk (by omega) with h3 | h3
         ·exact absurd h3 hkm
         ·omega
       have hdk : kO (tst ts js (S + B + d)).dn k = (jb js k).k := by
        have h3 := (hId.d0 k hk).2
        rcases Int.lt_or_le (kO (tst ts js (S + B + d)).dn k) (jb js k).k with hh | hh
        ·exfalso
         obtain ⟨y, hy1, hy2⟩ := h.who d hk hp (by omega) hh
         rw [hrun] at hy1
         injection hy1 with hy1
         subst hy1
         omega
        ·omega
       have := (en_stay (ts := ts) h.lg hk hdk 1).1
       rw [← Nat.add_assoc]
       exact this
  obtain ⟨d, hd⟩ : ∃ d, w = B + d := ⟨w - B, by omega⟩
  subst hd
  rw [← Nat.add_assoc] at hdm
  obtain ⟨e, he, hx⟩ := key d (by omega) hdm
  have hIe := ti_all (ts := ts) h.lg (S + B + (e + 1))
  have hb := h.busy hL hn (e + 1) (by omega)
  have hc := h.come (w := B + (e + 1)) (by omega) (by omega)
  have hle : rs js.length (fun k => if prO ts js k ≤ prO ts js m then (if (jb js k).r < ((S + (B + (e + 1)) : Nat) : Int) then (jb js k).k else 0) else 0) ≤ lvW ts js (prO ts js m) (tst ts js (S + B + (e + 1))).dn := by
   unfold lvW
   refine rs_le _ fun k hk => ?_
   split
   ·split
    ·rw [hx k hk (by assumption) (by omega)]; exact Int.le_refl _
    ·exact (hIe.d0 k hk).1
   ·exact Int.le_refl _
  rw [hc, hb] at hle
  have := hn (B + (e + 1)) (by omega) (by omega)
  omega
theorem Scn.done (h : Scn ts js m S B hi L) {w0 : Nat} (h1 : 1 ≤ w0) (hL : w0 ≤ L) (hn : ∀ w : Nat, 1 ≤ w → w < w0 → (w : Int) < (jb js m).k + B + hi w) (he : (jb js m).k + B + hi w0 ≤ w0) (hB : B < w0) : kO (tst ts js (S + w0)).dn m = (jb js m).k := by
 obtain ⟨d, hd⟩ : ∃ d, w0 = B + d := ⟨w0 - B, by omega⟩
 have hb := h.busy (by omega) hn d (by omega)
 have hI := ti_all (ts := ts) h.lg (S + B + d)
 have hc := h.come h1 hL
 have es : S + w0 = S + B + d := by omega
 rw [es] at hc ⊢
 refine Classical.byContradiction fun hcon => ?_
 have hlt : lvW ts js (prO ts js m) (tst ts js (S + B + d)).dn < rs js.length (fun k => if prO ts js k ≤ prO ts js m then (if (jb js k).r < ((S + B + d : Nat) : Int) then (jb js k).k else 0) else 0) := by
  unfold lvW
  refine rs_lt _ (fun k hk => ?_) ⟨m, h.m0, ?_⟩
  ·split
   ·split
    ·exact (hI.d0 k hk).2
    ·rcases Int.lt_or_le 0 (kO (tst ts js (S + B + d)).dn k) with hh | hh
     ·have := hI.dr k hk hh; omega
     ·exact hh
   ·exact Int.le_refl _
  ·rw [if_pos (Int.le_refl _), if_pos (Int.le_refl _), if_pos (by rw [h.rm]; omega)]
   have := (hI.d0 m h.m0).2
   omega
 rw [hb, hc] at hlt
 omega
end
end
section
theorem rs_jobs (F : Fv → Int) : ∀ js : List Fv, rs js.length (fun k => F (jb js k)) = (js.map F).sum := by
 refine snoc_ind rfl fun js x ih => ?_
 rw [List.length_append, List.length_singleton, rs_succ, List.map_append, List.sum_append, ← ih]
 rw [rs_congr js.length (g := fun k => F (jb js k)) (fun k hk => by
  rw [jb_get (x := js[k]) (by rw [List.getElem?_append_left hk, List.getElem?_eq_getElem hk]), jb_get (List.getElem?_eq_getElem hk)]), jb_get (x := x) (by simp)]
 simp
theorem sum_flat {α : Type} (F : Fv → Int) (f : α → List Fv) : ∀ l : List α, ((l.flatMap f).map F).sum = (l.map fun a => ((f a).map F).sum).sum
 | [] => rfl
 | a :: l => by rw [List.flatMap_cons, List.map_append, List.sum_append, List.map_cons, List.sum_cons, sum_flat F f l]
theorem ceil_bd {a t : Int} (ht : 1 ≤ t) (ha : 1 ≤ a) : 1 ≤ ceilI a t ∧ (ceilI a t - 1) * t < a ∧ a ≤ ceilI a t * t := by
 unfold ceilI
 have h1 := Int.mul_ediv_add_emod (a + t - 1) t
 have h2 := Int.emod_nonneg (a + t - 1) (show t ≠ 0 by omega)
 have h3 := Int.emod_lt_of_pos (a + t - 1) (show 0 < t by omega)
 have h4 : 1 ≤ (a + t - 1) / t := by rw [Int.le_ediv_iff_mul_le (by omega)]; omega
 have e : t * ((a + t - 1) / t) = (a + t - 1) / t * t := Int.mul_comm _ _
 refine ⟨h4, ?_, ?_⟩
 ·rw [Int.sub_mul]; omega
 ·omega
theorem ceil_mono {a b t : Int} (ht : 1 ≤ t) (h : a ≤ b) : ceilI a t ≤ ceilI b t := by
 unfold ceilI
 exact Int.ediv_le_ediv (by omega) (by omega)
theorem count_below (T a c : Int) (hT : 1 ≤ T) (ha : 1 ≤ a) : ∀ N : Nat, ceilI a T ≤ N → ((List.range N).map fun n : Nat => if (n : Int) * T < a then c else 0).sum = ceilI a T * c := by
 have hb := ceil_bd hT ha
 have key : ∀ N : Nat, ((List.range N).map fun n : Nat => if (n : Int) * T < a then c else 0).sum = min (N : Int) (ceilI a T) * c := by
  intro N
  induction N with
  | zero => rw [Int.min_eq_left (by simp; omega)]; simp
  | succ N ih =>
    rw [List.range_succ, List.map_append, List.sum_append, ih]
    simp only [List.map_cons, List.map_nil, List.sum_cons, List.sum_nil, Int.add_zero]
    by_cases h : (N : Int) < ceilI a T
    ·have h1 : (N : Int) * T ≤ (ceilI a T - 1) * T := Int.mul_le_mul_of_nonneg_right (by omega) (by omega)
     rw [if_pos (by omega), Int.min_eq_left (by omega), Int.min_eq_left (by omega)]
     rw [show ((N + 1 : Nat) : Int) = (N : Int) + 1 by omega, Int.add_mul]
     omega
    ·have h1 : ceilI a T * T ≤ (N : Int) * T := Int.mul_le_mul_of_nonneg_right (by omega) (by omega)
     rw [if_neg (by omega), Int.min_eq_right (by omega), Int.min_eq_right (by omega)]
     omega
 intro N hN
 rw [key, Int.min_eq_right hN]
theorem tsRange {ts : List Ts} (hc : (chkAll ts).2 = 0) {x : Ts} (hx : x ∈ ts) : x.d ≤ 2147483647 := by
 have h : checkE x = 0 := by
  rw [chkAll] at hc
  split at hc
  ·cases hc
  ·exact chkFrom_ok ts [] hc x hx
 have hr : rangedB x = true := by
  by_cases h1 : (namedB x && rangedB x) = true
  ·simp only [Bool.and_eq_true] at h1; exact h1.2
  ·rw [checkE, if_neg h1] at h; omega
 obtain ⟨_, _, ⟨_, d2⟩, _⟩ := rangedB_parts hr
 exact d2
def hpB (ts : List Ts) (i : Int) (k : Nat) : Bool := decide ((tk ts (k : Int)).p < (tk ts i).p)
def startS (ts : List Ts) (i : Int) : Int := 1 + ((List.range ts.length).filter (hpB ts i)).foldl (fun (m : Int) (k : Nat) => max m (tk ts (k : Int)).j) (tk ts i).j
def blk1 (ts : List Ts) (i : Int) (best : Option Nat) (k : Nat) : Option Nat :=
 if (decide ((tk ts i).p < (tk ts (k : Int)).p) && decide (1 < (tk ts (k : Int)).q)) && (match best with | none => true | some b => decide ((tk ts (b : Int)).q < (tk ts (k : Int)).q)) then some k else best
def blockerS (ts : List Ts) (i : Int) : Option Nat := (List.range ts.length).foldl (blk1 ts i) none
def perJ (ts : List Ts) (S : Int) (k : Nat) (n : Nat) : Fv :=
 if n = 0 then ⟨k, S - (tk ts (k : Int)).j, S, (tk ts (k : Int)).c, []⟩ else ⟨k, S - (tk ts (k : Int)).j + n * (tk ts (k : Int)).t, S - (tk ts (k : Int)).j + n * (tk ts (k : Int)).t, (tk ts (k : Int)).c, []⟩
def perN (ts : List Ts) (i : Int) (k : Nat) : Nat := (ceilI ((tk ts i).d - (tk ts i).j + (tk ts (k : Int)).j) (tk ts (k : Int)).t).toNat
def perL (ts : List Ts) (i : Int) (k : Nat) : List Fv := (List.range (perN ts i k)).map (perJ ts (startS ts i) k)
def headS (ts : List Ts) (i : Int) : List Fv := match blockerS ts i with | none => [] | some b => [⟨b, startS ts i - 1, startS ts i - 1, (tk ts (b : Int)).q, [(tk ts (b : Int)).q]⟩]
def sceneS (ts : List Ts) (i : Int) : List Fv :=
 headS ts i ++ [⟨i, startS ts i - (tk ts i).j, startS ts i, (tk ts i).c, []⟩] ++ ((List.range ts.length).filter (hpB ts i)).flatMap (perL ts i)
section
variable {ts : List Ts} {i : Int}
theorem fold_j : ∀ (l : List Nat) (a : Int), a ≤ l.foldl (fun (m : Int) (k : Nat) => max m (tk ts (k : Int)).j) a ∧ ∀ k ∈ l, (tk ts (k : Int)).j ≤ l.foldl (fun (m : Int) (k : Nat) => max m (tk ts (k : Int)).j) a
 | [], a => ⟨Int.le_refl _, by simp⟩
 | y :: l, a => by
   obtain ⟨h1, h2⟩ := fold_j l (max a (tk ts (y : Int)).j)
   rw [List.foldl_cons]
   refine ⟨by omega, fun x hx => ?_⟩
   rcases List.mem_cons.1 hx with rfl | hx
   ·omega
   ·exact h2 x hx
theorem fold_jb (hv : Vs ts) : ∀ (l : List Nat) (a : Int), a ≤ 2147483647 → l.foldl (fun (m : Int) (k : Nat) => max m (tk ts (k : Int)).j) a ≤ 2147483647
 | [], a, h => h
 | y :: l, a, h => by
   rw [List.foldl_cons]
   have := (hv.tk (y : Int)).j1
   exact fold_jb hv l _ (by omega)
theorem start_bd (hv : Vs ts) : 1 + (tk ts i).j ≤ startS ts i ∧ startS ts i ≤ 2147483648 ∧ ∀ k, k < ts.length → hpB ts i k = true → 1 + (tk ts (k : Int)).j ≤ startS ts i := by
 obtain ⟨h1, h2⟩ := fold_j (ts := ts) ((List.range ts.length).filter (hpB ts i)) (tk ts i).j
 have h3 := fold_jb hv ((List.range ts.length).filter (hpB ts i)) (tk ts i).j (hv.tk i).j1
 unfold startS
 refine ⟨by omega, by omega, fun k hk hp => ?_⟩
 have := h2 k (List.mem_filter.2 ⟨List.mem_range.2 hk, hp⟩)
 omega
theorem blocker_spec : ∀ n : Nat, (((List.range n).foldl (blk1 ts i) none = none) → ∀ k, k < n → (tk ts i).p < (tk ts (k : Int)).p → (tk ts (k : Int)).q ≤ 1) ∧
  ∀ b, (List.range n).foldl (blk1 ts i) none = some b → b < n ∧ (tk ts i).p < (tk ts (b : Int)).p ∧ 1 < (tk ts (b : Int)).q ∧ ∀ k, k < n → (tk ts i).p < (tk ts (k : Int)).p → (tk ts (k : Int)).q ≤ (tk ts (b : Int)).q
 | 0 => ⟨fun _ k hk => by omega, fun b hb => by simp at hb⟩
 | n + 1 => by
   obtain ⟨h1, h2⟩ := blocker_spec n
   rw [List.range_succ, List.foldl_append]
   simp only [List.foldl_cons, List.foldl_nil]
   cases hp : (List.range n).foldl (blk1 ts i) none with
   | none =>
     have g := h1 hp
     unfold blk1
     by_cases hc : (tk ts i).p < (tk ts (n : Int)).p ∧ 1 < (tk ts (n : Int)).q
     ·rw [if_pos (by simp [hc])]
      refine ⟨(fun h => by cases h), fun b hb => ?_⟩
      injection hb with hb
      subst hb
      refine ⟨by omega, hc.1, hc.2, fun k hk hk2 => ?_⟩
      rcases Nat.lt_or_ge k n with h | h
      ·have := g k h hk2; omega
      ·obtain rfl : k = n := by omega
       exact Int.le_refl _
     ·rw [if_neg (by simp only [Bool.and_eq_true, decide_eq_true_eq]; exact fun h => hc h.1)]
      refine ⟨fun _ k hk hk2 => ?_, fun b hb => by cases hb⟩
      rcases Nat.lt_or_ge k n with h | h
      ·exact g k h hk2
      ·obtain rfl : k = n := by omega
       rcases Int.lt_or_le 1 (tk ts (k : Int)).q with h3 | h3
       ·exact absurd ⟨hk2, h3⟩ hc
       ·exact h3
   | some b0 =>
     obtain ⟨g1, g2, g3, g4⟩ := h2 b0 hp
     unfold blk1
     by_cases hc : ((tk ts i).p < (tk ts (n : Int)).p ∧ 1 < (tk ts (n : Int)).q) ∧ (tk ts (b0 : Int)).q < (tk ts (n : Int)).q
     ·rw [if_pos (by simp [hc])]
      refine ⟨(fun h => by cases h), fun b hb => ?_⟩
      injection hb with hb
      subst hb
      refine ⟨by omega, hc.1.1, hc.1.2, fun k hk hk2 => ?_⟩
      rcases Nat.lt_or_ge k n with h | h
      ·have := g4 k h hk2; omega
      ·obtain rfl : k = n := by omega
       exact Int.le_refl _
     ·rw [if_neg (by simp only [Bool.and_eq_true, decide_eq_true_eq]; exact fun h => hc h)]
      refine ⟨(fun h => by cases h), fun b hb => ?_⟩
      injection hb with hb
      subst hb
      refine ⟨by omega, g2, g3, fun k hk hk2 => ?_⟩
      rcases Nat.lt_or_ge k n with h | h
      ·exact g4 k h hk2
      ·obtain rfl : k = n := by omega
       rcases Int.lt_or_le (tk ts (b0 : Int)).q (tk ts (k : Int)).q with h3 | h3
       ·exact absurd ⟨⟨hk2, by omega⟩, h3⟩ hc
       ·exact h3
theorem blk_isE (hv : Vs ts) : (blockerS ts i = none → blkS ts i = 0) ∧ ∀ b, blockerS ts i = some b → b < ts.length ∧ (tk ts i).p < (tk ts (b : Int)).p ∧ blkS ts i = (tk ts (b : Int)).q - 1 ∧ 1 < (tk ts (b : Int)).q := by
 obtain ⟨h1, h2⟩ := blocker_spec (ts := ts) (i := i) ts.length
 have hle : ∀ B, 0 ≤ B → (∀ k, k < ts.length → (tk ts i).p < (tk ts (k : Int)).p → (tk ts (k : Int)).q - 1 ≤ B) → blkS ts i ≤ B := by
  intro B hB h
  unfold blkS
  have : ∀ (l : List Int) (a : Int), a ≤ B → (∀ x ∈ l, x ≤ B) → l.foldl max a ≤ B := by
   intro l
   induction l with
   | nil => intro a ha _; exact ha
   | cons y l ih => intro a ha hl; rw [List.foldl_cons]; exact ih _ (by have := hl y (by simp); omega) (fun x hx => hl x (List.mem_cons_of_mem _ hx))
  refine this _ 0 hB (fun x hx => ?_)
  obtain ⟨y, hy, rfl⟩ := List.mem_map.1 hx
  obtain ⟨k, hk, rfl⟩ := List.getElem_of_mem hy
  have e := tk_get (List.getElem?_eq_getElem hk)
  have := h k hk
  rw [e] at this
  split
  ·exact this (by assumption)
  ·exact hB
 refine ⟨fun h => ?_, fun b hb => ?_⟩
 ·have := hle 0 (Int.le_refl _) (fun k hk hp => by have := h1 h k hk hp; omega)
  have := blk_pos ts i
  omega
 ·obtain ⟨g1, g2, g3, g4⟩ := h2 b hb
  have a1 := hle ((tk ts (b : Int)).q - 1) (by omega) (fun k hk hp => by have := g4 k hk hp; omega)
  have a2 := blk_le (ts := ts) (i := i) g1 g2
  exact ⟨g1, g2, by omega, g3⟩
theorem perJ_t (S : Int) (k n : Nat) : (perJ ts S k n).t = (k : Int) ∧ (perJ ts S k n).k = (tk ts (k : Int)).c ∧ (perJ ts S k n).c = [] ∧ (perJ ts S k n).a = S - (tk ts (k : Int)).j + n * (tk ts (k : Int)).t := by
 unfold perJ
 split
 ·rename_i h; subst h; simp
 ·exact ⟨rfl, rfl, rfl, rfl⟩
theorem perJ_r (hv : Vs ts) (S : Int) (k n : Nat) (hjt : (tk ts (k : Int)).j < (tk ts (k : Int)).t) : S ≤ (perJ ts S k n).r ∧ (perJ ts S k n).a ≤ (perJ ts S k n).r ∧ (perJ ts S k n).r ≤ (perJ ts S k n).a + (tk ts (k : Int)).j ∧ ∀ w : Int, 1 ≤ w → ((perJ ts S k n).r < S + w ↔ (n : Int) * (tk ts (k : Int)).t < w + (tk ts (k : Int)).j) := by
 have hx := hv.tk (k : Int)
 have hj0 := hx.j0
 unfold perJ
 split
 ·rename_i h; subst h
  refine ⟨Int.le_refl _, by simp only; omega, by simp only; omega, fun w hw => ?_⟩
  simp only [Int.natCast_zero, Int.zero_mul]
  omega
 ·rename_i h
  have h1 : (tk ts (k : Int)).t ≤ (n : Int) * (tk ts (k : Int)).t := by
   have := Int.mul_le_mul_of_nonneg_right (show (1 : Int) ≤ (n : Int) by omega) (show 0 ≤ (tk ts (k : Int)).t by have := hx.t0; omega)
   omega
  exact ⟨by simp only; omega, Int.le_refl _, by simp only; omega, fun w hw => by simp only; omega⟩
theorem scene_mem {x : Fv} (hx : x ∈ sceneS ts i) : (∃ b, blockerS ts i = some b ∧ x = ⟨b, startS ts i - 1, startS ts i - 1, (tk ts (b : Int)).q, [(tk ts (b : Int)).q]⟩) ∨ x = ⟨i, startS ts i - (tk ts i).j, startS ts i, (tk ts i).c, []⟩ ∨ ∃ k n, k < ts.length ∧ hpB ts i k = true ∧ n < perN ts i k ∧ x = perJ ts (startS ts i) k n := by
 unfold sceneS at hx
 rcases List.mem_append.1 hx with hx | hx
 ·rcases List.mem_append.1 hx with hx | hx
  ·left
   unfold headS at hx
   cases hb : blockerS ts i with
   | none => rw [hb] at hx; cases hx
   | some b => rw [hb] at hx; exact ⟨b, rfl, List.mem_singleton.1 hx⟩
  ·exact .inr (.inl (List.mem_singleton.1 hx))
 ·right; right
  obtain ⟨k, hk, hx⟩ := List.mem_flatMap.1 hx
  obtain ⟨hk1, hk2⟩ := List.mem_filter.1 hk
  obtain ⟨n, hn, rfl⟩ := List.mem_map.1 hx
  exact ⟨k, n, List.mem_range.1 hk1, hk2, List.mem_range.1 hn, rfl⟩
theorem sum_filter {α : Type} (p : α → Bool) (g : α → Int) : ∀ l : List α, ((l.filter p).map g).sum = (l.map fun a => if p a then g a else 0).sum
 | [] => rfl
 | a :: l => by
   have ih := sum_filter p g l
   cases h : p a with
   | true => rw [List.filter_cons_of_pos h, List.map_cons, List.sum_cons, List.map_cons, List.sum_cons, ih, if_pos h]
   | false => rw [List.filter_cons_of_neg (by simp [h]), ih, List.map_cons, List.sum_cons, if_neg (by simp [h])]; omega
theorem scene_len : (headS ts i).length ≤ 1 ∧ ((headS ts i).length = 0 ↔ blockerS ts i = none) := by
 unfold headS
 cases blockerS ts i <;> simp
theorem scene_m : jb (sceneS ts i) (headS ts i).length = ⟨i, startS ts i - (tk ts i).j, startS ts i, (tk ts i).c, []⟩ ∧ (headS ts i).length < (sceneS ts i).length := by
 unfold sceneS
 refine ⟨jb_get ?_, by simp⟩
 rw [List.append_assoc, List.getElem?_append_right (Nat.le_refl _)]
 simp
theorem scene_lj (hc : (chkAll ts).2 = 0) (hi0 : 0 ≤ i) (hi1 : i < ts.length) : ∀ x ∈ sceneS ts i, LJ ts x := by
 have hv := vs_of hc
 obtain ⟨s1, s2, s3⟩ := start_bd (i := i) hv
 have ov := fun (k : Int) (h0 : 0 ≤ k) (h1 : k < ts.length) => tk_over hc h0 h1
 intro x hx
 rcases scene_mem hx with ⟨b, hb, rfl⟩ | rfl | ⟨k, n, hk, hp, hn, rfl⟩
 ·obtain ⟨g1, g2, g3, g4⟩ := (blk_isE (i := i) hv).2 b hb
  have hxb := hv.tk (b : Int)
  have o := ov b (by omega) (by omega)
  have := (hv.tk i).j0
  have := hxb.j0
  exact ⟨by simp only; omega, by simp only; omega, by simp only; omega, by simp only; omega, by simp only; omega, by simp only; omega, hxb.q0, o.2.1, fun y hy => by rw [List.mem_singleton.1 hy]; exact hxb.q0, by simp, fun y hy => by rw [List.mem_singleton.1 hy]; exact Int.le_refl _⟩
 ·have hxi := hv.tk i
  have := hxi.j0
  exact ⟨hi0, hi1, by simp only; omega, by simp only; omega, by simp only; omega, by simp only; omega, hxi.c0, Int.le_refl _, (fun y hy => by cases hy), by have := hxi.c0; simp; omega, (fun y hy => by cases hy)⟩
 ·have hxk := hv.tk (k : Int)
  have o := ov k (by omega) (by omega)
  have oi := ov i hi0 hi1
  have hj := s3 k hk hp
  have hc0 := hxk.c0
  have hji := (hv.tk i).j0
  obtain ⟨e1, e2, e3, e4⟩ := perJ_t (ts := ts) (startS ts i) k n
  obtain ⟨r1, r2, r3, r4⟩ := perJ_r hv (startS ts i) k n (by omega)
  have hj0 := hxk.j0
  have ht1 := hxk.t1
  have hn0 : 0 ≤ (n : Int) * (tk ts (k : Int)).t := Int.mul_nonneg (by omega) (by have := hxk.t0; omega)
  have hnb : (n : Int) * (tk ts (k : Int)).t < (tk ts i).d - (tk ts i).j + (tk ts (k : Int)).j := by
   have hcb := ceil_bd (a := (tk ts i).d - (tk ts i).j + (tk ts (k : Int)).j) hxk.t0 (by have := (hv.tk i).c0; omega)
   have h1 : (n : Int) ≤ ceilI ((tk ts i).d - (tk ts i).j + (tk ts (k : Int)).j) (tk ts (k : Int)).t - 1 := by unfold perN at hn; omega
   have := Int.mul_le_mul_of_nonneg_right h1 (show 0 ≤ (tk ts (k : Int)).t by have := hxk.t0; omega)
   omega
  have hd1 : (tk ts i).d ≤ 2147483647 := by
   have e : ts[i.toNat]? = some (ts[i.toNat]'(by omega)) := List.getElem?_eq_getElem (by omega)
   have := tsRange hc (List.mem_of_getElem? e)
   rw [show i = ((i.toNat : Nat) : Int) by omega, tk_get e]
   exact this
  rw [show (perJ ts (startS ts i) k n) = (perJ ts (startS ts i) k n) from rfl]
  exact ⟨by rw [e1]; omega, by rw [e1]; omega, by rw [e4]; omega, by rw [e4]; omega, r2, by rw [e1]; exact r3, by rw [e2]; exact hc0, by rw [e1, e2]; exact Int.le_refl _, by rw [e3]; exact (fun y hy => by cases hy), by rw [e2, e3]; simp; omega, by rw [e3]; exact (fun y hy => by cases hy)⟩
theorem scene_pw (hv : Vs ts) (hi0 : 0 ≤ i) (hi1 : i < ts.length) : (sceneS ts i).Pairwise (fun x y => x.t = y.t → x.a + (tk ts x.t).t ≤ y.a) := by
 unfold sceneS
 have hb := blk_isE (i := i) hv
 refine List.pairwise_append.2 ⟨List.pairwise_append.2 ⟨?_, List.pairwise_singleton _ _, fun x hx y hy => ?_⟩, ?_, fun x hx y hy => ?_⟩
 ·unfold headS
  cases blockerS ts i with
  | none => exact List.Pairwise.nil
  | some b => exact List.pairwise_singleton _ _
 ·unfold headS at hx
  cases hbb : blockerS ts i with
  | none => rw [hbb] at hx; cases hx
  | some b =>
    rw [hbb] at hx
    rw [List.mem_singleton.1 hx, List.mem_singleton.1 hy]
    intro e
    obtain ⟨g1, g2, _, _⟩ := hb.2 b hbb
    simp only at e
    rw [← e] at g2
    omega
 ·refine List.pairwise_flatMap.2 ⟨fun k hk => ?_, ?_⟩
  ·unfold perL
   refine List.pairwise_map.2 ((List.pairwise_lt_range).imp fun {n n'} hlt _ => ?_)
   rw [(perJ_t _ _ _).1, (perJ_t _ _ _).2.2.2, (perJ_t _ _ _).2.2.2]
   have := Int.mul_le_mul_of_nonneg_right (show (n : Int) + 1 ≤ (n' : Int) by omega) (show 0 ≤ (tk ts (k : Int)).t by have := (hv.tk (k : Int)).t0; omega)
   rw [Int.add_mul] at this
   omega
  ·refine ((List.pairwise_lt_range).sublist List.filter_sublist).imp fun {k k'} hlt x hx y hy e => ?_
   obtain ⟨n, _, rfl⟩ := List.mem_map.1 hx
   obtain ⟨n', _, rfl⟩ := List.mem_map.1 hy
   rw [(perJ_t _ _ _).1, (perJ_t _ _ _).1] at e
   omega
 ·obtain ⟨k, hk, hy⟩ := List.mem_flatMap.1 hy
  obtain ⟨_, hk2⟩ := List.mem_filter.1 hk
  obtain ⟨n, _, rfl⟩ := List.mem_map.1 hy
  have hk2 : (tk ts (k : Int)).p < (tk ts i).p := by simpa [hpB] using hk2
  rw [(perJ_t _ _ _).1]
  intro e
  rcases List.mem_append.1 hx with hx | hx
  ·unfold headS at hx
   cases hbb : blockerS ts i with
   | none => rw [hbb] at hx; cases hx
   | some b =>
     rw [hbb] at hx
     rw [List.mem_singleton.1 hx] at e
     obtain ⟨g1, g2, _, _⟩ := hb.2 b hbb
     simp only at e
     rw [e] at g2
     omega
  ·rw [List.mem_singleton.1 hx] at e
   simp only at e
   rw [← e] at hk2
   omega
theorem scene_leg (hc : (chkAll ts).2 = 0) (hi0 : 0 ≤ i) (hi1 : i < ts.length) (hlen : (sceneS ts i).length ≤ 4096) : legS ts (sceneS ts i) = true :=
 legS_of hc hlen (scene_lj hc hi0 hi1) (scene_pw (vs_of hc) hi0 hi1)
theorem scene_scn (hc : (chkAll ts).2 = 0) (hD : Dist ts) (hi0 : 0 ≤ i) (hi1 : i < ts.length) :
  Scn ts (sceneS ts i) (headS ts i).length (startS ts i).toNat (blkS ts i).toNat (fun w => hiS ts i w) ((tk ts i).d - (tk ts i).j).toNat := by
 have hv := vs_of hc
 have L : LJs ts (sceneS ts i) := ⟨scene_lj hc hi0 hi1, scene_pw hv hi0 hi1, fun p l hl => by
  have hleg := leg_of _ (scene_lj hc hi0 hi1) (scene_pw hv hi0 hi1)
  exact (ljs_of hv _ hleg).last p l hl⟩
 obtain ⟨s1, s2, s3⟩ := start_bd (i := i) hv
 have hb := blk_isE (i := i) hv
 have hb0 := blk_pos ts i
 have hij := (hv.tk i).j0
 obtain ⟨hm, hml⟩ := scene_m (ts := ts) (i := i)
 have hpm : prO ts (sceneS ts i) (headS ts i).length = (tk ts i).p := by unfold prO; rw [hm]
 have hjm : ∀ k, k < (sceneS ts i).length → jb (sceneS ts i) k ∈ sceneS ts i := fun k hk => by
  rw [jb_get (List.getElem?_eq_getElem hk)]; exact List.getElem_mem hk
 have hov := fun (k : Nat) (h1 : k < ts.length) => tk_over hc (show (0 : Int) ≤ (k : Int) by omega) (show (k : Int) < ts.length by omega)
 -- a place, by what stands there
 have hpl : ∀ k, k < (sceneS ts i).length → k < (headS ts i).length ∨ k = (headS ts i).length ∨ prO ts (sceneS ts i) k < (tk ts i).p := by
  intro k hk
  rcases Nat.lt_or_ge k (headS ts i).length with h1 | h1
  ·exact .inl h1
  ·rcases Nat.eq_or_lt_of_le h1 with h2 | h2
   ·exact .inr (.inl h2.symm)
   ·right; right
    have e : jb (sceneS ts i) k ∈ ((List.range ts.length).filter (hpB ts i)).flatMap (perL ts i) := by
     rw [jb_get (List.getElem?_eq_getElem hk)]
     unfold sceneS at hk ⊢
     rw [List.getElem_append_right (by simp; omega)]
     exact List.getElem_mem _
    obtain ⟨k', hk', hy⟩ := List.mem_flatMap.1 e
    obtain ⟨_, hk2⟩ := List.mem_filter.1 hk'
    obtain ⟨n, _, hn⟩ := List.mem_map.1 hy
    unfold prO
    rw [← hn, (perJ_t _ _ _).1]
    simpa [hpB] using hk2
 have hhd : ∀ k, k < (headS ts i).length → k = 0 ∧ ∃ b, blockerS ts i = some b ∧ jb (sceneS ts i) k = ⟨b, startS ts i - 1, startS ts i - 1, (tk ts (b : Int)).q, [(tk ts (b : Int)).q]⟩ := by
  intro k hk
  unfold headS at hk
  cases hbb : blockerS ts i with
  | none => rw [hbb] at hk; simp at hk
  | some b =>
    rw [hbb] at hk
    obtain rfl : k = 0 := by simpa using hk
    refine ⟨rfl, b, rfl, jb_get ?_⟩
    unfold sceneS headS
    rw [hbb]
    simp
 refine ⟨lg_of L, hml, by rw [hm]; simp only; omega, fun k hk hp => ?_, fun k hk hp => ?_, ?_, fun w h1 hw => ?_⟩
 ·rw [hpm] at hp
  rcases scene_mem (hjm k hk) with ⟨b, hbb, e⟩ | e | ⟨k', n, hk', hp', hn, e⟩
  ·exfalso
   obtain ⟨_, g2, _, _⟩ := hb.2 b hbb
   unfold prO at hp
   rw [e] at hp
   simp only at hp
   omega
  ·rw [e]; exact ⟨by simp only; omega, rfl⟩
  ·rw [e]
   have o := hov k' hk'
   have hc0 := (hv.tk (k' : Int)).c0
   obtain ⟨r1, _, _, _⟩ := perJ_r hv (startS ts i) k' n (by omega)
   exact ⟨by omega, (perJ_t _ _ _).2.2.1⟩
 ·rw [hpm] at hp
  rcases hpl k hk with h1 | h1 | h1
  ·exfalso
   obtain ⟨_, b, hbb, e⟩ := hhd k h1
   obtain ⟨_, g2, _, _⟩ := hb.2 b hbb
   unfold prO at hp
   rw [e] at hp
   simp only at hp
   omega
  ·exact .inl h1
  ·omega
 ·cases hbb : blockerS ts i with
  | none =>
    left
    have := hb.1 hbb
    refine ⟨by omega, fun k hk hp => ?_⟩
    rw [hpm] at hp
    exfalso
    rcases hpl k hk with h1 | h1 | h1
    ·have := (hhd k h1).2
     obtain ⟨b, h2, _⟩ := this
     rw [hbb] at h2; cases h2
    ·rw [h1, hpm] at hp; omega
    ·omega
  | some b =>
    right
    obtain ⟨g1, g2, g3, g4⟩ := hb.2 b hbb
    have hl1 : 0 < (headS ts i).length := by
     unfold headS; rw [hbb]; simp
    obtain ⟨_, b', h2, e⟩ := hhd 0 hl1
    rw [hbb] at h2
    injection h2 with h2
    subst h2
    have hs : ((startS ts i).toNat : Int) = startS ts i := by omega
    have hB : ((blkS ts i).toNat : Int) = (tk ts (b : Int)).q - 1 := by omega
    refine ⟨by omega, 0, by omega, by rw [hpm]; unfold prO; rw [e]; exact g2, by rw [e, hs], by rw [e, hB]; simp only; omega, by rw [e, hB]; simp only; congr 1; omega, fun k hk hp => ?_⟩
    rw [hpm] at hp
    rcases hpl k hk with h1 | h1 | h1
    ·exact .inl (hhd k h1).1
    ·rw [h1, hpm] at hp; omega
    ·omega
 ·have hs : (((startS ts i).toNat + w : Nat) : Int) = startS ts i + w := by omega
  rw [hs]
  have e1 : rs (sceneS ts i).length (fun k => if prO ts (sceneS ts i) k < prO ts (sceneS ts i) (headS ts i).length ∧ (jb (sceneS ts i) k).r < startS ts i + w then (jb (sceneS ts i) k).k else 0) = rs (sceneS ts i).length (fun k => (fun x : Fv => if (tk ts x.t).p < (tk ts i).p ∧ x.r < startS ts i + w then x.k else 0) (jb (sceneS ts i) k)) := by
   rw [hpm]; rfl
  refine (e1.trans (rs_jobs (fun x : Fv => if (tk ts x.t).p < (tk ts i).p ∧ x.r < startS ts i + w then x.k else 0) (sceneS ts i))).trans ?_
  have e2 : ((headS ts i).map (fun x : Fv => if (tk ts x.t).p < (tk ts i).p ∧ x.r < startS ts i + w then x.k else 0)).sum = 0 := by
   unfold headS
   cases hbb : blockerS ts i with
   | none => rfl
   | some b =>
     obtain ⟨_, g2, _, _⟩ := hb.2 b hbb
     have hn : ¬ ((tk ts (b : Int)).p < (tk ts i).p ∧ startS ts i - 1 < startS ts i + w) := fun h => by omega
     simp only [List.map_cons, List.map_nil, List.sum_cons, List.sum_nil, if_neg hn]
     rfl
  have e3 : ¬ ((tk ts i).p < (tk ts i).p ∧ startS ts i < startS ts i + w) := fun h => by omega
  unfold sceneS
  rw [List.map_append, List.map_append, List.sum_append, List.sum_append, e2, sum_flat, sum_filter]
  simp only [List.map_cons, List.map_nil, List.sum_cons, List.sum_nil, if_neg e3]
  unfold hiS
  rw [rs_list, Int.zero_add, Int.zero_add, Int.zero_add]
  refine rs_congr _ fun k hk => ?_
  unfold hpB
  by_cases hp : (tk ts (k : Int)).p < (tk ts i).p
  ·rw [if_pos (by simpa using hp), if_pos hp]
   have o := hov k hk
   have hc0 := (hv.tk (k : Int)).c0
   have ht0 := (hv.tk (k : Int)).t0
   have hj0 := (hv.tk (k : Int)).j0
   unfold perL
   rw [List.map_map]
   have e4 : (List.range (perN ts i k)).map ((fun x : Fv => if (tk ts x.t).p < (tk ts i).p ∧ x.r < startS ts i + w then x.k else 0) ∘ perJ ts (startS ts i) k) = (List.range (perN ts i k)).map (fun n : Nat => if (n : Int) * (tk ts (k : Int)).t < (w : Int) + (tk ts (k : Int)).j then (tk ts (k : Int)).c else 0) := by
    refine List.map_congr_left fun n _ => ?_
    obtain ⟨p1, p2, p3, p4⟩ := perJ_t (ts := ts) (startS ts i) k n
    have r4 := (perJ_r hv (startS ts i) k n (by omega)).2.2.2 (w : Int) (by omega)
    simp only [Function.comp, p1, p2]
    by_cases hr : (perJ ts (startS ts i) k n).r < startS ts i + w
    ·rw [if_pos ⟨hp, hr⟩, if_pos (r4.1 hr)]
    ·have hn1 : ¬ ((tk ts (k : Int)).p < (tk ts i).p ∧ (perJ ts (startS ts i) k n).r < startS ts i + w) := fun h => hr h.2
     rw [if_neg hn1, if_neg (fun h => hr (r4.2 h))]
   rw [e4, count_below _ _ _ ht0 (by omega) _ (by
    have := ceil_mono (a := (w : Int) + (tk ts (k : Int)).j) (b := (tk ts i).d - (tk ts i).j + (tk ts (k : Int)).j) ht0 (by omega)
    unfold perN
    omega)]
  ·rw [if_neg (by simpa using hp), if_neg hp]
theorem hiS_pos (hv : Vs ts) (w : Int) (hw : 1 ≤ w) : 0 ≤ hiS ts i w := by
 unfold hiS
 rw [rs_list]
 refine Int.le_trans (Int.le_of_eq (rs_nil ts.length).symm) (rs_le _ fun k hk => ?_)
 have hx := hv.tk (k : Int)
 split
 ·exact Int.mul_nonneg (by have := (ceil_bd (a := w + (tk ts (k : Int)).j) hx.t0 (by have := hx.j0; omega)).1; omega) (by have := hx.c0; omega)
 ·exact Int.le_refl _
theorem en_first {js : List Fv} (hl : Lg js) {n k : Nat} (hk : k < js.length) (h0 : kO (tst ts js n).dn k < (jb js k).k) (h1 : kO (tst ts js (n + 1)).dn k = (jb js k).k) : kO (tst ts js (n + 1)).en k = (n : Int) + 1 := by
 have hI := ti_all (ts := ts) hl n
 rw [tst_succ] at h1 ⊢
 cases hw : whoS ts js (tst ts js n) n with
 | none => rw [tstep_none hw] at h1; simp only at h1; omega
 | some x =>
   rw [tstep_some hw] at h1 ⊢
   obtain ⟨g1, _, _⟩ := hI.who_some hl hw
   simp only [runM] at h1 ⊢
   rw [kO_set _ _ (by rw [hI.ld]; exact g1)] at h1
   by_cases e : k = x
   ·subst e
    rw [if_pos rfl] at h1
    rw [if_pos h1, kO_set _ _ (by rw [hI.le]; exact g1), if_pos rfl]
   ·rw [if_neg e] at h1
    omega
theorem scene_ends (hc : (chkAll ts).2 = 0) (hD : Dist ts) (hi0 : 0 ≤ i) (hi1 : i < ts.length) {w0 : Nat} (h1 : 1 ≤ w0) (hw : w0 ≤ ((tk ts i).d - (tk ts i).j).toNat) (hn : ∀ w : Nat, 1 ≤ w → w < w0 → (w : Int) < needS ts i w) (he : needS ts i w0 ≤ w0) {T : Nat} (hT : (startS ts i).toNat + w0 ≤ T) :
  kO (tst ts (sceneS ts i) T).dn (headS ts i).length = (tk ts i).c ∧ kO (tst ts (sceneS ts i) T).en (headS ts i).length = startS ts i + w0 := by
 have hv := vs_of hc
 have S := scene_scn hc hD hi0 hi1
 obtain ⟨hm, hml⟩ := scene_m (ts := ts) (i := i)
 obtain ⟨s1, _, _⟩ := start_bd (i := i) hv
 have hb0 := blk_pos ts i
 have hjk : (jb (sceneS ts i) (headS ts i).length).k = (tk ts i).c := by rw [hm]
 have hB : ((blkS ts i).toNat : Int) = blkS ts i := by omega
 have hne : ∀ w : Nat, (jb (sceneS ts i) (headS ts i).length).k + ((blkS ts i).toNat : Int) + hiS ts i w = needS ts i w := fun w => by rw [hjk, hB]; rfl
 have hn' : ∀ w : Nat, 1 ≤ w → w < w0 → (w : Int) < (jb (sceneS ts i) (headS ts i).length).k + ((blkS ts i).toNat : Int) + hiS ts i w := fun w a b => by rw [hne]; exact hn w a b
 have hhp := hiS_pos (ts := ts) (i := i) hv (w0 : Int) (by omega)
 have hc0 := (hv.tk i).c0
 have hbw : (blkS ts i).toNat < w0 := by unfold needS at he; omega
 have hd := S.done h1 hw hn' (by rw [hne]; exact he) hbw
 have hwt := S.wait (w0 := w0) (by omega) hn' (w0 - 1) (by omega)
 have es : (startS ts i).toNat + w0 = ((startS ts i).toNat + (w0 - 1)) + 1 := by omega
 rw [es] at hd
 have hen := en_first S.lg hml hwt hd
 obtain ⟨x, rfl⟩ := Nat.exists_eq_add_of_le hT
 rw [← es] at hd hen
 have st := en_stay (ts := ts) S.lg hml hd x
 rw [hjk] at st
 have hij := (hv.tk i).j0
 exact ⟨st.1, by rw [st.2, hen]; omega⟩
theorem scene_miss (hc : (chkAll ts).2 = 0) (hD : Dist ts) (hi0 : 0 ≤ i) (hi1 : i < ts.length) (hn : ∀ w : Nat, 1 ≤ w → w ≤ ((tk ts i).d - (tk ts i).j).toNat → (w : Int) < needS ts i w) :
  kO (tst ts (sceneS ts i) ((startS ts i).toNat + ((tk ts i).d - (tk ts i).j).toNat)).dn (headS ts i).length < (tk ts i).c := by
 have hv := vs_of hc
 have S := scene_scn hc hD hi0 hi1
 obtain ⟨hm, hml⟩ := scene_m (ts := ts) (i := i)
 have hb0 := blk_pos ts i
 have hjk : (jb (sceneS ts i) (headS ts i).length).k = (tk ts i).c := by rw [hm]
 have hB : ((blkS ts i).toNat : Int) = blkS ts i := by omega
 have := S.wait (w0 := ((tk ts i).d - (tk ts i).j).toNat + 1) (Nat.le_refl _) (fun w a b => by
  have := hn w a (by omega)
  rw [hjk, hB]
  exact this) ((tk ts i).d - (tk ts i).j).toNat (by omega)
 rw [hjk] at this
 exact this
end
end
section
theorem nums_in {f : Nat → Bool} {n : Nat} (hn : n ≤ 1024) (h : ∀ k, n ≤ k → f k = false) : nums f = (List.range n).filter f := by
 have e : nums f = numsIn f 0 n ++ numsIn f (0 + n) (1024 - n) := by
  rw [← numsIn_append, show n + (1024 - n) = 1024 by omega]; rfl
 have e2 : numsIn f (0 + n) (1024 - n) = [] := numsIn_none (fun j h1 _ => h j (by omega))
 rw [e, e2, List.append_nil]
 unfold numsIn
 rw [List.range_eq_range']
theorem higher_hp {ts : List Ts} {k : Nat} {y : Ts} (hy : ts[k]? = some y) (hn : ts.length ≤ 1024) : nums (higherF ts (k : Int)) = (List.range ts.length).filter (hpB ts (k : Int)) := by
 rw [nums_in hn (fun j h => higherF_far h)]
 refine List.filter_congr fun j hj => ?_
 have hj := List.mem_range.1 hj
 unfold higherF hpB
 rw [pAt_some hy, List.getElem?_eq_getElem hj, tk_get hy, tk_get (List.getElem?_eq_getElem hj)]
theorem lower_at {ts : List Ts} {k j : Nat} {y : Ts} (hy : ts[k]? = some y) (hj : j < ts.length) : lowerF ts (k : Int) j = decide ((tk ts (k : Int)).p < (tk ts (j : Int)).p) := by
 unfold lowerF
 rw [pAt_some hy, List.getElem?_eq_getElem hj, tk_get hy, tk_get (List.getElem?_eq_getElem hj)]
theorem fmax_le (g : Nat → Int) : ∀ (l : List Nat) (a B : Int), l.foldl (fun (m : Int) (x : Nat) => max m (g x)) a ≤ B ↔ a ≤ B ∧ ∀ x ∈ l, g x ≤ B
 | [], a, B => by simp
 | y :: l, a, B => by
   rw [List.foldl_cons, fmax_le g l]
   constructor
   ·rintro ⟨h1, h2⟩
    refine ⟨by omega, fun x hx => ?_⟩
    rcases List.mem_cons.1 hx with rfl | hx
    ·omega
    ·exact h2 x hx
   ·rintro ⟨h1, h2⟩
    have := h2 y (by simp)
    exact ⟨by omega, fun x hx => h2 x (List.mem_cons_of_mem _ hx)⟩
def jF (ts : List Ts) (m : Int) (x : Nat) : Int := max m (tk ts (x : Int)).j
theorem start_fold {ts : List Ts} {k : Nat} {y : Ts} (hv : Vs ts) (hy : ts[k]? = some y) (hn : ts.length ≤ 1024) : 1 + (nums (insMM (higherF ts (k : Int)) (k : Int))).foldl (jF ts) 0 = startS ts (k : Int) := by
 have hk := (List.getElem?_eq_some_iff.1 hy).1
 have hh := higher_hp hy hn
 have hj0 := (hv.tk (k : Int)).j0
 have hg := fmax_le (fun x : Nat => (tk ts (x : Int)).j)
 unfold startS
 congr 1
 refine Int.le_antisymm ?_ ?_
 ·refine (hg _ _ _).2 ?_
  obtain ⟨h1, h2⟩ := (hg ((List.range ts.length).filter (hpB ts (k : Int))) (tk ts (k : Int)).j _).1 (Int.le_refl _)
  refine ⟨by omega, fun x hx => ?_⟩
  obtain ⟨hx1, hx2⟩ := (mem_nums _ x).1 hx
  simp only [insMM, Bool.or_eq_true, decide_eq_true_eq] at hx2
  rcases hx2 with hx2 | hx2
  ·exact h2 x (by rw [← hh]; exact (mem_nums _ x).2 ⟨hx1, hx2⟩)
  ·simp only [hx2]; exact h1
 ·refine (hg _ _ _).2 ?_
  obtain ⟨h1, h2⟩ := (hg (nums (insMM (higherF ts (k : Int)) (k : Int))) 0 _).1 (Int.le_refl _)
  refine ⟨h2 k ((mem_nums _ k).2 ⟨by omega, by simp [insMM]⟩), fun x hx => ?_⟩
  rw [← hh] at hx
  obtain ⟨hx1, hx2⟩ := (mem_nums _ x).1 hx
  exact h2 x ((mem_nums _ x).2 ⟨hx1, by simp [insMM, hx2]⟩)
theorem jF_bd {ts : List Ts} (hv : Vs ts) (l : List Nat) : 0 ≤ l.foldl (jF ts) 0 ∧ l.foldl (jF ts) 0 ≤ 2147483647 :=
 ⟨((fmax_le (fun x : Nat => (tk ts (x : Int)).j) l 0 _).1 (Int.le_refl _)).1, (fmax_le (fun x : Nat => (tk ts (x : Int)).j) l 0 _).2 ⟨by omega, fun x _ => (hv.tk (x : Int)).j1⟩⟩
def blF (ts : List Ts) (s : Int × Int) (x : Nat) : Int × Int := if s.2 < (tk ts (x : Int)).q then ((x : Int), (tk ts (x : Int)).q) else s
def blS (ts : List Ts) : Option Nat → Int × Int
 | none => (0, 1)
 | some b => ((b : Int), (tk ts (b : Int)).q)
theorem bl_step {ts : List Ts} {k : Nat} {y : Ts} (hy : ts[k]? = some y) : ∀ n, n ≤ ts.length → ((List.range n).filter (lowerF ts (k : Int))).foldl (blF ts) (0, 1) = blS ts ((List.range n).foldl (blk1 ts (k : Int)) none)
 | 0, _ => rfl
 | n + 1, hn => by
   have ih := bl_step hy n (by omega)
   obtain ⟨-, hs⟩ := blocker_spec (ts := ts) (i := (k : Int)) n
   have hl := lower_at hy (show n < ts.length by omega)
   rw [List.range_succ, List.filter_append, List.foldl_append, List.foldl_append, ih]
   simp only [List.foldl_cons, List.foldl_nil, List.filter_cons, List.filter_nil, hl]
   generalize (List.range n).foldl (blk1 ts (k : Int)) none = best at *
   by_cases hp : (tk ts (k : Int)).p < (tk ts (n : Int)).p
   ·rw [decide_eq_true hp, if_pos rfl]
    simp only [List.foldl_cons, List.foldl_nil]
    unfold blk1 blF
    rw [decide_eq_true hp, Bool.true_and]
    cases best with
    | none =>
      by_cases hq : 1 < (tk ts (n : Int)).q
      ·simp [blS, hq]
      ·simp [blS, hq]
    | some b =>
      obtain ⟨g1, g2, g3, g4⟩ := hs b rfl
      by_cases hq : (tk ts (b : Int)).q < (tk ts (n : Int)).q
      ·have hq1 : 1 < (tk ts (n : Int)).q := by omega
       simp [blS, hq, hq1]
      ·simp [blS, hq]
   ·rw [decide_eq_false hp, if_neg (by decide)]
    unfold blk1
    rw [decide_eq_false hp, Bool.false_and, Bool.false_and, if_neg (by decide)]
    rfl
theorem bl_fold {ts : List Ts} {k : Nat} {y : Ts} (hy : ts[k]? = some y) (hn : ts.length ≤ 1024) : (nums (lowerF ts (k : Int))).foldl (blF ts) (0, 1) = blS ts (blockerS ts (k : Int)) := by
 rw [nums_in hn (fun j h => lowerF_far h)]
 exact bl_step hy ts.length (Nat.le_refl _)
def bkP : Option Nat → Int
 | none => 0
 | some b => (b : Int)
theorem bl_told {ts : List Ts} {k : Nat} : (blS ts (blockerS ts (k : Int))).1 = bkP (blockerS ts (k : Int)) ∧ decide (1 < (blS ts (blockerS ts (k : Int))).2) = (blockerS ts (k : Int)).isSome := by
 obtain ⟨-, hs⟩ := blocker_spec (ts := ts) (i := (k : Int)) ts.length
 cases h : blockerS ts (k : Int) with
 | none => exact ⟨rfl, by simp [blS]⟩
 | some b => exact ⟨rfl, decide_eq_true (hs b h).2.2.1⟩
theorem blF_bd {ts : List Ts} (hv : Vs ts) : ∀ (l : List Nat) (s : Int × Int), (∀ x ∈ l, x < 1024) → 0 ≤ s.1 ∧ s.1 ≤ 1024 ∧ 1 ≤ s.2 ∧ s.2 ≤ 2147483647 → 0 ≤ (l.foldl (blF ts) s).1 ∧ (l.foldl (blF ts) s).1 ≤ 1024 ∧ 1 ≤ (l.foldl (blF ts) s).2 ∧ (l.foldl (blF ts) s).2 ≤ 2147483647
 | [], s, _, h => h
 | x :: l, s, hx, h => by
   rw [List.foldl_cons]
   refine blF_bd hv l _ (fun z hz => hx z (by simp [hz])) ?_
   have hq0 := (hv.tk (x : Int)).q0
   have hq1 := (hv.tk (x : Int)).q1
   have := hx x (by simp)
   unfold blF
   split
   ·simp only; omega
   ·exact h
end
end Go.Proofs.YthfkbbiaemmndaaGreatDoor
