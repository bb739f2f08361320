/- Texts about the program, one after the other: PSam, KBx, PLng, PTel, PFew, PRd. -/
import Derived.Test.YtngmaiiibinkaaaG6
import Derived.Test.YtngmaiiibinkaaaG7
import Derived.Deep.CutRange
import Derived.Deep.CutBlock
import Derived.Deep.RegionHeld3
import Derived.Test.YtngmaiiibinkaaaJRead
/- The law's same. -/
namespace Go.Proofs.Ytngmaiiibinkaaa
open Go.RowKit Go.Shelf
set_option linter.unusedVariables false
set_option linter.unusedSimpArgs false
attribute [local go_sem ↓] Go.wp_at_zero Go.wp_at_succ
set_option maxHeartbeats 2000000 in
theorem same_any {A A' : Option Addr} {cap cap' n : Nat} {l : List Int} (w : World) (h1 : CRow w A cap l) (h2 : CRow w A' cap' l) (hn : l.length = n) :
    Calls Try.prog 22 #[.slice A n cap, .slice A' n cap'] w (Told (.bool true) w) := by
  have H1 := Lib.hid h1
  have H2 := Lib.hid h2
  have HN := Lib.hid hn
  have hmx := h1.mx
  have hle := h1.le
  rw [hn] at hle
  have tn : ((n : Int) != (n : Int)) = false := by simp
  have PT := Lib.hid (fun wr (hb : Below w.heap.size w wr) => show Told (.bool true) w (.returned (.bool true)) wr from ⟨rfl, hb⟩)
  clear h1 h2 hn
  generalize hPo : Told (.bool true) w = Post at *
  clear hPo
  go_enter Try.func22, Try.ntmps22
  go_wp2
  go_loopw [5] (fun i wr => ∃ k : Nat, k ≤ n ∧ i = .int .i64 (k : Int) ∧ Hid (Below w.heap.size w wr)) (fun i _ => n - (intOf i).toNat)
  case atStart => exact ⟨0, Nat.zero_le _, rfl, Lib.hid (Below.refl _ _)⟩
  case round =>
    obtain ⟨k, hk, rfl, hB⟩ := hrel
    by_cases hlt : k < n
    · obtain ⟨b, o, x, rfl, hx, hw, hbl, a0⟩ := (H1.out.later hB.out).get (k := k) (by rw [HN.out]; exact hlt)
      obtain ⟨b', o', x', rfl, hx', hw', hbl', c0⟩ := (H2.out.later hB.out).get (k := k) (by rw [HN.out]; exact hlt)
      obtain rfl : x = x' := by rw [hx] at hx'; simpa using hx'
      have hi0 : (0 : Int) ≤ (k : Int) := by omega
      have hi1 : (k : Int) < (n : Int) := by omega
      have tx : (x != x) = false := by simp
      clear hx hx'
      go_upto_region 6 with (fail)
      go_quiet (fail)
      go_wp2
      go_roundw
      case rel => exact ⟨k + 1, by omega, by go_num, Lib.hid (hB.out.trans ((below_drewN2 wr _).mono hB.out.size))⟩
      case measure => simp [intOf]; omega
    · obtain rfl : k = n := by omega
      go_wp2
      exact PT.out _ hB.out
end Go.Proofs.Ytngmaiiibinkaaa
/- Boxes that a walk over a range holds; the chapter's example. -/
namespace Go.Proofs.Ytngmaiiibinkaaa
open Go.RowKit Go.Shelf
set_option linter.unusedVariables false
set_option linter.unusedSimpArgs false
structure Bx (w0 : World) (bs : List (Nat × TypeId × Value)) (V : World) : Prop where
  bx : ∀ p ∈ bs, Boxed V p.1 p.2.1 p.2.2
  b : Below w0.heap.size w0 V
  bge : ∀ p ∈ bs, w0.heap.size ≤ p.1
section
variable {w0 V V' : World} {bs bs' : List (Nat × TypeId × Value)}
theorem Bx.later (h : Bx w0 bs V) (hb : Below V.heap.size V V') : Bx w0 bs V' :=
  ⟨fun p hp => (hb.block _ (h.bx p hp).lt).trans (h.bx p hp), h.b.trans (hb.mono h.b.size), h.bge⟩
theorem Bx.own {row : Option Nat} {D : Nat} (h : Bx w0 bs V) (hg : V.grownBy V' row) (hr : ∀ r, row = some r → D ≤ r ∧ ∃ o : Obj, V.heap[r]? = some o ∧ o.isCells = false) (hB : w0.heap.size ≤ D) : Bx w0 bs V' :=
  ⟨fun p hp => (grownBy_keeps_cells hg (fun r e => (hr r e).2) (h.bx p hp) rfl).trans (h.bx p hp), h.b.grown hg h.b.size (fun k e => by have := (hr k e).1; omega), h.bge⟩
/-- A box gets another value. -/
theorem Bx.set (h : Bx w0 bs V) {c : Nat} {t : TypeId} {v : Value} (u : Value) (hm : (c, t, v) ∈ bs) (hs : ∀ p ∈ bs', p = (c, t, u) ∨ (p ∈ bs ∧ p.1 ≠ c)) : Bx w0 bs' (V.setCell ⟨c, 0, none⟩ u) := by
  have hg := h.bge _ hm
  refine ⟨fun p hp => ?_, h.b.setCell hg _, fun p hp => ?_⟩
  · rcases hs p hp with rfl | ⟨h1, h2⟩
    · exact Boxed.set u (h.bx _ hm)
    · exact (Below.heap_setCell _ _ _ _ h2).trans (h.bx p h1)
  · rcases hs p hp with rfl | ⟨h1, _⟩
    · exact hg
    · exact h.bge p h1
/-- A new box. -/
theorem Bx.new (h : Bx w0 bs V) (t : TypeId) (v : Value) : Bx w0 ((V.heap.size, t, v) :: bs) (V.alloc (.cells #[v] t)) := by
  have h1 := h.later ((Below.refl _ V).alloc (Nat.le_refl _) (.cells #[v] t))
  refine ⟨fun p hp => ?_, h1.b, fun p hp => ?_⟩
  · rcases List.mem_cons.1 hp with rfl | hp
    · exact Boxed.new _ _ _
    · exact h1.bx p hp
  · rcases List.mem_cons.1 hp with rfl | hp
    · exact h.b.size
    · exact h.bge p hp
theorem Bx.sub (h : Bx w0 bs V) (hs : ∀ p ∈ bs', p ∈ bs) : Bx w0 bs' V := ⟨fun p hp => h.bx p (hs p hp), h.b, fun p hp => h.bge p (hs p hp)⟩
theorem Bx.nil (w0 : World) : Bx w0 [] w0 := ⟨by simp, Below.refl _ _, by simp⟩
theorem Bx.cell (h : Bx w0 bs V) {c : Nat} {t : TypeId} {v : Value} (hm : (c, t, v) ∈ bs) : V.cell? ⟨c, 0, none⟩ = some v := (h.bx _ hm).cell
theorem Bx.fz (h : Bx w0 bs V) {c : Nat} {t : TypeId} {v : Value} (hm : (c, t, v) ∈ bs) : V.frozen? ⟨c, 0, none⟩ = false := (h.bx _ hm).frozen
end
/-! ### The example -/
def exQ : List Sq := [⟨0, 0, 2⟩, ⟨1, 2, 3⟩, ⟨0, 5, 6⟩]
theorem exQ_busy : busyQ exQ = [(0, 3), (5, 6)] := by
  simp [exQ, busyQ, runQ]
theorem exQ_row (W : World) : SqR (W.alloc (.cells #[.int .i64 0, .int .i64 0, .int .i64 2, .int .i64 1, .int .i64 2, .int .i64 3, .int .i64 0, .int .i64 5, .int .i64 6] TSp)) (some ⟨W.heap.size, 0, none⟩) 3 exQ := by
  refine ⟨by decide, by omega, fun x hx => ?_, fun i x hx => ⟨_, 0, rfl, fun j v hv => ?_⟩⟩
  · simp [exQ] at hx
    rcases hx with rfl | rfl | rfl <;> (unfold in64; simp)
  · have hi := (List.getElem?_eq_some_iff.1 hx).1
    have hi : i < 3 := hi
    have hj := (List.getElem?_eq_some_iff.1 hv).1
    have hj : j < 3 := hj
    rw [cell_of_row _ _ _ _ _ _ (heap_alloc_new W _)]
    rcases (by omega : i = 0 ∨ i = 1 ∨ i = 2) with rfl | rfl | rfl <;> simp [exQ] at hx <;> subst hx <;>
      rcases (by omega : j = 0 ∨ j = 1 ∨ j = 2) with rfl | rfl | rfl <;> simpa [sqL] using hv
def OkW (w : World) (e : Ending) (w' : World) : Prop := e = .returned (.bool true) ∧ Below w.heap.size w w'
abbrev pqV (x : Int × Int) : Array Value := #[.int .i64 x.1, .int .i64 x.2]
/-- The iterator's word, in the world at hand. -/
theorem BusP.seq {l : List Sq} {w w' : World} {B : Nat} {v : Value} (hbx : Boxed w' B TSl v) (hge : w.heap.size ≤ B) (ho : w'.ownsRow w.heap.size TSp 3 v l.length (sqC l)) (n : Nat) (hn : 1 ≤ n) (X : List Nat) (hX : ∀ k ∈ X, k < w.heap.size ∨ w'.heap.size ≤ k) {W : World} (hb : Below w'.heap.size w' W) (hl : l.length ≤ 1000000) :
    SeqA pqV n 33 #[.pointer (some ⟨B, 0, none⟩)] X (busyQ l) W := by
  have hlt := hbx.lt
  refine busy_seq n hn X w.heap.size B v l W hl ⟨(hb.block B hlt).trans hbx, (Kept.of [] hb).row ho (by simp), fun hm => ?_, fun g hg hm => ?_⟩
  · have := hX B hm; omega
  · have := ho.lt g hg
    have := hX g hm
    omega
attribute [local go_sem] Oper.semAt_some
set_option maxRecDepth 100000 in
set_option maxHeartbeats 4000000 in
theorem awake_any (w : World) : Calls Try.prog 4 #[] w (OkW w) := by
  have ba : Below w.heap.size w (w.alloc (.cells #[.int .i64 0, .int .i64 0, .int .i64 2, .int .i64 1, .int .i64 2, .int .i64 3, .int .i64 0, .int .i64 5, .int .i64 6] TSp)) := (Below.refl _ _).alloc (Nat.le_refl _) _
  have KB := Lib.hid (busy_any _ (exQ_row w) (by decide))
  have HBA := Lib.hid ba
  obtain ⟨W1, hW1⟩ : ∃ W1, w.alloc (.cells #[.int .i64 0, .int .i64 0, .int .i64 2, .int .i64 1, .int .i64 2, .int .i64 3, .int .i64 0, .int .i64 5, .int .i64 6] TSp) = W1 := ⟨_, rfl⟩
  rw [hW1] at KB HBA
  have HW1 := Lib.hid hW1
  have hfn := run_eql_seq2
  clear ba hW1
  refine (callsIn_wide (n := 9)).1 ?_
  refine callsIn_of_wp_marks Try.func4 rfl trivial ?_ rfl
  simp only [Try.ntmps4, List.size_toArray, List.length_cons, List.length_nil, Nat.reduceAdd, Nat.reduceSub, Array.replicate_succ, Array.replicate_zero, List.push_toArray, List.append_toArray, List.nil_append, List.cons_append]
  gi_wp2_with (refine ⟨trivial, ?_⟩; gi_at_call 11; rw [HW1.out]; refine (callsIn_wide.2 KB.out).mono ?_; rintro e w2 ⟨B, v, rfl, hbx, hge, ho, hb⟩; have HBX := Lib.hid hbx; have HGE := Lib.hid hge; have HO := Lib.hid ho; have HB := Lib.hid hb; clear hbx hge ho hb)
  clear hfn KB HW1
  have X0 := Lib.hid (((Bx.nil w).later HBA.out).later HB.out)
  have X1 := Lib.hid (X0.out.new T64 (.int .i64 0))
  have HB3 := Lib.hid (show Below w2.heap.size w2 (w2.alloc (.cells #[.int .i64 0] T64)) from (Below.refl _ _).alloc (Nat.le_refl _) _)
  obtain ⟨bq, hbq⟩ : ∃ bq, w2.heap.size = bq := ⟨_, rfl⟩
  obtain ⟨W3, hW3⟩ : ∃ W3, w2.alloc (.cells #[.int .i64 0] T64) = W3 := ⟨_, rfl⟩
  have SQ := BusP.seq HBX.out HGE.out HO.out (9 - 1) (by omega) [bq] (by simp; omega) HB3.out (by decide)
  rw [hW3, exQ_busy] at SQ
  rw [hW3, hbq] at X1
  rw [hW3] at HB3
  have SQ := Lib.hid SQ
  simp only [hW3, hbq]
  clear hW3 hbq X0 HBX HGE HO
  have HSZ := Lib.hid (X1.out.b.size)
  refine wpIn_named fun fr hfr => ?_
  refine rangeA (vals := pqV) (gf := 33) (lb := #[.pointer (some ⟨B, 0, none⟩)]) (by rw [hfr]; rfl) (enters_of Try.func33 (by kernel_rfl) rfl)
    SQ.out (Below.refl _ _) (fun x => rfl)
    (fun pre V => Bx w [(bq, T64, .int .i64 (pre.foldl (fun n x => 100 * n + 10 * x.1 + x.2) 0))] V) (fun _ _ _ => False)
    (fun pre X Y row h hg hr => h.own hg hr HSZ.out) (fun c s X Y row h _ _ => h) X1.out
    (fun x => { tmps := (((fr.tmps.setIfInBounds 13 (.int .i64 x.1)).setIfInBounds 14 (.int .i64 x.2)).setIfInBounds 3 (.int .i64 x.1)).setIfInBounds 4 (.int .i64 x.2), defers := [] })
    ?assign ?body ?done ?stop
  case assign =>
    intro l2 x V K hK
    subst hfr
    gi_wp2
    exact hK
  case body =>
    intro l2 pre x r V hS hL
    subst hfr
    have cb := hS.cell (List.mem_singleton.2 rfl)
    have fb := hS.fz (List.mem_singleton.2 rfl)
    have SE := Lib.hid (fun u => hS.set (bs' := [(bq, T64, u)]) u (List.mem_singleton.2 rfl) (by intro p hp; exact .inl (List.mem_singleton.1 hp)))
    clear hS
    rcases pre with _ | ⟨p0, _ | ⟨p1, q⟩⟩
    · simp at hL
      obtain ⟨rfl, -⟩ := hL
      dsimp only [List.setIfInBounds_toArray, List.set_cons_succ, List.set_cons_zero]
      simp only [List.foldl_nil] at cb
      gi_wp2
      refine ⟨(KeepsOthers.setCell _ _ _).from _, KeepC.kept ((Kept.refl _ _).set _ _ _ (by simp)), ?_⟩
      exact SE.out _
    · simp at hL
      obtain ⟨rfl, rfl, -⟩ := hL
      dsimp only [List.setIfInBounds_toArray, List.set_cons_succ, List.set_cons_zero]
      simp [List.foldl] at cb
      gi_wp2
      refine ⟨(KeepsOthers.setCell _ _ _).from _, KeepC.kept ((Kept.refl _ _).set _ _ _ (by simp)), ?_⟩
      exact SE.out _
    · simp at hL
  case done =>
    rintro D V hD hS hK
    subst hfr
    have cb := hS.cell (List.mem_singleton.2 rfl)
    simp [List.foldl] at cb
    have HSb := Lib.hid hS.b
    clear hS
    gi_wp2
    refine ⟨by simp, .inl ⟨_, _, rfl, run_takeDeferred hK, ?_⟩⟩
    exact ⟨.bool true, by simp [results, Try.f4, go_sem], rfl, HSb.out.trans (belowK_b (w := w) (Nat.le_refl _) V D _ _ (by have := HSZ.out; omega) hK rfl rfl)⟩
  case stop =>
    rintro D c pre x r V hD hL h hK
    exact h.elim
end Go.Proofs.Ytngmaiiibinkaaa
/- trace.Long. -/
namespace Go.Proofs.Ytngmaiiibinkaaa
open Go.RowKit Go.Shelf
set_option linter.unusedVariables false
set_option linter.unusedSimpArgs false
def lstep (n : Int) (x : Int × Int) : Int := wrap64 (n + wrap64 (x.2 - x.1))
theorem lstep_two (n a b : Int) : wrap64 (wrap64 (n + b) - a) = lstep n (a, b) := by
  unfold lstep wrap64
  dsimp only
  omega
attribute [local go_sem] Oper.semAt_some
set_option maxRecDepth 100000 in
set_option maxHeartbeats 4000000 in
theorem long_any {A : Option Addr} {cap : Nat} {l : List Sq} (w : World) (h : SqR w A cap l) (hl : l.length ≤ 1000000) : Calls Try.prog 30 #[.slice A l.length cap] w (Told (.int .i64 ((busyQ l).foldl lstep 0)) w) := by
  have ba : Below w.heap.size w (w.alloc (.cells #[.int .i64 0] T64)) := (Below.refl _ _).alloc (Nat.le_refl _) _
  have hX0 := (Bx.nil w).new T64 (.int .i64 0)
  obtain ⟨bq, hbq⟩ : ∃ bq, w.heap.size = bq := ⟨_, rfl⟩
  obtain ⟨W1, hW1⟩ : ∃ W1, w.alloc (.cells #[.int .i64 0] T64) = W1 := ⟨_, rfl⟩
  have hsz : bq < W1.heap.size := by rw [← hW1]; simp; omega
  rw [hW1] at hX0
  rw [hbq] at hX0
  have cb := hX0.cell (List.mem_singleton.2 rfl)
  have fb := hX0.fz (List.mem_singleton.2 rfl)
  have hX1 := hX0.set (bs' := [(bq, T64, .int .i64 0)]) (.int .i64 0) (List.mem_singleton.2 rfl) (by intro p hp; exact .inl (List.mem_singleton.1 hp))
  obtain ⟨W2, hW2⟩ : ∃ W2, W1.setCell ⟨bq, 0, none⟩ (.int .i64 0) = W2 := ⟨_, rfl⟩
  rw [hW2] at hX1
  have hsz2 : bq < W2.heap.size := (hX1.bx _ (List.mem_singleton.2 rfl)).lt
  have KB := Lib.hid (busy_any _ (h.later hX1.b) hl)
  have X1 := Lib.hid hX1
  have HSZ1 := Lib.hid hsz2
  have HBQ := Lib.hid hbq
  have HL := Lib.hid hl
  obtain ⟨m, hm⟩ : ∃ m, l.length = m := ⟨_, rfl⟩
  rw [hm] at KB ⊢
  clear ba hX0 hX1 hsz hsz2 h hl hm
  refine (callsIn_wide (n := 9)).1 ?_
  refine callsIn_of_wp_marks Try.func30 rfl trivial ?_ rfl
  simp only [Try.ntmps30, List.size_toArray, List.length_cons, List.length_nil, Nat.reduceAdd, Nat.reduceSub, Array.replicate_succ, Array.replicate_zero, List.push_toArray, List.append_toArray, List.nil_append, List.cons_append]
  gi_wp2_with (refine ⟨trivial, ?_⟩; gi_at_call 11; refine (callsIn_wide.2 KB.out).mono ?_; rintro e w3 ⟨B, v, rfl, hbx, hge, ho, hb⟩; have HBX := Lib.hid hbx; have HGE := Lib.hid hge; have HO := Lib.hid ho; have HB := Lib.hid hb; clear hbx hge ho hb)
  clear cb fb hW1 hW2 hbq KB
  have X2 := Lib.hid (X1.out.later HB.out)
  have SQ := Lib.hid (BusP.seq HBX.out HGE.out HO.out (9 - 1) (by omega) [bq] (by have := HSZ1.out; simp; omega) (Below.refl _ w3) HL.out)
  have HSZ := Lib.hid (X2.out.b.size)
  clear X1 HBX HGE HO HSZ1
  refine wpIn_named fun fr hfr => ?_
  refine rangeA (vals := pqV) (gf := 33) (lb := #[.pointer (some ⟨B, 0, none⟩)]) (by rw [hfr]; rfl) (enters_of Try.func33 (by kernel_rfl) rfl)
    SQ.out (Below.refl _ _) (fun x => rfl)
    (fun pre V => Bx w [(bq, T64, .int .i64 (pre.foldl lstep 0))] V) (fun _ _ _ => False)
    (fun pre X Y row h hg hr => h.own hg hr HSZ.out) (fun c s X Y row h _ _ => h) X2.out
    (fun x => { tmps := (((fr.tmps.setIfInBounds 8 (.int .i64 x.1)).setIfInBounds 9 (.int .i64 x.2)).setIfInBounds 4 (.int .i64 x.1)).setIfInBounds 5 (.int .i64 x.2), defers := [] })
    ?assign ?body ?done ?stop
  case assign =>
    intro l2 x V K hK
    subst hfr
    gi_wp2
    exact hK
  case body =>
    intro l2 pre x r V hS hL
    subst hfr
    have cb := hS.cell (List.mem_singleton.2 rfl)
    have fb := hS.fz (List.mem_singleton.2 rfl)
    have SE := Lib.hid (fun u => hS.set (bs' := [(bq, T64, u)]) u (List.mem_singleton.2 rfl) (by intro p hp; exact .inl (List.mem_singleton.1 hp)))
    have hfo : (pre ++ [x]).foldl lstep 0 = lstep (pre.foldl lstep 0) x := by rw [List.foldl_append]; rfl
    clear hS hL
    obtain ⟨S, hS⟩ : ∃ S, pre.foldl lstep 0 = S := ⟨_, rfl⟩
    rw [hS] at cb hfo
    have HFO := Lib.hid hfo
    clear hS hfo
    dsimp only [List.setIfInBounds_toArray, List.set_cons_succ, List.set_cons_zero]
    gi_wp2
    refine ⟨(KeepsOthers.setCell _ _ _).from _, KeepC.kept ((Kept.refl _ _).set _ _ _ (by simp)), ?_⟩
    show Bx w [(bq, T64, .int .i64 ((pre ++ [x]).foldl lstep 0))] _
    rw [HFO.out]
    exact SE.out _
  case done =>
    rintro D V hD hS hK
    subst hfr
    have cb := hS.cell (List.mem_singleton.2 rfl)
    have HSb := Lib.hid hS.b
    clear hS
    gi_wp2
    refine ⟨by simp, .inl ⟨_, _, rfl, run_takeDeferred hK, ?_⟩⟩
    exact ⟨.int .i64 ((busyQ l).foldl lstep 0), by simp [results, Try.f30, go_sem], rfl, HSb.out.trans (belowK_b (w := w) (Nat.le_refl _) V D _ _ (by have := HSZ.out; omega) hK rfl rfl)⟩
  case stop =>
    rintro D c pre x r V hD hL h hK
    exact h.elim
end Go.Proofs.Ytngmaiiibinkaaa
/- The law's tells. -/
namespace Go.Proofs.Ytngmaiiibinkaaa
open Go.RowKit Go.Shelf
set_option linter.unusedVariables false
set_option linter.unusedSimpArgs false
abbrev TBo : TypeId := 4
attribute [local go_sem] Oper.semAt_some
attribute [local go_sem ↓] Go.wp_at_zero Go.wp_at_succ
/-- What tells is asked of. -/
structure TelH (w : World) (T R E S : Option Addr) (tc rc ec sc : Nat) (ts : List Ts) (js : List Fv) (en : List Int) (sp : List Sq) : Prop where
  row : Row w T tc ts
  jobs : FRow w R rc js
  ends : CRow w E ec en
  sps : SqR w S sc sp
  ed : EdH js sp
  f0 : ∀ x ∈ sp, 0 ≤ x.f
  rs : RsH js en
set_option maxRecDepth 100000 in
set_option maxHeartbeats 16000000 in
theorem tells_any {T R E S : Option Addr} {tc rc ec sc : Nat} {ts : List Ts} {js : List Fv} {en : List Int} {sp : List Sq} (w : World) (H : TelH w T R E S tc rc ec sc ts js en sp) :
    Calls Try.prog 9 #[.slice T ts.length tc, .slice R js.length rc, .slice E en.length ec, .slice S sp.length sc] w (Told (.bool true) w) := by
  obtain ⟨n, hn⟩ : ∃ n, js.length = n := ⟨_, rfl⟩
  obtain ⟨m, hm⟩ : ∃ m, sp.length = m := ⟨_, rfl⟩
  obtain ⟨p, hp⟩ : ∃ p, ts.length = p := ⟨_, rfl⟩
  obtain ⟨q, hq⟩ : ∃ q, en.length = q := ⟨_, rfl⟩
  have hn1 := H.ed.fj
  have hm1 := H.ed.fl
  have jle := H.jobs.le
  have jmx := H.jobs.mx
  rw [hn] at hn1 jle
  rw [hm] at hm1
  have K1 := fun W (hb : Below w.heap.size w W) => ends_any W (H.jobs.later hb) (H.sps.later hb) H.ed
  have K2 := fun W (hb : Below w.heap.size w W) => rends_any W (H.jobs.later hb) (H.sps.later hb) H.ed H.f0
  have K3 := fun W (hb : Below w.heap.size w W) => misses_any W (H.row.later hb) (H.jobs.later hb) (H.ends.later hb) H.rs (by rw [hn]; omega)
  have K4 := fun W (hb : Below w.heap.size w W) => rmisses_any W (H.row.later hb) (H.jobs.later hb) (H.ends.later hb) H.rs (by rw [hn]; omega)
  have K5 := fun i W (hb : Below w.heap.size w W) => resp_any i W (H.jobs.later hb) (H.ends.later hb) H.rs
  have K6 := fun i W (hb : Below w.heap.size w W) => rresp_any i W (H.jobs.later hb) (H.ends.later hb) H.rs
  have K7 := fun i W (hb : Below w.heap.size w W) => worst_any i W (H.jobs.later hb) (H.ends.later hb) H.rs
  have K8 := fun i W (hb : Below w.heap.size w W) => rworst_any i W (H.jobs.later hb) (H.ends.later hb) H.rs
  have K9 := fun W (hb : Below w.heap.size w W) => busy_any W (H.sps.later hb) (by rw [hm]; omega)
  have KA := fun W (hb : Below w.heap.size w W) => rbusy_any W (H.sps.later hb) (by rw [hm]; omega)
  have KB := fun W (hb : Below w.heap.size w W) => long_any W (H.sps.later hb) (by rw [hm]; omega)
  have HE := Lib.hid (show (endsQ js sp).length = n by rw [endsQ_len, hn])
  unfold NumP at K2
  unfold EndP at K1
  rw [HE.out] at K2
  rw [hn, hm] at K1 K2
  rw [hp, hn, hq] at K3 K4
  rw [hn, hq] at K5 K6 K7 K8
  rw [hm] at K9 KA KB
  rw [hn, hm, hp, hq]
  have K1 := Lib.hid K1
  have K2 := Lib.hid K2
  have K3 := Lib.hid K3
  have K4 := Lib.hid K4
  have K5 := Lib.hid K5
  have K6 := Lib.hid K6
  have K7 := Lib.hid K7
  have K8 := Lib.hid K8
  have K9 := Lib.hid K9
  have KA := Lib.hid KA
  have KB := Lib.hid KB
  have HM := Lib.hid (show sp.length ≤ 1000000 by omega)
  clear H hn hm hp hq
  refine (callsIn_wide (n := 9)).1 ?_
  refine callsIn_of_wp_marks Try.func9 rfl trivial ?_ rfl
  simp only [Try.ntmps9, List.size_toArray, List.length_cons, List.length_nil, Nat.reduceAdd, Nat.reduceSub, Array.replicate_succ, Array.replicate_zero, List.push_toArray, List.append_toArray, List.nil_append, List.cons_append]
  refine wpIn_wide.2 ?_
  go_upto_region 1 with (fail)
  have X0 := Lib.hid ((Bx.nil w).new TBo (.bool false))
  obtain ⟨b8, hb8⟩ : ∃ b8, w.heap.size = b8 := ⟨_, rfl⟩
  obtain ⟨W0, hW0⟩ : ∃ W0, w.alloc (.cells #[.bool false] TBo) = W0 := ⟨_, rfl⟩
  rw [hW0, hb8] at X0
  have HB8 := Lib.hid hb8
  rw [hW0, hb8]
  clear hW0 hb8
  go_upto_region 2 with (first
    | (go_at_call 20; (with_reducible refine (K1.out _ X0.out.b).mono ?_); rintro e w1 ⟨g1, rfl, hc, h1⟩; have HC1 := Lib.hid hc; have H1 := Lib.hid h1; have X1 := Lib.hid (X0.out.later h1); clear hc h1)
    | (go_at_call 21; (with_reducible refine (K2.out _ X1.out.b).mono ?_); rintro e w2 ⟨A2, c2, rfl, hc, h2⟩; have HC2 := Lib.hid hc; have HC1b := Lib.hid (HC1.out.later h2); have X2 := Lib.hid (X1.out.later h2); clear hc h2)
    | (go_at_call 19; (with_reducible refine (sameT_any _ HC1b.out HC2.out HE.out).mono ?_); rintro e w3 ⟨rfl, h3⟩; have X3 := Lib.hid (X2.out.later h3); clear h3))
  clear K1 K2 HC1 HC2 HC1b H1 X0 X1 X2 HE
  go_upto_region 5 with (first
    | (go_at_call 23; (with_reducible refine (K3.out _ X3.out.b).mono ?_); rintro e w4 ⟨A4, c4, rfl, hc, h4⟩; have HC4 := Lib.hid hc; have X4 := Lib.hid (X3.out.later h4); clear hc h4)
    | (go_at_call 24; (with_reducible refine (K4.out _ X4.out.b).mono ?_); rintro e w5 ⟨A5, c5, rfl, hc, h5⟩; have HC5 := Lib.hid hc; have HC4b := Lib.hid (HC4.out.later h5); have X5 := Lib.hid (X4.out.later h5); clear hc h5)
    | (go_at_call 22; (with_reducible refine (same_any _ HC4b.out HC5.out (by simp [natL])).mono ?_); rintro e w6 ⟨rfl, h6⟩; have X6 := Lib.hid (X5.out.later h6); clear h6))
  clear K3 K4 HC4 HC4b HC5 X3 X4 X5
  go_upto_region 6 with (fail)
  go_loopw [11] (fun i wr => ∃ k : Nat, k ≤ n + 3 ∧ i = .int .i64 ((k : Int) - 1) ∧ Hid (Bx w [(b8, TBo, .bool false)] wr)) (fun i _ => n + 3 - (intOf i + 1).toNat)
  case atStart => exact ⟨0, Nat.zero_le _, rfl, X6⟩
  case round =>
    obtain ⟨k, hk, rfl, hX⟩ := hrel
    obtain ⟨i, hi⟩ : ∃ i : Int, (k : Int) - 1 = i := ⟨_, rfl⟩
    rw [hi]
    have HI := Lib.hid hi
    have hwn : wrap64 ((n : Int) + 2) = (n : Int) + 2 := IntWalk.wrap64_in _ (by omega)
    by_cases hlt : k < n + 3
    · have t1 : decide (i < (n : Int) + 2) = true := decide_eq_true (by omega)
      have t1' : i < (n : Int) + 2 := by omega
      have hw1 : wrap64 (i + 1) = ((k + 1 : Nat) : Int) - 1 := by rw [IntWalk.wrap64_in _ (by omega)]; omega
      have R5 := fun W (hb : Below w.heap.size w W) => K5.out i W hb
      have R6 := fun W (hb : Below w.heap.size w W) => K6.out i W hb
      have R7 := fun W (hb : Below w.heap.size w W) => K7.out i W hb
      have R8 := fun W (hb : Below w.heap.size w W) => K8.out i W hb
      unfold respV at R5
      unfold gotV gtA at R6
      unfold worV at R7
      unfold gotW gtA at R8
      obtain ⟨rn, hrn⟩ : ∃ rn, (respS js en i).getD 0 = rn := ⟨_, rfl⟩
      obtain ⟨rb, hrb⟩ : ∃ rb, (respS js en i).isSome = rb := ⟨_, rfl⟩
      obtain ⟨wn, hwn2⟩ : ∃ wn, ((worstS js en i n).map (·.1)).getD 0 = wn := ⟨_, rfl⟩
      obtain ⟨wp, hwp⟩ : ∃ wp, ((worstS js en i n).map (·.2)).getD 0 = wp := ⟨_, rfl⟩
      obtain ⟨wb, hwb⟩ : ∃ wb, (worstS js en i n).isSome = wb := ⟨_, rfl⟩
      rw [hrn, hrb] at R5 R6
      rw [hwn2, hwp, hwb] at R7 R8
      have R5 := Lib.hid R5
      have R6 := Lib.hid R6
      have R7 := Lib.hid R7
      have R8 := Lib.hid R8
      have q1 : (rn != rn) = false := by simp
      have q2 : (rb != rb) = false := by simp
      have q3 : (wn != wn) = false := by simp
      have q4 : ((wp : Int) != (wp : Int)) = false := by simp
      have q5 : (wb != wb) = false := by simp
      clear hrn hrb hwn2 hwp hwb hi
      go_upto_region 10 with (first
        | (go_at_call 25; (with_reducible refine (R5.out _ hX.out.b).mono ?_); rintro e w7 ⟨rfl, mq, rfl⟩; have X7 := Lib.hid (hX.out.later (below_drewN2 wr mq)))
        | (go_at_call 26; (with_reducible refine (R6.out _ X7.out.b).mono ?_); rintro e w8 ⟨rfl, h8⟩; have X8 := Lib.hid (X7.out.later h8); clear h8))
      have HG8 := Lib.hid (heap_alloc_new w8 (.cells #[.int .i64 rn, .int .i64 0, .bool rb] TGt))
      have X9 := Lib.hid (X8.out.later ((Below.refl _ _).alloc (Nat.le_refl _) (.cells #[.int .i64 rn, .int .i64 0, .bool rb] TGt)))
      obtain ⟨ga, hga⟩ : ∃ ga, w8.heap.size = ga := ⟨_, rfl⟩
      rw [hga] at HG8 ⊢
      clear hga X7 X8
      generalize w8.alloc (.cells #[.int .i64 rn, .int .i64 0, .bool rb] TGt) = W9 at *
      go_upto_region 12 with (first
        | (go_at_call 27; (with_reducible refine (R7.out _ X9.out.b).mono ?_); rintro e w10 ⟨rfl, h10⟩; have X10 := Lib.hid (X9.out.later h10); have HG10 := Lib.hid ((h10.block _ (Array.getElem?_eq_some_iff.1 HG8.out).1).trans HG8.out); clear h10)
        | (go_at_call 28; (with_reducible refine (R8.out _ X10.out.b).mono ?_); rintro e w11 ⟨rfl, h11⟩; have X11 := Lib.hid (X10.out.later h11); have HG11 := Lib.hid ((h11.block _ (Array.getElem?_eq_some_iff.1 HG10.out).1).trans HG10.out); clear h11))
      have bb : Below w11.heap.size w11 (w11.alloc (.cells #[.int .i64 wn, .int .i64 (wp : Int), .bool wb] TGt)) := (Below.refl _ _).alloc (Nat.le_refl _) _
      have HH := Lib.hid (heap_alloc_new w11 (.cells #[.int .i64 wn, .int .i64 (wp : Int), .bool wb] TGt))
      have HG12 := Lib.hid ((bb.block _ (Array.getElem?_eq_some_iff.1 HG11.out).1).trans HG11.out)
      have X12 := Lib.hid (X11.out.later bb)
      obtain ⟨gb, hgb⟩ : ∃ gb, w11.heap.size = gb := ⟨_, rfl⟩
      rw [hgb] at HH ⊢
      clear hgb bb X9 X10 X11 HG8 HG10 HG11
      generalize w11.alloc (.cells #[.int .i64 wn, .int .i64 (wp : Int), .bool wb] TGt) = W12 at *
      obtain ⟨a0, a1, a2, af⟩ := gt_cells HG12.out
      obtain ⟨d0, d1, d2, df⟩ := gt_cells HH.out
      clear R5 R6 R7 R8
      go_wp2
      go_roundw
      case rel => exact ⟨k + 1, by omega, by first | rw [← hw1] | go_num, X12⟩
      case measure => have := HI.out; simp [intOf]; omega
    · obtain rfl : k = n + 3 := by omega
      obtain rfl : i = (n : Int) + 2 := by omega
      have hfn := run_eql_seq2
      go_upto_region 17 with (go_at_call 11; (with_reducible refine (K9.out _ hX.out.b).mono ?_); rintro e w7 ⟨B, v, rfl, hbx, hge, ho, hb⟩; have HBX := Lib.hid hbx; have HGE := Lib.hid hge; have HO := Lib.hid ho; have HB := Lib.hid hb; have X7 := Lib.hid (hX.out.later hb); clear hbx hge ho hb)
      have KA7 := KA.out _ X7.out.b
      unfold SpsP at KA7
      obtain ⟨L, hL⟩ : ∃ L, busyQ sp = L := ⟨_, rfl⟩
      rw [hL] at KA7
      have HL := Lib.hid hL
      obtain ⟨gl, hgl⟩ : ∃ gl, (L.map toP).length = gl := ⟨_, rfl⟩
      rw [hgl] at KA7
      have HGL := Lib.hid hgl
      have KA7 := Lib.hid KA7
      clear hfn hL hgl K5 K6 K7 K8 K9 KA hlt
      go_upto_region 18 with (go_at_call 29; (with_reducible refine KA7.out.mono ?_); rintro e w8 ⟨A8, c8, rfl, hS, h8⟩; have HS8 := Lib.hid hS; have HB78 := Lib.hid h8; have X8 := Lib.hid (X7.out.later h8); clear hS h8)
      have hle8 := HS8.out.le
      have hmx8 := HS8.out.mx
      rw [HGL.out] at hle8
      have Y1 := Lib.hid ((((Bx.nil w8).new TSl (.slice A8 gl c8)).new TIn (.int .i64 0)).new T64 (.int .i64 0))
      go_wp2
      rw [World.size_alloc, World.size_alloc] at Y1
      obtain ⟨W8, hW8⟩ : ∃ W8, (((w8.alloc (.cells #[.slice A8 gl c8] TSl)).alloc (.cells #[.int .i64 0] TIn)).alloc (.cells #[.int .i64 0] T64)) = W8 := ⟨_, rfl⟩
      obtain ⟨bq, hbq⟩ : ∃ bq, w8.heap.size = bq := ⟨_, rfl⟩
      rw [hW8, hbq] at Y1
      simp only [hW8, hbq]
      have HBQ := Lib.hid hbq
      have hs78 := HB78.out.size
      have SQ0 := BusP.seq HBX.out HGE.out HO.out (9 - 1) (by omega) [bq + 1, bq + 1 + 1] (by simp; omega) (bel_step HB78.out Y1.out.b) HM.out
      rw [HL.out] at SQ0
      have SQ := Lib.hid SQ0
      clear hW8 hbq SQ0 hs78 HBX HGE HO
      refine (wpIn_wide (n := 9)).1 ?_
      refine wpIn_named fun fr hfr => ?_
      refine rangeA (vals := pqV) (gf := 33) (lb := #[.pointer (some ⟨B, 0, none⟩)]) (by rw [hfr]; rfl) (enters_of Try.func33 (by kernel_rfl) rfl)
        SQ.out (Below.refl _ _) (fun x => rfl)
        (fun pre V => Bx w8 [(bq + 1 + 1, T64, .int .i64 (pre.foldl lstep 0)), (bq + 1, TIn, .int .i64 (pre.length : Int)), (bq, TSl, .slice A8 gl c8)] V) (fun _ _ _ => False)
        (fun pre X Y row h hg hr => h.own hg hr Y1.out.b.size) (fun c s X Y row h _ _ => h) Y1.out
        (fun x => { tmps := (((fr.tmps.setIfInBounds 112 (.int .i64 x.1)).setIfInBounds 113 (.int .i64 x.2)).setIfInBounds 23 (.int .i64 x.1)).setIfInBounds 24 (.int .i64 x.2), defers := [] })
        ?assign ?body ?done ?stop
      case assign =>
        intro l2 x V K hK
        subst hfr
        gi_wp2
        exact hK
      case body =>
        rintro l2 pre ⟨xa, xb⟩ r V hY hL
        subst hfr
        have hlt : pre.length < L.length := by rw [hL]; simp
        have hgl := HGL.out
        rw [List.length_map] at hgl
        have hxy : (L.map toP)[pre.length]? = some (toP (xa, xb)) := by rw [hL]; simp
        obtain ⟨bw, ow, y, rfl, hy, hbw, e0, e1, e2⟩ := (HS8.out.later hY.b).get (k := pre.length) (by rw [List.length_map]; exact hlt)
        obtain rfl : y = toP (xa, xb) := by rw [hxy] at hy; simpa using hy.symm
        have e1 : V.cell? ⟨bw, ow + pre.length * 3 + 1, none⟩ = some (.int .i64 xa) := e1
        have e2 : V.cell? ⟨bw, ow + pre.length * 3 + 2, none⟩ = some (.int .i64 xb) := e2
        have hfo : (pre ++ [(xa, xb)]).foldl lstep 0 = lstep (pre.foldl lstep 0) (xa, xb) := by rw [List.foldl_append]; rfl
        have hln : (pre ++ [(xa, xb)]).length = pre.length + 1 := by simp
        obtain ⟨pl, hpl⟩ : ∃ pl, pre.length = pl := ⟨_, rfl⟩
        obtain ⟨S0, hS0⟩ : ∃ S0, pre.foldl lstep 0 = S0 := ⟨_, rfl⟩
        rw [hpl] at hlt hY e1 e2 hln
        rw [hS0] at hY hfo
        rw [hgl] at hlt
        have t0 : ¬ gl ≤ pl := by omega
        have t0i : (pl : Int) < (gl : Int) := by omega
        have t0j : (0 : Int) ≤ (pl : Int) := by omega
        obtain ⟨S1, hS1⟩ : ∃ S1, lstep S0 (xa, xb) = S1 := ⟨_, rfl⟩
        have hw1 : wrap64 (wrap64 (S0 + xb) - xa) = S1 := by rw [lstep_two, hS1]
        have hw2 : wrap64 ((pl : Int) + 1) = (pl : Int) + 1 := IntWalk.wrap64_in _ (by omega)
        have c2l := hY.cell (by simp : (bq + 1 + 1, T64, .int .i64 S0) ∈ _)
        have f2l := hY.fz (by simp : (bq + 1 + 1, T64, .int .i64 S0) ∈ _)
        have c1k := hY.cell (by simp : (bq + 1, TIn, .int .i64 (pl : Int)) ∈ _)
        have f1k := hY.fz (by simp : (bq + 1, TIn, .int .i64 (pl : Int)) ∈ _)
        have c0w := hY.cell (by simp : (bq, TSl, .slice (some ⟨bw, ow, none⟩) gl c8) ∈ _)
        have E1 := hY.set (bs' := [(bq + 1 + 1, T64, .int .i64 S1), (bq + 1, TIn, .int .i64 (pl : Int)), (bq, TSl, .slice (some ⟨bw, ow, none⟩) gl c8)]) (.int .i64 S1) (by simp : (bq + 1 + 1, T64, .int .i64 S0) ∈ _) (by
          intro p hp; simp at hp; rcases hp with rfl | rfl | rfl
          · exact .inl rfl
          all_goals exact .inr ⟨by simp, by simp <;> omega⟩)
        have c1k' := E1.cell (by simp : (bq + 1, TIn, .int .i64 (pl : Int)) ∈ _)
        have f1k' := E1.fz (by simp : (bq + 1, TIn, .int .i64 (pl : Int)) ∈ _)
        have SE := Lib.hid (E1.set (bs' := [(bq + 1 + 1, T64, .int .i64 ((pre ++ [(xa, xb)]).foldl lstep 0)), (bq + 1, TIn, .int .i64 ((pre ++ [(xa, xb)]).length : Int)), (bq, TSl, .slice (some ⟨bw, ow, none⟩) gl c8)]) (.int .i64 ((pl : Int) + 1)) (by simp : (bq + 1, TIn, .int .i64 (pl : Int)) ∈ _) (by
          rw [hfo, hS1, hln]
          intro p hp; simp at hp; rcases hp with rfl | rfl | rfl
          · exact .inr ⟨by simp, by simp⟩
          · exact .inl rfl
          · exact .inr ⟨by simp, by simp⟩))
        have t1 : (xa != xa) = false := by simp
        have t2 : (xb != xb) = false := by simp
        clear hY hL E1 hfo hln hpl hS0 hS1 hlt hgl hxy hy hbw e0
        simp only [List.setIfInBounds_toArray, List.set_cons_succ, List.set_cons_zero]
        gi_wp2
        refine ⟨((KeepsOthers.setCell _ _ _).trans (KeepsOthers.setCell _ _ _)).from _, KeepC.kept (((Kept.refl _ _).set _ _ _ (by simp)).set _ _ _ (by simp)), SE.out⟩
      case done =>
        rintro D V hD hY hK
        subst hfr
        dsimp only
        have hll : L.length = gl := by have := HGL.out; rw [List.length_map] at this; exact this
        rw [hll] at hY
        obtain ⟨LL, hLL⟩ : ∃ LL, L.foldl lstep 0 = LL := ⟨_, rfl⟩
        have KBV := fun W (hb : Below w.heap.size w W) => KB.out W hb
        rw [HL.out, hLL] at KBV
        rw [hLL] at hY
        have X9 := X8.out.later hY.b
        have m8 : (b8, TBo, Value.bool false) ∈ [(b8, TBo, Value.bool false)] := by simp
        have c8b := X9.cell m8
        have f8b := X9.fz m8
        have c2l := hY.cell (by simp : (bq + 1 + 1, T64, .int .i64 LL) ∈ _)
        have c1k := hY.cell (by simp : (bq + 1, TIn, .int .i64 (gl : Int)) ∈ _)
        have c0w := hY.cell (by simp : (bq, TSl, .slice A8 gl c8) ∈ _)
        have hb8lt := (X8.out.bx _ m8).lt
        dsimp only at hb8lt
        have HDD := Lib.hid (show b8 ≠ D ∧ w.heap.size ≤ D by
          have h1 := Y1.out.b.size
          have h2 := X8.out.b.size
          omega)
        have HX9 := Lib.hid X9
        have HYY := Lib.hid hY
        have HK := Lib.hid hK
        have KBV := Lib.hid KBV
        clear hY hll hLL m8 X9 hK hb8lt
        gi_wp2
        have HBD := Lib.hid (show Below V.heap.size V V.drew from ⟨rfl, rfl, rfl, Nat.le_refl _, fun _ _ => rfl⟩)
        have XD := Lib.hid (HX9.out.later HBD.out)
        have tg : ((gl : Int) == (gl : Int)) = true := by simp
        have tl : (LL == LL) = true := by simp
        go_upto_region 27 with (fail)
        refine wp_region_noPanic ?_
        go_region_law (go_simp; go_at_call 30; (with_reducible refine (KBV.out _ XD.out.b).mono ?_); rintro e wa ⟨rfl, ha⟩; have c2l := cells_below ha _ _ _ c2l; have XA := Lib.hid (XD.out.later ha); have HA := Lib.hid ha; have c8b := XA.out.cell (by simp : (b8, TBo, Value.bool false) ∈ [(b8, TBo, Value.bool false)]); have f8b := XA.out.fz (by simp : (b8, TBo, Value.bool false) ∈ [(b8, TBo, Value.bool false)]); clear ha)
        all_goals
          refine NoPanic.normal ?_
          have hm8 : (b8, TBo, Value.bool false) ∈ [(b8, TBo, Value.bool false)] := by simp
          have hbx := XA.out.set (bs' := [(b8, TBo, .bool true)]) (.bool true) hm8 (by intro p hp; exact .inl (List.mem_singleton.1 hp))
          have hk1 : (wa.setCell ⟨b8, 0, none⟩ (.bool true)).heap[D]? = some (.deferred (some [])) := by
            rw [Below.heap_setCell _ _ _ _ (fun e => HDD.out.1 e.symm), HA.out.block D (Array.getElem?_eq_some_iff.1 HK.out).1]
            exact HK.out
          have HBX9 := Lib.hid hbx
          have HK1 := Lib.hid hk1
          clear hbx hk1 hm8
          go_wp2
          refine ⟨by simp, .inl ⟨_, _, rfl, run_takeDeferred HK1.out, ?_⟩⟩
          have hc : ((wa.setCell ⟨b8, 0, none⟩ (.bool true)).putObj D (.deferred none)).cell? ⟨b8, 0, none⟩ = some (.bool true) := by
            rw [← HBX9.out.cell (List.mem_singleton.2 rfl)]; simp [World.cell?, World.putObj_heap_other HDD.out.1]
          exact ⟨.bool true, by simp [results, Try.f9, go_sem, hc], rfl, HBX9.out.b.trans (belowK_b (w := w) (Nat.le_refl _) _ D _ _ HDD.out.2 HK1.out rfl rfl)⟩
      case stop =>
        rintro D c pre x r V hD hL h hK
        exact h.elim
end Go.Proofs.Ytngmaiiibinkaaa
/- The law's few: at most twelve spans, of few jobs, with low ticks. -/
namespace Go.Proofs.Ytngmaiiibinkaaa
open Go.RowKit Go.Shelf
set_option linter.unusedVariables false
set_option linter.unusedSimpArgs false
attribute [local go_sem ↓] Go.wp_at_zero Go.wp_at_succ
def lowQ (x : Sq) : Sq := ⟨restI x.j 7 - 1, restI x.f 40, restI x.t 40⟩
def fewQ (l : List Sq) : List Sq := (l.take 12).map lowQ
theorem lowQ_bd (x : Sq) : -1 ≤ (lowQ x).j ∧ (lowQ x).j ≤ 5 ∧ 0 ≤ (lowQ x).f ∧ (lowQ x).f < 40 ∧ 0 ≤ (lowQ x).t ∧ (lowQ x).t < 40 := by
  have h1 := restI_bd x.j 7 (by omega) (by omega)
  have h2 := restI_bd x.f 40 (by omega) (by omega)
  have h3 := restI_bd x.t 40 (by omega) (by omega)
  simp only [lowQ]
  omega
theorem fewQ_len (l : List Sq) : (fewQ l).length ≤ 12 := by simp [fewQ]; omega
theorem fewQ_bd {l : List Sq} : ∀ x ∈ fewQ l, -1 ≤ x.j ∧ x.j ≤ 5 ∧ 0 ≤ x.f ∧ x.f < 40 ∧ 0 ≤ x.t ∧ x.t < 40 := fun x hx => by
  obtain ⟨y, -, rfl⟩ := List.mem_map.1 hx
  exact lowQ_bd y
set_option maxRecDepth 100000 in
set_option maxHeartbeats 8000000 in
theorem few_any {A : Option Addr} {cap : Nat} {l : List Sq} (w : World) (h : SqR w A cap l) : Calls Try.prog 10 #[.slice A l.length cap] w (SpsP (fewQ l) w) := by
  obtain ⟨m, hm⟩ : ∃ m, l.length = m := ⟨_, rfl⟩
  have hle := h.le
  have hmx := h.mx
  rw [hm] at hle
  have PP := Lib.hid (fun v k wr (hk : ¬ (k < m ∧ k < 12)) (hx : XsS w v ((l.take k).map lowQ) wr) (hk2 : k ≤ 12) => show SpsP (fewQ l) w (.returned v) wr from by
    have e : l.take k = l.take 12 := by
      by_cases h2 : k = 12
      · rw [h2]
      · rw [List.take_of_length_le (by omega), List.take_of_length_le (by omega)]
    rw [e] at hx
    exact hx.done)
  have HS := Lib.hid h
  have HM := Lib.hid hm
  have HLN := Lib.hid (fun (k : Nat) (hk : k ≤ m) => show ((l.take k).map lowQ).length = k from by rw [List.length_map, List.length_take]; omega)
  rw [hm]
  clear h hm
  generalize hPP : SpsP (fewQ l) w = Post at *
  clear hPP
  go_enter Try.func10, Try.ntmps10
  go_wp2
  go_loopw [3, 4] (fun v i wr => ∃ k : Nat, k ≤ m ∧ k ≤ 12 ∧ i = .int .i64 (k : Int) ∧ Hid (XsS w v ((l.take k).map lowQ) wr)) (fun _ i _ => m - (intOf i).toNat)
  case atStart => exact ⟨0, Nat.zero_le _, Nat.zero_le _, rfl, Lib.hid (XsS.nil w)⟩
  case round =>
    obtain ⟨k, hk, hk2, rfl, hX⟩ := hrel
    by_cases hlt : k < m ∧ k < 12
    · obtain ⟨hk3, hk4⟩ := hlt
      obtain ⟨b, o, x, rfl, hx, hbl, a0, a1, a2⟩ := (HS.out.later hX.out.bel).get (k := k) (by rw [HM.out]; exact hk3)
      have k0 : (0 : Int) ≤ (k : Int) := by omega
      have k1 : (k : Int) < (m : Int) := by omega
      have t1 : decide ((k : Int) < (m : Int)) = true := decide_eq_true k1
      have t2 : decide ((k : Int) < 12) = true := decide_eq_true (by omega)
      have hwx := HS.out.wf x (List.mem_of_getElem? hx)
      have KX0 := fun W => rest_any x.j 7 W hwx.1 (by omega) (by omega)
      have hbd := lowQ_bd x
      have HT := Lib.hid (show (l.take (k + 1)).map lowQ = (l.take k).map lowQ ++ [lowQ x] by rw [List.take_add_one, hx, List.map_append]; rfl)
      obtain ⟨v', w7, hr1, hx7⟩ := hX.out.app (by rw [HLN.out k hk]; omega) (lowQ x) ⟨⟨by omega, by omega⟩, ⟨by omega, by omega⟩, ⟨by omega, by omega⟩⟩
      have hJ : IntKind.i64.wrap (restI x.j 7 - 1) = (lowQ x).j := IntWalk.i64_in _ (by simp only [lowQ] at hbd; omega)
      have hJ' : wrap64 (restI x.j 7 - 1) = (lowQ x).j := IntWalk.wrap64_in _ (by simp only [lowQ] at hbd; omega)
      have hF : (wrap64 (x.f.tmod 40 + 40)).tmod 40 = (lowQ x).f := rfl
      have hT : (wrap64 (x.t.tmod 40 + 40)).tmod 40 = (lowQ x).t := rfl
      obtain ⟨J, hJe⟩ : ∃ J, (lowQ x).j = J := ⟨_, rfl⟩
      obtain ⟨F, hFe⟩ : ∃ F, (lowQ x).f = F := ⟨_, rfl⟩
      obtain ⟨T, hTe⟩ : ∃ T, (lowQ x).t = T := ⟨_, rfl⟩
      obtain ⟨r, hr⟩ : ∃ r, restI x.j 7 = r := ⟨_, rfl⟩
      rw [hJe, hFe, hTe] at hr1
      rw [hJe] at hJ hJ'
      rw [hFe] at hF
      rw [hTe] at hT
      rw [hr] at KX0 hJ hJ'
      have KX := Lib.hid KX0
      have HR1 := Lib.hid hr1
      have HX7 := Lib.hid hx7
      clear hr1 hx7 hJe hFe hTe hr hwx hbd hx hbl KX0
      go_upto_region 7 with (fail)
      go_wp2_with (first
        | (go_at_call 31; (with_reducible refine (KX.out _).mono ?_); rintro e wy ⟨rfl, rfl⟩)
        | (at_builtin; go_loud (refine wpList_append_run rfl _ _ rfl rfl rfl HR1.out ?_)))
      go_roundw
      case rel => exact ⟨k + 1, by omega, by omega, by go_num, by rw [HT.out]; exact HX7⟩
      case measure => simp [intOf]; omega
    · by_cases h1 : k < m
      · obtain rfl : k = 12 := by omega
        have t1 : (12 : Int) < (m : Int) := by omega
        have HLT := Lib.hid hlt
        clear hlt h1
        go_wp2
        exact PP.out _ 12 _ HLT.out hX.out hk2
      · have HLT := Lib.hid hlt
        obtain rfl : k = m := by omega
        clear hlt h1
        go_wp2
        exact PP.out _ k _ HLT.out hX.out hk2
end Go.Proofs.Ytngmaiiibinkaaa
/- Spans, and the law's own pair of rows, that come in. -/
namespace Go.Proofs.Ytngmaiiibinkaaa
open Go.RowKit
set_option linter.unusedVariables false
set_option linter.unusedSimpArgs false
section
open Go.ChangeShapes Go.WideShapes Go.ChangeAt
variable {H : Type} {enc : TypeId × Value → H} {W : World} {base : Nat} {sp : Nat → Bool} {hd : Bool}
set_option maxRecDepth 100000 in
theorem read_n64 {fuel : Nat} {v : Value} {y : DataW H × List MemPlace} (h : DataW.trod enc Try.prog W base sp hd fuel 25 [v] = some y) :
    ∃ A cap l, v = .slice A l.length cap ∧ CRow W A cap l := by
  rcases DataW.trod_slice Try.underlying25 h with ⟨hcs, _⟩ | ⟨a, len, cap, elems, rest, n, _, hcs, _, _, hl', hm, hlen, hel, _, _⟩
  · obtain rfl : v = .slice none 0 0 := by simpa using hcs
    exact ⟨none, 0, [], rfl, CRow.nil _ _ (by omega)⟩
  · obtain rfl : v = .slice (some a) len cap := by simpa using hcs
    have c1 : Try.prog.cellsOf 2 = 1 := by kernel_rfl
    rw [c1] at hel
    unfold maxLen at hm
    rcases Nat.eq_zero_or_pos len with h0 | h0
    · subst h0
      exact ⟨_, cap, [], rfl, CRow.nil _ _ hm⟩
    have hsp := slice_spot hlen h0 (by omega) hel
    obtain ⟨ab, ao, asp⟩ := a
    obtain rfl : asp = none := by injection hsp
    clear hsp
    have key : ∀ i, i < len → ∃ x : Int, in64 x ∧ W.cell? ⟨ab, ao + i, none⟩ = some (.int .i64 x) := by
      intro i hi
      have h1 := hel i hi
      rw [List.getElem?_eq_getElem (by omega)] at h1
      obtain ⟨cl, hcs2, ht⟩ := Option.bind_eq_some_iff.1 h1
      obtain ⟨_, hcl, hat⟩ := World.cells?_some hcs2
      match cl, hcl, hat, ht with
      | [v0], _, hat, ht =>
        obtain ⟨z0, e0, _, w0⟩ := DataW.trod_int Try.underlying2 ht
        obtain rfl : v0 = .int .i64 z0 := by simpa using e0
        have := hat 0 (by simp)
        simp only [add_none, Nat.mul_one, Nat.add_zero] at this
        exact ⟨z0, in64_of w0, by simpa using this⟩
    obtain ⟨l, hl, hp⟩ := list_of len key
    subst hl
    refine ⟨some ⟨ab, ao, none⟩, cap, l, rfl, ⟨hl', hm, fun x hx => ?_, fun i x hx => ⟨ab, ao, rfl, (hp i x hx).2⟩⟩⟩
    obtain ⟨i, hi, rfl⟩ := List.getElem_of_mem hx
    exact (hp i _ (List.getElem?_eq_getElem hi)).1
set_option maxRecDepth 100000 in
theorem read_sps {fuel : Nat} {v : Value} {y : DataW H × List MemPlace} (h : DataW.trod enc Try.prog W base sp hd fuel 24 [v] = some y) :
    ∃ A cap l, v = .slice A l.length cap ∧ SqR W A cap l := by
  rcases DataW.trod_slice Try.underlying24 h with ⟨hcs, _⟩ | ⟨a, len, cap, elems, rest, n, _, hcs, _, _, hl', hm, hlen, hel, _, _⟩
  · obtain rfl : v = .slice none 0 0 := by simpa using hcs
    exact ⟨none, 0, [], rfl, SqR.nil _ _ (by omega)⟩
  · obtain rfl : v = .slice (some a) len cap := by simpa using hcs
    have c3 : Try.prog.cellsOf 44 = 3 := by kernel_rfl
    rw [c3] at hel
    unfold maxLen at hm
    rcases Nat.eq_zero_or_pos len with h0 | h0
    · subst h0
      exact ⟨_, cap, [], rfl, SqR.nil _ _ hm⟩
    have hsp := slice_spot hlen h0 (by omega) hel
    obtain ⟨ab, ao, asp⟩ := a
    obtain rfl : asp = none := by injection hsp
    clear hsp
    have key : ∀ i, i < len → ∃ x : Sq, (in64 x.j ∧ in64 x.f ∧ in64 x.t) ∧ W.rangeAt ab (ao + i * 3) (sqL x) := by
      intro i hi
      have h1 := hel i hi
      have ci : Try.prog.cellsOf 3 = 1 := by kernel_rfl
      have ch : Try.prog.cellsOf 2 = 1 := by kernel_rfl
      rw [List.getElem?_eq_getElem (by omega)] at h1
      obtain ⟨cl, hcs2, ht⟩ := Option.bind_eq_some_iff.1 h1
      obtain ⟨_, hcl, hat⟩ := World.cells?_some hcs2
      obtain ⟨ys, n', _, _, _, hyl, hf⟩ := DataW.trod_struct Try.underlying44 ht
      match cl, hcl, hat, hf with
      | [v0, v1, v2], _, hat, hf =>
        have g0 : DataW.trod enc Try.prog W base sp hd n' 3 [v0] = ys[0]? := by
          have e : DataW.trod enc Try.prog W base sp hd n' 3 (([v0, v1, v2].drop 0).take (Try.prog.cellsOf 3)) = ys[0]? := hf 0 _ rfl
          rw [ci] at e
          exact e
        have g1 : DataW.trod enc Try.prog W base sp hd n' 2 [v1] = ys[1]? := by
          have e : DataW.trod enc Try.prog W base sp hd n' 2 (([v0, v1, v2].drop 1).take (Try.prog.cellsOf 2)) = ys[1]? := hf 1 _ rfl
          rw [ch] at e
          exact e
        have g2 : DataW.trod enc Try.prog W base sp hd n' 2 [v2] = ys[2]? := by
          have e : DataW.trod enc Try.prog W base sp hd n' 2 (([v0, v1, v2].drop 2).take (Try.prog.cellsOf 2)) = ys[2]? := hf 2 _ rfl
          rw [ch] at e
          exact e
        have hy3 : ys.length = 3 := hyl
        rw [List.getElem?_eq_getElem (by omega)] at g0 g1 g2
        obtain ⟨z0, e0, _, w0⟩ := DataW.trod_int Try.underlying3 g0
        obtain ⟨z1, e1, _, w1⟩ := DataW.trod_int Try.underlying2 g1
        obtain ⟨z2, e2, _, w2⟩ := DataW.trod_int Try.underlying2 g2
        obtain rfl : v0 = .int .i64 z0 := by simpa using e0
        obtain rfl : v1 = .int .i64 z1 := by simpa using e1
        obtain rfl : v2 = .int .i64 z2 := by simpa using e2
        refine ⟨⟨z0, z1, z2⟩, ⟨in64_of w0, in64_of w1, in64_of w2⟩, fun j u hu => ?_⟩
        have hj : j < 3 := by
          rcases Nat.lt_or_ge j 3 with h | h
          · exact h
          · rw [List.getElem?_eq_none (by simp [sqL]; omega)] at hu; cases hu
        have := hat j (by simpa using hj)
        simp only [add_none] at this
        rw [this]
        rw [← hu]
        rfl
    obtain ⟨l, hl, hp⟩ := list_of len key
    subst hl
    refine ⟨some ⟨ab, ao, none⟩, cap, l, rfl, ⟨hl', hm, fun x hx => ?_, fun i x hx => ⟨ab, ao, rfl, (hp i x hx).2⟩⟩⟩
    obtain ⟨i, hi, rfl⟩ := List.getElem_of_mem hx
    exact (hp i _ (List.getElem?_eq_getElem hi)).1
set_option maxRecDepth 100000 in
theorem read_odd {cs : List Value} {d : DataW H} {p : List MemPlace} (h : DataW.Trod enc Try.prog W base sp hd 27 (.agg ⟨cs⟩) d p) :
    ∃ A ca la B cb lb, cs = [.slice A la.length ca, .slice B lb.length cb] ∧ SqR W A ca la ∧ CRow W B cb lb := by
  have c1 : Try.prog.cellsOf 27 = 2 := by kernel_rfl
  have c2 : Try.prog.cellsOf 24 = 1 := by kernel_rfl
  have c3 : Try.prog.cellsOf 25 = 1 := by kernel_rfl
  obtain ⟨fuel, hf0⟩ := h
  obtain ⟨ys, n', _, _, hlen, hyl, hf⟩ := DataW.trod_struct Try.underlying27 hf0
  simp only [Value.cells, c1] at hlen
  match cs, hlen, hf with
  | [v0, v1], _, hf =>
    have g0 : DataW.trod enc Try.prog W base sp hd n' 24 [v0] = ys[0]? := by
      have e : DataW.trod enc Try.prog W base sp hd n' 24 (([v0, v1].drop 0).take (Try.prog.cellsOf 24)) = ys[0]? := hf 0 _ rfl
      rw [c2] at e
      exact e
    have g1 : DataW.trod enc Try.prog W base sp hd n' 25 [v1] = ys[1]? := by
      have e : DataW.trod enc Try.prog W base sp hd n' 25 (([v0, v1].drop 1).take (Try.prog.cellsOf 25)) = ys[1]? := hf 1 _ rfl
      rw [c3] at e
      exact e
    have hy2 : ys.length = 2 := hyl
    rw [List.getElem?_eq_getElem (by omega)] at g0 g1
    obtain ⟨A, ca, la, e0, h0⟩ := read_sps g0
    obtain ⟨B, cb, lb, e1, h1⟩ := read_n64 g1
    exact ⟨A, ca, la, B, cb, lb, by rw [e0, e1], h0, h1⟩
end
end Go.Proofs.Ytngmaiiibinkaaa
