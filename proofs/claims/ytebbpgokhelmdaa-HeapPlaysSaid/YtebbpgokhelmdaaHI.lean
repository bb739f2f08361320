/- A range over a heap that is drained: the iterator's word, and the law for its caller. -/
import Derived.Test.YtebbpgokhelmdaaHBase
namespace Go.Proofs.Ytebbpgokhelmdaa
open Go.RowKit Go.Shelf
set_option linter.unusedVariables false

theorem boxed_kept {W W' : World} {row : Option Nat} {b : Nat} {t : TypeId} {v : Value} (h : Boxed W b t v) (hg : W.grownBy W' row) (hr : ∀ r, row = some r → ∃ o : Obj, W.heap[r]? = some o ∧ o.isCells = false) : Boxed W' b t v := (grownBy_keeps_cells hg hr h rfl).trans h
/-- These blocks are as they were. -/
def SameB (Y : List Nat) (W W' : World) : Prop := ∀ k ∈ Y, W'.heap[k]? = W.heap[k]?
theorem SameB.refl (Y : List Nat) (W : World) : SameB Y W W := fun _ _ => rfl
theorem SameB.trans {Y : List Nat} {A B C : World} (h : SameB Y A B) (k : SameB Y B C) : SameB Y A C := fun i hi => (k i hi).trans (h i hi)
theorem SameB.kept {X Y : List Nat} {A B : World} (h : Kept X A B) (hY : ∀ k ∈ Y, k < A.heap.size ∧ k ∉ X) : SameB Y A B := fun i hi => h.block i (hY i hi).1 (hY i hi).2
def postD {E : Type} (B : Nat) (Y : List Nat) (I : List E → World → Prop) (Ix : Code → List E → World → Prop) (xs : List E) (W : World) : Exit → Act → World → Prop
  | .normal, _, W' => KeepsFrom B W W' ∧ SameB Y W W' ∧ I xs W'
  | .ret, _, W' => KeepsFrom B W W' ∧ SameB Y W W' ∧ Ix .ret xs W'
  | .exit id, _, W' => KeepsFrom B W W' ∧ SameB Y W W' ∧ Ix (.exit id) xs W'
  | .goto t, _, W' => KeepsFrom B W W' ∧ SameB Y W W' ∧ Ix (.goto t) xs W'
  | .panic _, _, _ => False
  | .outgrown, _, _ => False
/-- An iterator's word: it takes things out of what H tells, as long as rounds go on; no round writes to its blocks Y. -/
def SeqD {E : Type} (val : E → Value) (n g : Nat) (lb : Array Value) (Y : List Nat) (H : List E → World → Prop) (L : List E) : Prop :=
  ∀ (l : Nat) (J Jx : List E → World → Prop) (W : World), H L W → (∀ pre W1 W2, J pre W1 → Kept Y W1 W2 → J pre W2) →
    (∀ pre x r W1, J pre W1 → H r W1 → L = pre ++ x :: r → YieldAt Fence.wide (n - 1) Try.prog l #[val x] W1 fun e W' =>
      (e = .returned (.bool true) ∧ J (pre ++ [x]) W' ∧ SameB Y W1 W') ∨ (e = .returned (.bool false) ∧ Jx (pre ++ [x]) W' ∧ SameB Y W1 W')) →
    (∀ pre W1 W2, Jx pre W1 → Kept Y W1 W2 → Jx pre W2) →
    J [] W →
    CallsIn Fence.wide n Try.prog g (#[.func (.yield l) #[] #[]] ++ lb) W fun e W' => (∃ v, e = .returned v) ∧ ((J L W' ∧ H [] W') ∨ (∃ pre x r, L = pre ++ x :: r ∧ Jx (pre ++ [x]) W' ∧ H r W'))

/-- A loop's two blocks: the one for calls that are put off at D, the record behind it. -/
structure Two (D : Nat) (r : Loop) (W : World) : Prop where
  d : W.heap[D]? = some (.deferred (some []))
  l : W.heap[D + 1]? = some (.loop r)
theorem Two.kept {D B : Nat} {r : Loop} {W W' : World} {row : Option Nat} (h : Two D r W) (hg : W.grownBy W' row) (hB : D + 2 ≤ B) (hr : ∀ i, row = some i → B ≤ i) : Two D r W' :=
  ⟨(hg.block D (Array.getElem?_eq_some_iff.1 h.d).1 (fun e => by have := hr D e.symm; omega)).trans h.d,
   (hg.block (D + 1) (Array.getElem?_eq_some_iff.1 h.l).1 (fun e => by have := hr (D + 1) e.symm; omega)).trans h.l⟩
theorem Two.keptY {D : Nat} {r : Loop} {W W' : World} {Y : List Nat} (h : Two D r W) (hk : Kept Y W W') (hY : ∀ k ∈ Y, k < D) : Two D r W' :=
  ⟨(hk.block D (Array.getElem?_eq_some_iff.1 h.d).1 (fun e => by have := hY D e; omega)).trans h.d,
   (hk.block (D + 1) (Array.getElem?_eq_some_iff.1 h.l).1 (fun e => by have := hY (D + 1) e; omega)).trans h.l⟩
theorem Two.from {D : Nat} {r : Loop} {W W' : World} (h : Two D r W) (hk : KeepsFrom D W W') : Two D r W' := ⟨hk.same _ _ (Nat.le_refl _) h.d rfl, hk.same _ _ (by omega) h.l rfl⟩
theorem keepsFrom_up {B B' : Nat} {W W' : World} (h : KeepsFrom B W W') (hB : B ≤ B') : KeepsFrom B' W W' := ⟨h.size, fun k o hk => h.same k o (Nat.le_trans hB hk)⟩
theorem Two.put {D : Nat} {r : Loop} {W : World} (h : Two D r W) (r' : Loop) : Two D r' (W.putObj (D + 1) (.loop r')) :=
  ⟨(World.putObj_heap_other (by omega)).trans h.d, World.putObj_heap_same (Array.getElem?_eq_some_iff.1 h.l).1⟩

set_option maxHeartbeats 1000000 in
/-- The law for a caller. Ax: what the assignment to the loop's variable leaves. -/
theorem rangeD {E : Type} (val : E → Value) {g : Operand} {ps : Array Tmp} {assign body : Code} {Q : Exit → Act → World → Prop} {a : Act} {w : World} {n gf : Nat} {lb : Array Value} {Y : List Nat} {H : List E → World → Prop} {L : List E}
    (hg : a.eval g = .func (.func gf) #[] lb) (eg : ∀ args w, (callFunc gf args).run Try.prog w = .ok (.enter gf args) w)
    (hseq : SeqD val (n - 1) gf lb Y H L) (hps : ps.size = 1) (hH : H L w) (hHs : ∀ r W W', H r W → SameB Y W W' → H r W') (hY : ∀ k ∈ Y, k < w.heap.size)
    (I : List E → World → Prop) (Ix : Code → List E → World → Prop) (hI : OwnFrom w.heap.size I) (hIx : ∀ c, OwnFrom w.heap.size (Ix c))
    (hIY : ∀ s W1 W2, I s W1 → Kept Y W1 W2 → I s W2) (hIxY : ∀ c s W1 W2, Ix c s W1 → Kept Y W1 W2 → Ix c s W2) (h0 : I [] w)
    (Ax : E → Act → World → Prop) (hAx : ∀ x a', OwnFrom w.heap.size (fun (_ : Unit) W => Ax x a' W))
    (hassign : ∀ (l : Nat) (pre : List E) (x : E) (W : World) (K : Act → World → Prop), I pre W → (∀ a' W', KeepsFrom w.heap.size W W' → SameB Y W W' → I pre W' → Ax x a' W' → K a' W') →
      assign.wpIn (Fence.wide.inRound l) (n - 1 - 1) Try.prog (Exit.then K (fun _ _ _ => False)) { tmps := (ps.zip #[val x]).foldl (fun t (p, v) => t.setIfInBounds p v) a.tmps, defers := [] } W)
    (hbody : ∀ (l : Nat) (pre : List E) (x : E) (r : List E) (a' : Act) (W : World), I pre W → Ax x a' W → L = pre ++ x :: r →
      body.wpIn (Fence.wide.inRound l) (n - 1 - 1) Try.prog (postD w.heap.size Y I Ix (pre ++ [x]) W) a' W)
    (hdone : ∀ (D : Nat) (W : World), w.heap.size ≤ D → I L W → H [] W → W.heap[D]? = some (.deferred (some [])) → Q .normal { a with defers := { target := .collected D, args := #[] } :: a.defers } W)
    (hstop : ∀ (D : Nat) (c : Code) (pre : List E) (x : E) (r : List E) (W : World), w.heap.size ≤ D → L = pre ++ x :: r → Ix c (pre ++ [x]) W → H r W → W.heap[D]? = some (.deferred (some [])) → c.wpIn Fence.wide n Try.prog Q { a with defers := { target := .collected D, args := #[] } :: a.defers } W) :
    (Code.rangeFunc g ps assign body).wpIn Fence.wide n Try.prog Q a w := by
  refine wpIn_rangeFunc fun fn hfn => ?_
  obtain ⟨D, hD⟩ : ∃ D, D = w.heap.size := ⟨_, rfl⟩
  have hYD : ∀ k ∈ Y, k < D := fun k hk => by rw [hD]; exact hY k hk
  obtain ⟨rc, hrc⟩ : ∃ rc : LoopState → Option Code → Loop, rc = fun st pe => { state := st, pending := pe, fn, tmps := a.tmps, params := ps, assign, body, defers := D } := ⟨_, rfl⟩
  obtain ⟨V, hV⟩ : ∃ V, (w.alloc (.deferred (some []))).alloc (.loop (rc .ready none)) = V := ⟨_, rfl⟩
  have hVs : V.heap.size = D + 2 := by rw [← hV, hD]; simp
  have hV2 : Two D (rc .ready none) V := by
    rw [← hV, hD]
    refine ⟨(Below.heap_alloc _ _ _ (by simp)).trans (World.alloc_heap_new w _), ?_⟩
    have := World.alloc_heap_new (w.alloc (.deferred (some []))) (.loop (rc .ready none))
    rwa [World.size_alloc] at this
  have hVI : I [] V := by rw [← hV]; exact hI.alloc _ (hI.alloc _ h0)
  have hVb : Below w.heap.size w V := by
    rw [← hV]
    exact (((Below.refl _ w).alloc (Nat.le_refl _) _).alloc (by simp) _)
  have hVH : H L V := hHs _ _ _ hH (fun k hk => hVb.block k (hY k hk))
  have put : ∀ {pre : List E} {W : World} {r : Loop} (r' : Loop), I pre W → Two D r W → I pre (W.putObj (D + 1) (.loop r')) := fun r' hi h2 => hI.putObj _ hi (by omega) h2.l rfl
  have putx : ∀ {c : Code} {pre : List E} {W : World} {r : Loop} (r' : Loop), Ix c pre W → Two D r W → Ix c pre (W.putObj (D + 1) (.loop r')) := fun r' hi h2 => (hIx _).putObj _ hi (by omega) h2.l rfl
  have sput : ∀ (W : World) (o : Obj), SameB Y W (W.putObj (D + 1) o) := fun W o k hk => World.putObj_heap_other (by have := hYD k hk; omega)
  refine ⟨D + 1, [{ target := .collected D, args := #[] }], V, { target := .fn (.func gf) lb, args := #[.func (.yield (D + 1)) #[] #[]] }, V, gf, #[.func (.yield (D + 1)) #[] #[]] ++ lb, V, ?_, ?_, ?_, ?_, ?_, ?_⟩
  · rw [← hV, hrc, hD]; exact run_enterLoop_outer _ _ _ _ _
  · simp only [resolve, hg]
    simp [go_sem]
  · intro f' _; trivial
  · simp [invoke, go_sem, eg]
  · intro h; cases h
  · refine (hseq (D + 1) (fun pre W => I pre W ∧ Two D (rc .ready none) W) (fun pre W => ∃ c, Ix c pre W ∧ Two D (rc .done (some c)) W) V hVH
      (fun s X Z hs hk => ⟨hIY s X Z hs.1 hk, hs.2.keptY hk hYD⟩)
      ?_ (fun s X Z ⟨c, hs, h2⟩ hk => ⟨c, hIxY c s X Z hs hk, h2.keptY hk hYD⟩) ⟨hVI, hV2⟩).mono ?_
    · rintro pre x r W ⟨hi, h2⟩ hHr hL
      have hy := run_yield (P := Try.prog) (args := #[val x]) h2.l (by rw [hrc]; simp [hps])
      rw [hrc] at hy
      refine ⟨fn, _, assign, body, hy, roundIn_of_wpIn trivial (hassign _ pre x W _ hi ?_)⟩
      clear hy
      intro a' Wa hkf hsb hia hax
      rw [← hD] at hkf
      have h2a := h2.from hkf
      refine ⟨_, run_beginRound h2a.l (by rw [hrc]), ?_⟩
      have h2b := h2a.put { rc .ready none with state := .busy }
      have hsb2 := hsb.trans (sput Wa (.loop { rc .ready none with state := .busy }))
      refine wpIn_mono (hbody _ pre x r a' _ (put _ hia h2a) ((hAx x a').putObj (s := ()) _ hax (by omega) h2a.l rfl) hL) ?_
      generalize Wa.putObj (D + 1) (.loop { rc .ready none with state := .busy }) = Wb at *
      rw [← hD]
      have fin : ∀ (jump : Option Code) (W3 : World), KeepsFrom D Wb W3 →
          (Instr.endRound (D + 1) jump).run Try.prog W3 = .ok (.bool jump.isNone) (W3.putObj (D + 1) (.loop (rc (if jump.isNone then .ready else .done) jump))) ∧ Two D { rc .ready none with state := .busy } W3 := fun jump W3 hk3 => by
        have h3 := h2b.from hk3
        have := run_endRound (P := Try.prog) jump h3.l
        rw [hrc] at this h3 ⊢
        exact ⟨this, h3⟩
      rintro e a3 W3 hp
      cases e with
      | normal =>
        obtain ⟨hk3, hs3, hi3⟩ := hp
        obtain ⟨hr, h3⟩ := fin none W3 hk3
        exact ⟨_, _, hr, .inl ⟨rfl, ⟨put _ hi3 h3, h3.put _⟩, (hsb2.trans hs3).trans (sput _ _)⟩⟩
      | ret =>
        obtain ⟨hk3, hs3, hi3⟩ := hp
        obtain ⟨hr, h3⟩ := fin (some .ret) W3 hk3
        exact ⟨_, _, hr, .inr ⟨rfl, ⟨.ret, putx _ hi3 h3, h3.put _⟩, (hsb2.trans hs3).trans (sput _ _)⟩⟩
      | exit id =>
        obtain ⟨hk3, hs3, hi3⟩ := hp
        obtain ⟨hr, h3⟩ := fin (some (.exit id)) W3 hk3
        exact ⟨_, _, hr, .inr ⟨rfl, ⟨.exit id, putx _ hi3 h3, h3.put _⟩, (hsb2.trans hs3).trans (sput _ _)⟩⟩
      | goto t =>
        obtain ⟨hk3, hs3, hi3⟩ := hp
        obtain ⟨hr, h3⟩ := fin (some (.goto t)) W3 hk3
        exact ⟨_, _, hr, .inr ⟨rfl, ⟨.goto t, putx _ hi3 h3, h3.put _⟩, (hsb2.trans hs3).trans (sput _ _)⟩⟩
      | panic ch => exact hp.elim
      | outgrown => exact hp.elim
    · rintro e W2 ⟨⟨v, rfl⟩, (⟨⟨hi, h2⟩, hH2⟩ | ⟨pre, x, r, hL, ⟨c, hi, h2⟩, hH2⟩)⟩
      · have he := run_endLoop (P := Try.prog) h2.l (by rw [hrc]; simp)
        rw [hrc] at he
        exact ⟨none, _, he, hdone D _ (Nat.le_of_eq hD.symm) (put _ hi h2) (hHs _ _ _ hH2 (sput _ _)) ((World.putObj_heap_other (by omega)).trans h2.d)⟩
      · have he := run_endLoop (P := Try.prog) h2.l (by rw [hrc]; simp)
        rw [hrc] at he
        exact ⟨some c, _, he, hstop D c pre x r _ (Nat.le_of_eq hD.symm) hL (putx _ hi h2) (hHs _ _ _ hH2 (sput _ _)) ((World.putObj_heap_other (by omega)).trans h2.d)⟩
end Go.Proofs.Ytebbpgokhelmdaa
