/- A range over an iterator that may itself range over another one: the iterator's word, and the law for its caller. -/
import Derived.RangeFuncNested
import Derived.RangeFuncBound
import Derived.RangeFuncCalls
import Derived.RangeFuncLeaves
import Derived.RangeFuncWrites
import Derived.Shelf.Abstract
import Derived.OwnWalkIn
import Derived.TacticsInMore
import Derived.LoopNIn
import Derived.LoopIn
import Derived.Test.YthfiodjhjhpiaaaBegun
namespace Go.Proofs.Ythfiodjhjhpiaaa
open Go.RowKit Go.Shelf
set_option linter.unusedVariables false

/-- Blocks that no round of this program writes to: texts and functions that lie in boxes. -/
def fixed : Obj → Bool
  | .cells _ t _ => t == 9 || t == 98
  | _ => false
/-- What a round on x keeps, pre having come: these, and a block that holds x, if x has not come before. -/
def keep (pre : List Tk) (x : Tk) (o : Obj) : Prop := fixed o = true ∨ (x ∉ pre ∧ o = .cells (tkC x) 91 (0, 0))
theorem keep_cells {pre : List Tk} {x : Tk} {o : Obj} (h : keep pre x o) : o.isCells = true := by
  rcases h with h | ⟨_, rfl⟩
  · cases o <;> simp_all [fixed, Obj.isCells]
  · rfl
def Kp (pre : List Tk) (x : Tk) (W W' : World) : Prop := ∀ (k : Nat) (o : Obj), W.heap[k]? = some o → keep pre x o → W'.heap[k]? = some o
variable {pre : List Tk} {x : Tk}
theorem Kp.refl (W : World) : Kp pre x W W := fun _ _ h _ => h
theorem Kp.trans {A B C : World} (h : Kp pre x A B) (k : Kp pre x B C) : Kp pre x A C := fun i o hi ho => k i o (h i o hi ho) ho
theorem Kp.putObj (W : World) (l : Nat) (o o' : Obj) (h : W.heap[l]? = some o) (hc : o.isCells = false) : Kp pre x W (W.putObj l o') := fun k p hk hp =>
  (World.putObj_heap_other (fun e => by subst e; rw [h] at hk; cases hk; rw [keep_cells hp] at hc; cases hc)).trans hk
theorem Kp.later {W W' : World} (h : Below W.heap.size W W') : Kp pre x W W' := fun k o hk _ => (h.block k (Array.getElem?_eq_some_iff.1 hk).1).trans hk
theorem Kp.alloc (W : World) (o : Obj) : Kp pre x W (W.alloc o) := Kp.later ((Below.refl _ _).alloc (Nat.le_refl _) _)
theorem Kp.box {W W' : World} {b : Nat} {s : ByteArray} (h : Kp pre x W W') (hb : Boxed W b 9 (.string s)) : Boxed W' b 9 (.string s) := h b _ hb (.inl rfl)
theorem Kp.fn {W W' : World} {b : Nat} {v : Value} (h : Kp pre x W W') (hb : Boxed W b 98 v) : Boxed W' b 98 v := h b _ hb (.inl rfl)
theorem Kp.tok {W W' : World} {b : Nat} (h : Kp pre x W W') (hx : x ∉ pre) (hb : TB W b x) : TB W' b x := ⟨h b _ hb.is (.inr ⟨hx, rfl⟩)⟩
theorem Kp.setCell {W : World} {a : Addr} {v : Value} {cs : Array Value} {t : TypeId} {fr : Nat × Nat} (h : W.heap[a.block]? = some (.cells cs t fr)) (ht : t ≠ 9 ∧ t ≠ 98 ∧ t ≠ 91) : Kp pre x W (W.setCell a v) := fun k o hk ho =>
  (heap_setCell_other W a k v (fun e => by
    subst e
    rw [h] at hk
    cases hk
    rcases ho with ho | ⟨_, ho⟩
    · simp [fixed] at ho; rcases ho with ho | ho
      · exact ht.1 ho
      · exact ht.2.1 ho
    · cases ho; exact ht.2.2 rfl)).trans hk

/-- An iterator's word: called with yield it tells its tokens, as long as rounds go on; what it holds on to are boxes that no round writes to. -/
def SeqO (n g : Nat) (lb : Array Value) (S Sp : List Tk → Prop) (N : Nat) (w : World) : Prop :=
  ∀ (l : Nat) (J Jx : List Tk → World → Prop) (W : World), Below w.heap.size w W → OwnFrom W.heap.size J → OwnFrom W.heap.size Jx →
    (∀ pre x W1, J pre W1 → pre.length < N → YieldAt Fence.wide (n - 1) Try.prog l #[tkV x] W1 fun e W' =>
      (e = .returned (.bool true) ∧ J (pre ++ [x]) W' ∧ Kp pre x W1 W' ∧ KeepsFrom W.heap.size W1 W') ∨ (e = .returned (.bool false) ∧ Jx (pre ++ [x]) W' ∧ KeepsFrom W.heap.size W1 W')) →
    J [] W →
    CallsIn Fence.wide n Try.prog g (#[.func (.yield l) #[] #[]] ++ lb) W fun e W' => (∃ v, e = .returned v) ∧ ((∃ xs, S xs ∧ J xs W') ∨ (∃ pre, Sp pre ∧ Jx pre W'))
theorem own_later {β : Type} {B : Nat} {J : β → World → Prop} (h : OwnFrom B J) {s : β} {W W' : World} (hs : J s W) (hb : Below W.heap.size W W') : J s W' :=
  h s W W' none hs ⟨hb.os, hb.tape, hb.output, hb.size, fun k hk _ => hb.block k hk⟩ (fun r e => by cases e)

/-- A loop's two blocks: the one for calls that are put off at D, the record behind it. -/
structure Two (D : Nat) (r : Loop) (W : World) : Prop where
  d : W.heap[D]? = some (.deferred (some []))
  l : W.heap[D + 1]? = some (.loop r)
theorem Two.kept {D B : Nat} {r : Loop} {W W' : World} {row : Option Nat} (h : Two D r W) (hg : W.grownBy W' row) (hB : D + 2 ≤ B) (hr : ∀ i, row = some i → B ≤ i) : Two D r W' :=
  ⟨(hg.block D (Array.getElem?_eq_some_iff.1 h.d).1 (fun e => by have := hr D e.symm; omega)).trans h.d,
   (hg.block (D + 1) (Array.getElem?_eq_some_iff.1 h.l).1 (fun e => by have := hr (D + 1) e.symm; omega)).trans h.l⟩
theorem Two.from {D : Nat} {r : Loop} {W W' : World} (h : Two D r W) (hk : KeepsFrom D W W') : Two D r W' := ⟨hk.same _ _ (Nat.le_refl _) h.d rfl, hk.same _ _ (by omega) h.l rfl⟩
theorem keepsFrom_up {B B' : Nat} {W W' : World} (h : KeepsFrom B W W') (hB : B ≤ B') : KeepsFrom B' W W' := ⟨h.size, fun k o hk => h.same k o (Nat.le_trans hB hk)⟩
theorem keepsFrom_put (B : Nat) (W : World) (l : Nat) (o : Obj) (h : l < B) : KeepsFrom B W (W.putObj l o) := ⟨by simp, fun k p hk hp _ => (World.putObj_heap_other (by omega)).trans hp⟩
theorem Two.put {D : Nat} {r : Loop} {W : World} (h : Two D r W) (r' : Loop) : Two D r' (W.putObj (D + 1) (.loop r')) :=
  ⟨(World.putObj_heap_other (by omega)).trans h.d, World.putObj_heap_same (Array.getElem?_eq_some_iff.1 h.l).1⟩

set_option maxHeartbeats 1000000 in
/-- The law for a caller. Ax: what the assignment to the loop's variable leaves. -/
theorem rangeO {g : Operand} {ps : Array Tmp} {assign body : Code} {Q : Exit → Act → World → Prop} {a : Act} {w w0 : World} {n gf : Nat} {lb : Array Value} {S Sp : List Tk → Prop} {N : Nat}
    (hg : a.eval g = .func (.func gf) #[] lb) (eg : ∀ args w, (callFunc gf args).run Try.prog w = .ok (.enter gf args) w)
    (hseq : SeqO (n - 1) gf lb S Sp N w0) (hb0 : Below w0.heap.size w0 w) (hps : ps.size = 1)
    (I : List Tk → World → Prop) (Ix : Code → List Tk → World → Prop) (hI : OwnFrom w.heap.size I) (hIx : ∀ c, OwnFrom w.heap.size (Ix c)) (h0 : I [] w)
    (Ax : Tk → Act → World → Prop) (hAx : ∀ x a', OwnFrom w.heap.size (fun (_ : Unit) W => Ax x a' W))
    (hassign : ∀ (l : Nat) (pre : List Tk) (x : Tk) (W : World) (K : Act → World → Prop), I pre W → (∀ a' W', KeepsFrom w.heap.size W W' → Kp pre x W W' → I pre W' → Ax x a' W' → K a' W') →
      assign.wpIn (Fence.wide.inRound l) (n - 1 - 1) Try.prog (Exit.then K (fun _ _ _ => False)) { tmps := (ps.zip #[tkV x]).foldl (fun t (p, v) => t.setIfInBounds p v) a.tmps, defers := [] } W)
    (hbody : ∀ (l : Nat) (pre : List Tk) (x : Tk) (a' : Act) (W : World), I pre W → Ax x a' W → pre.length < N →
      body.wpIn (Fence.wide.inRound l) (n - 1 - 1) Try.prog (ownPostG w.heap.size (Kp pre x) I Ix (pre ++ [x]) W) a' W)
    (hdone : ∀ (D : Nat) (xs : List Tk) (W : World), w.heap.size ≤ D → S xs → I xs W → W.heap[D]? = some (.deferred (some [])) → Q .normal { a with defers := { target := .collected D, args := #[] } :: a.defers } W)
    (hstop : ∀ (D : Nat) (c : Code) (pre : List Tk) (W : World), w.heap.size ≤ D → Sp pre → Ix c pre W → W.heap[D]? = some (.deferred (some [])) → c.wpIn Fence.wide n Try.prog Q { a with defers := { target := .collected D, args := #[] } :: a.defers } W) :
    (Code.rangeFunc g ps assign body).wpIn Fence.wide n Try.prog Q a w := by
  refine wpIn_rangeFunc fun fn hfn => ?_
  obtain ⟨D, hD⟩ : ∃ D, D = w.heap.size := ⟨_, rfl⟩
  obtain ⟨rc, hrc⟩ : ∃ rc : LoopState → Option Code → Loop, rc = fun st pe => { state := st, pending := pe, fn, tmps := a.tmps, params := ps, assign, body, defers := D } := ⟨_, rfl⟩
  obtain ⟨V, hV⟩ : ∃ V, (w.alloc (.deferred (some []))).alloc (.loop (rc .ready none)) = V := ⟨_, rfl⟩
  have hVs : V.heap.size = D + 2 := by rw [← hV, hD]; simp
  have hV2 : Two D (rc .ready none) V := by
    rw [← hV, hD]
    refine ⟨(Below.heap_alloc _ _ _ (by simp)).trans (World.alloc_heap_new w _), ?_⟩
    have := World.alloc_heap_new (w.alloc (.deferred (some []))) (.loop (rc .ready none))
    rwa [World.size_alloc] at this
  have hVI : I [] V := by rw [← hV]; exact hI.alloc _ (hI.alloc _ h0)
  have hVb : Below w0.heap.size w0 V := by
    rw [← hV]
    exact hb0.trans ((((Below.refl _ w).alloc (Nat.le_refl _) _).alloc (by simp) _).mono hb0.size)
  have nc : ∀ {X : World} {row : Option Nat}, (∀ r, row = some r → V.heap.size ≤ r ∧ ∃ o : Obj, X.heap[r]? = some o ∧ o.isCells = false) → (∀ r, row = some r → w.heap.size ≤ r ∧ ∃ o : Obj, X.heap[r]? = some o ∧ o.isCells = false) :=
    fun h r e => ⟨by have := (h r e).1; omega, (h r e).2⟩
  have far : ∀ {X : World} {row : Option Nat}, (∀ r, row = some r → V.heap.size ≤ r ∧ ∃ o : Obj, X.heap[r]? = some o ∧ o.isCells = false) → ∀ r, row = some r → V.heap.size ≤ r := fun h r e => (h r e).1
  have put : ∀ {pre : List Tk} {W : World} {r : Loop} (r' : Loop), I pre W → Two D r W → I pre (W.putObj (D + 1) (.loop r')) := fun r' hi h2 => hI.putObj _ hi (by omega) h2.l rfl
  have putx : ∀ {c : Code} {pre : List Tk} {W : World} {r : Loop} (r' : Loop), Ix c pre W → Two D r W → Ix c pre (W.putObj (D + 1) (.loop r')) := fun r' hi h2 => (hIx _).putObj _ hi (by omega) h2.l rfl
  refine ⟨D + 1, [{ target := .collected D, args := #[] }], V, { target := .fn (.func gf) lb, args := #[.func (.yield (D + 1)) #[] #[]] }, V, gf, #[.func (.yield (D + 1)) #[] #[]] ++ lb, V, ?_, ?_, ?_, ?_, ?_, ?_⟩
  · rw [← hV, hrc, hD]; exact run_enterLoop_outer _ _ _ _ _
  · simp only [resolve, hg]
    simp [go_sem]
  · intro f' _; trivial
  · simp [invoke, go_sem, eg]
  · intro h; cases h
  · refine (hseq (D + 1) (fun pre W => I pre W ∧ Two D (rc .ready none) W) (fun pre W => ∃ c, Ix c pre W ∧ Two D (rc .done (some c)) W) V hVb
      (fun s X Y row hs hg' hr => ⟨hI s X Y row hs.1 hg' (nc hr), hs.2.kept hg' (by omega) (far hr)⟩)
      (fun s X Y row ⟨c, hs, h2⟩ hg' hr => ⟨c, hIx c s X Y row hs hg' (nc hr), h2.kept hg' (by omega) (far hr)⟩)
      ?_ ⟨hVI, hV2⟩).mono ?_
    · rintro pre x W ⟨hi, h2⟩ hlen
      have hy := run_yield (P := Try.prog) (args := #[tkV x]) h2.l (by rw [hrc]; simp [hps])
      rw [hrc] at hy
      refine ⟨fn, _, assign, body, hy, roundIn_of_wpIn trivial (hassign _ pre x W _ hi ?_)⟩
      clear hy
      intro a' Wa hkf hkp hia hax
      rw [← hD] at hkf
      have h2a := h2.from hkf
      refine ⟨_, run_beginRound h2a.l (by rw [hrc]), ?_⟩
      have hfb := (keepsFrom_up hkf (show D ≤ V.heap.size by omega)).trans (keepsFrom_put V.heap.size Wa (D + 1) (.loop { rc .ready none with state := .busy }) (by omega))
      have h2b := h2a.put { rc .ready none with state := .busy }
      have hkb := hkp.trans (Kp.putObj Wa (D + 1) _ (.loop { rc .ready none with state := .busy }) h2a.l rfl)
      refine wpIn_mono (hbody _ pre x a' _ (put _ hia h2a) ((hAx x a').putObj (s := ()) _ hax (by omega) h2a.l rfl) hlen) ?_
      generalize Wa.putObj (D + 1) (.loop { rc .ready none with state := .busy }) = Wb at *
      rw [← hD]
      have fin : ∀ (jump : Option Code) (W3 : World), KeepsFrom D Wb W3 →
          (Instr.endRound (D + 1) jump).run Try.prog W3 = .ok (.bool jump.isNone) (W3.putObj (D + 1) (.loop (rc (if jump.isNone then .ready else .done) jump))) ∧ Two D { rc .ready none with state := .busy } W3 ∧ ∀ o, KeepsFrom V.heap.size W (W3.putObj (D + 1) o) := fun jump W3 hk3 => by
        have h3 := h2b.from hk3
        have := run_endRound (P := Try.prog) jump h3.l
        rw [hrc] at this h3 ⊢
        exact ⟨this, h3, fun o => (hfb.trans (keepsFrom_up hk3 (show D ≤ V.heap.size by omega))).trans (keepsFrom_put V.heap.size W3 (D + 1) o (by omega))⟩
      rintro e a3 W3 hp
      cases e with
      | normal =>
        obtain ⟨hk3, hkp3, hi3⟩ := hp
        obtain ⟨hr, h3, hf3⟩ := fin none W3 hk3
        exact ⟨_, _, hr, .inl ⟨rfl, ⟨put _ hi3 h3, h3.put _⟩, (hkb.trans hkp3).trans (Kp.putObj _ _ _ _ h3.l rfl), hf3 _⟩⟩
      | ret =>
        obtain ⟨hk3, hi3⟩ := hp
        obtain ⟨hr, h3, hf3⟩ := fin (some .ret) W3 hk3
        exact ⟨_, _, hr, .inr ⟨rfl, ⟨.ret, putx _ hi3 h3, h3.put _⟩, hf3 _⟩⟩
      | exit id =>
        obtain ⟨hk3, hi3⟩ := hp
        obtain ⟨hr, h3, hf3⟩ := fin (some (.exit id)) W3 hk3
        exact ⟨_, _, hr, .inr ⟨rfl, ⟨.exit id, putx _ hi3 h3, h3.put _⟩, hf3 _⟩⟩
      | goto t =>
        obtain ⟨hk3, hi3⟩ := hp
        obtain ⟨hr, h3, hf3⟩ := fin (some (.goto t)) W3 hk3
        exact ⟨_, _, hr, .inr ⟨rfl, ⟨.goto t, putx _ hi3 h3, h3.put _⟩, hf3 _⟩⟩
      | panic ch => exact hp.elim
      | outgrown => exact hp.elim
    · rintro e W2 ⟨⟨v, rfl⟩, (⟨xs, hS, hi, h2⟩ | ⟨pre, hSp, c, hi, h2⟩)⟩
      · have he := run_endLoop (P := Try.prog) h2.l (by rw [hrc]; simp)
        rw [hrc] at he
        exact ⟨none, _, he, hdone D xs _ (Nat.le_of_eq hD.symm) hS (put _ hi h2) ((World.putObj_heap_other (by omega)).trans h2.d)⟩
      · have he := run_endLoop (P := Try.prog) h2.l (by rw [hrc]; simp)
        rw [hrc] at he
        exact ⟨some c, _, he, hstop D c pre _ (Nat.le_of_eq hD.symm) hSp (putx _ hi h2) ((World.putObj_heap_other (by omega)).trans h2.d)⟩
end Go.Proofs.Ythfiodjhjhpiaaa
