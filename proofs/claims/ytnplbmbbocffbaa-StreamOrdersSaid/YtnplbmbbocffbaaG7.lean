/- Texts about the program, one after the other: RgN, MsM, ClI, MaI, LowI, FstI. -/
import Derived.Test.YtnplbmbbocffbaaG6
import Derived.Test.YtnplbmbbocffbaaG5
/- A range over a function whose body stores into rows of its own: what the iterator holds stays. -/
namespace Go.Proofs.Ytnplbmbbocffbaa
open Go.RowKit Go.Shelf
set_option linter.unusedVariables false
/-- What lies below N is as it was, and rows of kind T made since B. -/
structure KeepN (N : Nat → Prop) (T : TypeId) (B : Nat) (W W' : World) : Prop where
  size : W.heap.size ≤ W'.heap.size
  block : ∀ k cs T' fr, (N k ∨ (T' = T ∧ B ≤ k)) → W.heap[k]? = some (.cells cs T' fr) → W'.heap[k]? = some (.cells cs T' fr)
theorem KeepN.refl (N : Nat → Prop) (T : TypeId) (B : Nat) (W : World) : KeepN N T B W W := ⟨Nat.le_refl _, fun _ _ _ _ _ h => h⟩
theorem KeepN.trans {N : Nat → Prop} {T : TypeId} {B : Nat} {a b c : World} (h : KeepN N T B a b) (k : KeepN N T B b c) : KeepN N T B a c := ⟨Nat.le_trans h.size k.size, fun i cs T' fr hx hi => k.block i cs T' fr hx (h.block i cs T' fr hx hi)⟩
theorem KeepN.mono {N : Nat → Prop} {T : TypeId} {B B' : Nat} {W W' : World} (h : KeepN N T B W W') (hB : B ≤ B') : KeepN N T B' W W' := ⟨h.size, fun k cs T' fr hx hi => h.block k cs T' fr (by rcases hx with h | ⟨h1, h2⟩; exact .inl h; exact .inr ⟨h1, by omega⟩) hi⟩
theorem KeepN.ofC {N : Nat → Prop} {T : TypeId} {B : Nat} {X : List Nat} {W W' : World} (h : KeepC X W W') (hX : ∀ k ∈ X, ¬ N k ∧ k < B) : KeepN N T B W W' := ⟨h.size, fun k cs T' fr hx hi => h.block k cs T' fr (fun hm => by have := hX k hm; rcases hx with h | ⟨_, h⟩; exact this.1 h; omega) hi⟩
theorem KeepN.kept {N : Nat → Prop} {T : TypeId} {B : Nat} {X : List Nat} {W W' : World} (h : Kept X W W') (hX : ∀ k ∈ X, ¬ N k ∧ ∀ cs fr, W.heap[k]? = some (.cells cs T fr) → k < B) : KeepN N T B W W' := ⟨h.size, fun k cs T' fr hx hi => (h.block k (Array.getElem?_eq_some_iff.1 hi).1 (fun hm => by
  obtain ⟨h1, h2⟩ := hX k hm
  rcases hx with hx | ⟨rfl, hx⟩
  · exact h1 hx
  · have := h2 cs fr hi; omega)).trans hi⟩
theorem KeepN.put {N : Nat → Prop} {T : TypeId} {B : Nat} {W : World} {l : Nat} {o : Obj} (o' : Obj) (h : W.heap[l]? = some o) (ho : o.isCells = false) : KeepN N T B W (W.putObj l o') := by
  refine ⟨by simp, fun i cs T' fr hx hi => ?_⟩
  have hne : i ≠ l := by
    rintro rfl
    rw [h] at hi
    cases hi
    simp [Obj.isCells] at ho
  exact (World.putObj_heap_other hne).trans hi
theorem KeepN.cell {N : Nat → Prop} {T : TypeId} {B : Nat} {W W' : World} (h : KeepN N T B W W') {b i : Nat} {v : Value} (hc : W.cell? ⟨b, i, none⟩ = some v) (hb : N b) : W'.cell? ⟨b, i, none⟩ = some v := by
  have hl := World.block_lt_of_cell? W _ hc
  cases ho : W.heap[b]? with
  | none => simp [World.cell?, ho] at hc
  | some o =>
    cases o with
    | cells cs T' fr => rw [World.cell?_of_block (w := W) (a := ⟨b, i, none⟩) ((h.block b cs T' fr (.inl hb) ho).trans ho.symm)]; exact hc
    | _ => simp [World.cell?, ho] at hc
theorem KeepN.box {N : Nat → Prop} {T : TypeId} {B b : Nat} {W W' : World} {t : TypeId} {v : Value} (h : KeepN N T B W W') (hb : Boxed W b t v) (hN : N b) : Boxed W' b t v := h.block b _ _ _ (.inl hN) hb
theorem KeepN.row {N : Nat → Prop} {T : TypeId} {B base size k : Nat} {W W' : World} {v : Value} {xs : List Value} (h : KeepN N T B W W') (hr : W.ownsRow base T size v k xs) (hB : B ≤ base) : W'.ownsRow base T size v k xs := by
  obtain ⟨h1, h2⟩ := hr
  refine ⟨h1, ?_⟩
  rcases h2 with h2 | ⟨g, cap, cur, hv, hg, hh, r⟩
  · exact .inl h2
  · exact .inr ⟨g, cap, cur, hv, hg, h.block g _ _ _ (.inr ⟨rfl, by omega⟩) hh, r⟩
/-- An iterator's word. -/
def SeqN {E : Type} (T : TypeId) (vals : E → Array Value) (n g : Nat) (lb : Array Value) (N : Nat → Prop) (L : List E) (w0 : World) : Prop :=
  ∀ (l : Nat) (J Jx : List E → World → Prop) (W : World), Below w0.heap.size w0 W → (∀ pre W1 W2, J pre W1 → KeptT T W.heap.size W1 W2 → J pre W2) →
    (∀ pre x r W1, J pre W1 → L = pre ++ x :: r → YieldAt Fence.wide (n - 1) Try.prog l (vals x) W1 fun e W' =>
      (e = .returned (.bool true) ∧ J (pre ++ [x]) W' ∧ KeepN N T W.heap.size W1 W') ∨ (e = .returned (.bool false) ∧ Jx (pre ++ [x]) W')) →
    J [] W →
    CallsIn Fence.wide n Try.prog g (#[.func (.yield l) #[] #[]] ++ lb) W fun e W' => (∃ v, e = .returned v) ∧ (J L W' ∨ (∃ pre x r, L = pre ++ x :: r ∧ Jx (pre ++ [x]) W'))
theorem SeqN.toT {E : Type} {T : TypeId} {vals : E → Array Value} {n g : Nat} {lb : Array Value} {N : Nat → Prop} {L : List E} {w0 : World} {X : List Nat} (h : SeqN T vals n g lb N L w0) (hX : ∀ k ∈ X, ¬ N k ∧ k < w0.heap.size) : SeqT T vals n g lb X L w0 := by
  intro l J Jx W hW hJB hY hJ
  refine h l J Jx W hW hJB (fun pre x r W1 hj hL => ?_) hJ
  obtain ⟨f, tmps, assign, body, hy, hR⟩ := hY pre x r W1 hj hL
  refine ⟨f, tmps, assign, body, hy, hR.mono ?_⟩
  rintro e W' (⟨h1, h2, h3⟩ | h1)
  · exact .inl ⟨h1, h2, KeepN.ofC h3 (fun k hk => ⟨(hX k hk).1, Nat.lt_of_lt_of_le (hX k hk).2 hW.size⟩)⟩
  · exact .inr h1
def postN {E : Type} (B : Nat) (N : Nat → Prop) (T : TypeId) (I : List E → World → Prop) (Ix : Code → List E → World → Prop) (xs : List E) (W : World) : Exit → Act → World → Prop
  | .normal, _, W' => KeepsFrom B W W' ∧ KeepN N T B W W' ∧ I xs W'
  | .ret, _, W' => KeepsFrom B W W' ∧ Ix .ret xs W'
  | .exit id, _, W' => KeepsFrom B W W' ∧ Ix (.exit id) xs W'
  | .goto t, _, W' => KeepsFrom B W W' ∧ Ix (.goto t) xs W'
  | .panic _, _, _ => False
  | .outgrown, _, _ => False

set_option maxHeartbeats 1000000 in
/-- The law for a caller. fr: what the assignment to the loop's variables leaves. -/
theorem rangeN {E : Type} {T : TypeId} {vals : E → Array Value} {g : Operand} {ps : Array Tmp} {assign body : Code} {Q : Exit → Act → World → Prop} {a : Act} {w : World} {n gf : Nat} {lb : Array Value} {N : Nat → Prop} {L : List E} {w0 : World}
    (hg : a.eval g = .func (.func gf) #[] lb) (eg : ∀ args w, (callFunc gf args).run Try.prog w = .ok (.enter gf args) w)
    (hseq : SeqN T vals (n - 1) gf lb N L w0) (hb0 : Below w0.heap.size w0 w) (hps : ∀ x, (vals x).size = ps.size)
    (I : List E → World → Prop) (Ix : Code → List E → World → Prop) (hI : OwnFrom w.heap.size I) (hIx : ∀ c, OwnFrom w.heap.size (Ix c)) (hIT : ∀ pre W1 W2, I pre W1 → KeptT T w.heap.size W1 W2 → I pre W2) (h0 : I [] w)
    (fr : E → Act → World → Prop) (hfr : OwnFrom w.heap.size (fun (p : E × Act) W => fr p.1 p.2 W))
    (hassign : ∀ (l : Nat) (pre : List E) (x : E) (W : World) (K : Act → World → Prop), I pre W → (∀ a' W', KeepsFrom w.heap.size W W' → KeepN N T w.heap.size W W' → I pre W' → fr x a' W' → K a' W') →
      assign.wpIn (Fence.wide.inRound l) (n - 1 - 1) Try.prog (Exit.then K (fun _ _ _ => False)) { tmps := (ps.zip (vals x)).foldl (fun t (p, v) => t.setIfInBounds p v) a.tmps, defers := [] } W)
    (hbody : ∀ (l : Nat) (pre : List E) (x : E) (r : List E) (a' : Act) (W : World), I pre W → fr x a' W → L = pre ++ x :: r →
      body.wpIn (Fence.wide.inRound l) (n - 1 - 1) Try.prog (postN w.heap.size N T I Ix (pre ++ [x]) W) a' W)
    (hdone : ∀ (D : Nat) (W : World), w.heap.size ≤ D → I L W → W.heap[D]? = some (.deferred (some [])) → Q .normal { a with defers := { target := .collected D, args := #[] } :: a.defers } W)
    (hstop : ∀ (D : Nat) (c : Code) (pre : List E) (x : E) (r : List E) (W : World), w.heap.size ≤ D → L = pre ++ x :: r → Ix c (pre ++ [x]) W → W.heap[D]? = some (.deferred (some [])) → c.wpIn Fence.wide n Try.prog Q { a with defers := { target := .collected D, args := #[] } :: a.defers } W) :
    (Code.rangeFunc g ps assign body).wpIn Fence.wide n Try.prog Q a w := by
  refine wpIn_rangeFunc fun fn hfn => ?_
  obtain ⟨D, hD⟩ : ∃ D, D = w.heap.size := ⟨_, rfl⟩
  obtain ⟨rc, hrc⟩ : ∃ rc : LoopState → Option Code → Loop, rc = fun st pe => { state := st, pending := pe, fn, tmps := a.tmps, params := ps, assign, body, defers := D } := ⟨_, rfl⟩
  obtain ⟨V, hV⟩ : ∃ V, (w.alloc (.deferred (some []))).alloc (.loop (rc .ready none)) = V := ⟨_, rfl⟩
  have hV2 : Two D (rc .ready none) V := by
    rw [← hV, hD]
    refine ⟨(Below.heap_alloc _ _ _ (by simp)).trans (World.alloc_heap_new w _), ?_⟩
    have := World.alloc_heap_new (w.alloc (.deferred (some []))) (.loop (rc .ready none))
    rwa [World.size_alloc] at this
  have hVI : I [] V := by rw [← hV]; exact hI.alloc _ (hI.alloc _ h0)
  have hVb : Below w.heap.size w V := by
    rw [← hV]
    exact (((Below.refl _ w).alloc (Nat.le_refl _) _).alloc (by simp) _)
  have put : ∀ {pre : List E} {W : World} {r : Loop} (r' : Loop), I pre W → Two D r W → I pre (W.putObj (D + 1) (.loop r')) := fun r' hi h2 => hI.putObj _ hi (by omega) h2.l rfl
  have putx : ∀ {c : Code} {pre : List E} {W : World} {r : Loop} (r' : Loop), Ix c pre W → Two D r W → Ix c pre (W.putObj (D + 1) (.loop r')) := fun r' hi h2 => (hIx _).putObj _ hi (by omega) h2.l rfl
  refine ⟨D + 1, [{ target := .collected D, args := #[] }], V, { target := .fn (.func gf) lb, args := #[.func (.yield (D + 1)) #[] #[]] }, V, gf, #[.func (.yield (D + 1)) #[] #[]] ++ lb, V, ?_, ?_, ?_, ?_, ?_, ?_⟩
  · rw [← hV, hrc, hD]; exact run_enterLoop_outer _ _ _ _ _
  · simp only [resolve, hg]
    simp [go_sem]
  · intro f' _; trivial
  · simp [invoke, go_sem, eg]
  · intro h; cases h
  · refine (hseq (D + 1) (fun pre W => I pre W ∧ Two D (rc .ready none) W) (fun pre W => ∃ c, Ix c pre W ∧ Two D (rc .done (some c)) W) V (hb0.trans (hVb.mono hb0.size))
      (fun s X Z hs hk => ⟨hIT s X Z hs.1 (hk.mono hVb.size), hs.2.keptT hk⟩)
      ?_ ⟨hVI, hV2⟩).mono ?_
    · rintro pre x r W ⟨hi, h2⟩ hL
      have hy := run_yield (P := Try.prog) (args := vals x) h2.l (by rw [hrc]; exact hps x)
      rw [hrc] at hy
      refine ⟨fn, _, assign, body, hy, roundIn_of_wpIn trivial (hassign _ pre x W _ hi fun a2 W2 hk2 hc2 hi2 hf2 => ?_)⟩
      clear hy
      have h22 := h2.from (by rw [hD]; exact hk2)
      refine ⟨_, run_beginRound h22.l (by rw [hrc]), ?_⟩
      have h2b := h22.put { rc .ready none with state := .busy }
      have kc := hc2.trans (KeepN.put (N := N) (T := T) (B := w.heap.size) (.loop { rc .ready none with state := .busy }) h22.l rfl)
      have hf3 : fr x a2 (W2.putObj (D + 1) (.loop { rc .ready none with state := .busy })) := hfr.putObj (s := (x, a2)) _ hf2 (by omega) h22.l rfl
      refine wpIn_mono (hbody _ pre x r a2 _ (put _ hi2 h22) hf3 hL) ?_
      generalize W2.putObj (D + 1) (.loop { rc .ready none with state := .busy }) = Wb at *
      rw [← hD]
      have fin : ∀ (jump : Option Code) (W3 : World), KeepsFrom D Wb W3 →
          (Instr.endRound (D + 1) jump).run Try.prog W3 = .ok (.bool jump.isNone) (W3.putObj (D + 1) (.loop (rc (if jump.isNone then .ready else .done) jump))) ∧ Two D { rc .ready none with state := .busy } W3 := fun jump W3 hk3 => by
        have h3 := h2b.from hk3
        have := run_endRound (P := Try.prog) jump h3.l
        rw [hrc] at this h3 ⊢
        exact ⟨this, h3⟩
      rintro e a3 W3 hp
      cases e with
      | normal =>
        obtain ⟨hk3, hc3, hi3⟩ := hp
        obtain ⟨hr, h3⟩ := fin none W3 hk3
        exact ⟨_, _, hr, .inl ⟨rfl, ⟨put _ hi3 h3, h3.put _⟩, ((kc.trans (by rw [hD] at hc3; exact hc3)).trans (KeepN.put _ h3.l rfl)).mono hVb.size⟩⟩
      | ret =>
        obtain ⟨hk3, hi3⟩ := hp
        obtain ⟨hr, h3⟩ := fin (some .ret) W3 hk3
        exact ⟨_, _, hr, .inr ⟨rfl, ⟨.ret, putx _ hi3 h3, h3.put _⟩⟩⟩
      | exit id =>
        obtain ⟨hk3, hi3⟩ := hp
        obtain ⟨hr, h3⟩ := fin (some (.exit id)) W3 hk3
        exact ⟨_, _, hr, .inr ⟨rfl, ⟨.exit id, putx _ hi3 h3, h3.put _⟩⟩⟩
      | goto t =>
        obtain ⟨hk3, hi3⟩ := hp
        obtain ⟨hr, h3⟩ := fin (some (.goto t)) W3 hk3
        exact ⟨_, _, hr, .inr ⟨rfl, ⟨.goto t, putx _ hi3 h3, h3.put _⟩⟩⟩
      | panic ch => exact hp.elim
      | outgrown => exact hp.elim
    · rintro e W2 ⟨⟨v, rfl⟩, (⟨hi, h2⟩ | ⟨pre, x, r, hL, ⟨c, hi, h2⟩⟩)⟩
      · have he := run_endLoop (P := Try.prog) h2.l (by rw [hrc]; simp)
        rw [hrc] at he
        exact ⟨none, _, he, hdone D _ (Nat.le_of_eq hD.symm) (put _ hi h2) ((World.putObj_heap_other (by omega)).trans h2.d)⟩
      · have he := run_endLoop (P := Try.prog) h2.l (by rw [hrc]; simp)
        rw [hrc] at he
        exact ⟨some c, _, he, hstop D c pre x r _ (Nat.le_of_eq hD.symm) hL (putx _ hi h2) ((World.putObj_heap_other (by omega)).trans h2.d)⟩
end Go.Proofs.Ytnplbmbbocffbaa
/- The iterator over rows of M merged. -/
namespace Go.Proofs.Ytnplbmbbocffbaa
open Go.RowKit Go.Shelf
set_option linter.unusedVariables false
set_option linter.unusedSimpArgs false
attribute [local go_sem] Oper.semAt_some
theorem LeftM.pick {N B0 g cap i : Nat} {w : World} {rs : List (List (Int × Int))} {x : (Int × Int)} {xs : List (Int × Int)} (h : LeftM N B0 w (.slice (some ⟨g, 0, none⟩) rs.length cap) rs) (hx : rs[i]? = some (x :: xs)) :
    ∃ g1 q1 c1, w.cell? ⟨g, i, none⟩ = some (.slice (some ⟨g1, q1, none⟩) (xs.length + 1) c1) ∧ w.frozen? ⟨g, i, none⟩ = false ∧ xs.length + 1 ≤ c1 ∧ c1 ≤ 9223372036854775807 ∧ g1 < N ∧ g1 < w.heap.size ∧ (∀ j u, (cEM x)[j]? = some u → w.cell? ⟨g1, q1 + j, none⟩ = some u) ∧ RowAtM N w (.slice (some ⟨g1, q1, none⟩) (xs.length + 1) c1) (x :: xs) := by
  obtain ⟨vs, h1, h2, h3⟩ := h.ex
  have hi := (List.getElem?_eq_some_iff.1 hx).1
  obtain ⟨u, hu⟩ : ∃ u, vs[i]? = some u := ⟨vs[i]'(by omega), List.getElem?_eq_getElem _⟩
  have hr := h3 i u _ hu hx
  obtain ⟨g1, q1, c1, rfl, a1, a2, a3, a4, a5⟩ := hr.head
  refine ⟨g1, q1, c1, own_cell h1 (g := g) rfl hu, ?_, a1, a2, a3, a4, a5, hr⟩
  rcases h1.2 with ⟨h0, _⟩ | ⟨g', cap', cur, e, _, hh, _⟩
  · cases h0
  · simp only [Value.slice.injEq, Option.some.injEq, Addr.mk.injEq] at e
    obtain ⟨⟨rfl, _⟩, _, _⟩ := e
    exact frozen_of_row w g i _ _ hh
theorem LeftM.form {N B0 : Nat} {w : World} {v : Value} {rs : List (List (Int × Int))} (h : LeftM N B0 w v rs) : ∃ A cap, v = .slice A rs.length cap ∧ (rs ≠ [] → ∃ g, A = some ⟨g, 0, none⟩ ∧ B0 ≤ g ∧ g < w.heap.size ∧ ∃ cs, w.heap[g]? = some (.cells cs 56 (0, 0))) := by
  obtain ⟨vs, h1, h2, h3⟩ := h.ex
  rcases h1.2 with ⟨hv, h0⟩ | ⟨g, cap, cur, hv, hb, hh, _⟩
  · refine ⟨none, 0, by rw [hv, ← h2, h0], fun hne => ?_⟩
    exact absurd (List.eq_nil_of_length_eq_zero (by omega)) hne
  · exact ⟨_, cap, by rw [hv, h2], fun _ => ⟨g, rfl, hb, (Array.getElem?_eq_some_iff.1 hh).1, cur, hh⟩⟩
theorem RowAtM.keepN {N B : Nat} {T : TypeId} {w w' : World} {v : Value} {l : List (Int × Int)} (h : RowAtM N w v l) (hk : KeepN (· < N) T B w w') : RowAtM N w' v l := by
  obtain ⟨A, cap, e, h1, h2, h3⟩ := h.ex
  refine ⟨A, cap, e, h1, h2, fun i x hx => ?_⟩
  obtain ⟨g, q, a1, a2, a3, a4⟩ := h3 i x hx
  exact ⟨g, q, a1, a2, Nat.lt_of_lt_of_le a3 hk.size, fun j u hu => hk.cell (a4 j u hu) a2⟩
theorem LeftM.keepN {N B0 : Nat} {w w' : World} {v : Value} {rs : List (List (Int × Int))} (h : LeftM N B0 w v rs) (hk : KeepN (· < N) 56 B0 w w') : LeftM N B0 w' v rs := by
  obtain ⟨vs, h1, h2, h3⟩ := h.ex
  exact ⟨vs, hk.row h1 (Nat.le_refl _), h2, fun i u l hu hl => (h3 i u l hu hl).keepN hk⟩
/-- One row is taken out. -/
theorem del_leftM {N B0 g cap i : Nat} {rs : List (List (Int × Int))} (w : World) (h : LeftM N B0 w (.slice (some ⟨g, 0, none⟩) rs.length cap) rs) (hi : i < rs.length) (hN : N ≤ B0) :
    Calls Try.prog 46 #[.slice (some ⟨g, 0, none⟩) rs.length cap, .int .i64 (i : Int), .int .i64 ((i : Int) + 1)] w fun e w' => e = .returned (.slice (some ⟨g, 0, none⟩) (rs.length - 1) cap) ∧ LeftM N B0 w' (.slice (some ⟨g, 0, none⟩) (rs.length - 1) cap) (rs.eraseIdx i) ∧ Kept [g] w w' := by
  obtain ⟨vs, h1, h2, h3⟩ := h.ex
  have hgB := (h1.lt g rfl).1
  rw [← h2] at hi ⊢
  have h1' : w.ownsRow B0 56 1 (.slice (some ⟨g, 0, none⟩) vs.length cap) vs.length vs := by rw [h2] at h1 ⊢; exact h1
  refine Calls.mono (delM w h1' (fun v hv => ?_) hi) ?_
  · obtain ⟨j, hj, rfl⟩ := List.getElem_of_mem hv
    obtain ⟨A, c, e, _⟩ := (h3 j _ rs[j] (List.getElem?_eq_getElem hj) (List.getElem?_eq_getElem (by omega))).ex
    exact ⟨(A, _, c), e⟩
  · rintro e w' ⟨rfl, hO, hK⟩
    refine ⟨rfl, ⟨vs.eraseIdx i, ?_, by rw [List.length_eraseIdx, List.length_eraseIdx, h2], fun j a l ha hl => ?_⟩, hK⟩
    · rw [List.length_eraseIdx, if_pos hi]; exact hO
    · rw [List.getElem?_eraseIdx] at ha hl
      have hk : KeepC [g] w w' := KeepC.kept hK
      split at ha
      · rename_i hji
        rw [if_pos hji] at hl
        exact (h3 j a l ha hl).keep hk (fun k hk2 => by simp at hk2; omega)
      · rename_i hji
        rw [if_neg hji] at hl
        exact (h3 (j + 1) a l ha hl).keep hk (fun k hk2 => by simp at hk2; omega)
set_option maxRecDepth 100000 in
set_option maxHeartbeats 8000000 in
theorem seqnM (n : Nat) (hn1 : 1 ≤ n) {N b1 b2 : Nat} {rs : List (List (Int × Int))} {w0 : World} (hM : MgM N w0 b1 b2 rs) :
    SeqN 56 (fun x : (Int × Int) => #[(.agg #[.int .i64 x.1, .int .i64 x.2] : Value)]) n 43 #[.pointer (some ⟨b1, 0, none⟩), .pointer (some ⟨b2, 0, none⟩)] (· < N) (mrg keyM rs) w0 := by
  intro l J Jx W hW hJB hY hJ
  have hM2 := hM.later hW
  obtain ⟨w1, v, vs, hNw, hB1, x1, hO, x2⟩ := hM2.ex
  have hB1' : Below w1.heap.size w1 W := by rw [← hNw]; exact hB1
  have y1 : Boxed W b1 47 v := (hB1'.block b1 x1.lt).trans x1
  have y2 : Boxed W b2 55 (.func (.func 21) #[] #[]) := (hB1'.block b2 x2.lt).trans x2
  have hb2 : b2 < N := by rw [hNw]; exact x2.lt
  have hNW : N ≤ W.heap.size := by rw [hNw]; exact hB1'.size
  have hOW := hO.later hB1'
  have hrows : ∀ (i : Nat) (u : Value) (l : List (Int × Int)), vs[i]? = some u → rs[i]? = some l → RowAtM N W u l := fun i u l hu hl => by
    rw [hNw]; exact (own_rowAtM (hO.each i u l hu hl)).later hB1'
  have hvs1 : ∀ u ∈ vs, u.oneCell' = true := fun u hu => by
    obtain ⟨j, hj, rfl⟩ := List.getElem_of_mem hu
    obtain ⟨A, c, e, _⟩ := (hrows j _ (rs[j]'(by rw [← hO.len]; exact hj)) (List.getElem?_eq_getElem hj) (List.getElem?_eq_getElem (by rw [← hO.len]; exact hj))).ex
    rw [e]; rfl
  have CL : Calls Try.prog 44 #[v] W (ClonePMM vs.length vs W) := by
    rcases hOW.row.2 with ⟨rfl, h0⟩ | ⟨g, cap, cur, rfl, _, hh, _⟩
    · have : vs = [] := List.eq_nil_of_length_eq_zero h0
      subst this
      exact cloneNilMM W
    · exact cloneMM g 0 _ cap vs W (fun j u hu => by rw [Nat.zero_add]; exact own_cell hOW.row (g := g) rfl hu) (by rw [Nat.mul_one]) hvs1 (by rw [hO.len]; have := hM.few; omega) (Array.getElem?_eq_some_iff.1 hh).1
  have c1 := y1.cell
  have c2 := y2.cell
  have HCL := Lib.hid CL
  have HY := Lib.hid hY
  have HJ := Lib.hid hJ
  have HB := Lib.hid hJB
  have HRS := Lib.hid (show vs.length = rs.length from hO.len)
  have HRW := Lib.hid hrows
  have HNE := Lib.hid hM.ne
  have HFW := Lib.hid hM.few
  have HY2 := Lib.hid y2
  have HNW := Lib.hid hNW
  have HB2 := Lib.hid hb2
  clear hW hJB hY hJ hM hM2 hNw hB1 hB1' x1 hO x2 y1 y2 hOW hrows hvs1 CL hNW hb2
  refine callsIn_of_wp Try.func43 rfl trivial ?_ rfl
  simp only [Try.ntmps43, List.size_toArray, List.length_cons, List.length_nil, Nat.reduceAdd, Nat.reduceSub, Array.replicate_succ, Array.replicate_zero, List.push_toArray, List.append_toArray, List.nil_append, List.cons_append]
  gi_wp2_with (refine ⟨trivial, ?_⟩; gi_at_call 44; refine (callsIn_wide.2 HCL.out).mono ?_; rintro e w1 ⟨v0, rfl, ho, hB1⟩; have HL0 : Hid (LeftM N W.heap.size w1 v0 rs) := Lib.hid ⟨⟨vs, ho, HRS.out, fun i u l hu hl => (HRW.out i u l hu hl).later hB1⟩⟩; have HJ1 := Lib.hid (HB.out _ _ _ HJ.out (KeptT.below hB1)); have HY2 := Lib.hid ((hB1.block b2 HY2.out.lt).trans HY2.out); have HSZ := Lib.hid hB1.size; clear ho hB1)
  gi_loopg [4] (tot rs + 1) (fun m v4 wr => ∃ (pre : List (Int × Int)) (r : List (List (Int × Int))), tot r < m ∧ Hid (mrg keyM rs = pre ++ mrg keyM r) ∧ Hid (J pre wr) ∧ Hid (LeftM N W.heap.size wr v4 r) ∧ Hid (Boxed wr b2 55 (.func (.func 21) #[] #[])) ∧ Hid (W.heap.size ≤ wr.heap.size) ∧ Hid (∀ l ∈ r, l ≠ []) ∧ Hid (r.length ≤ 1000))
  case atStart => exact ⟨[], rs, by omega, Lib.hid rfl, HJ1, HL0, HY2, HSZ, HNE, HFW⟩
  case round =>
    obtain ⟨pre, r, hm, hL, hJ1, hLf, hY2, hSz, hNe, hFw⟩ := hrel
    clear HJ1 HL0 HJ c1 c2
    obtain ⟨A, cap, rfl, hform⟩ := hLf.out.form
    have k2 := hY2.out.cell
    by_cases h0 : r = []
    · subst h0
      gi_wp2
      go_end0
      refine ⟨⟨_, rfl⟩, .inl ?_⟩
      have e := hL.out
      rw [show mrg keyM ([] : List (List (Int × Int))) = [] from rfl, List.append_nil] at e
      rw [e]
      exact hJ1.out
    · obtain ⟨g, rfl, hgB, hgl, cs, hgc⟩ := hform h0
      have h1 : 1 ≤ r.length := by
        cases r with
        | nil => exact absurd rfl h0
        | cons _ _ => simp
      have PF := firstM (cap := cap) wr hLf.out.rws rfl h1 hNe.out (by have := hFw.out; omega)
      have HPF := Lib.hid PF
      have hz : (0 : Int) < (r.length : Int) := by omega
      have HGC := Lib.hid hgc
      have HGB := Lib.hid hgB
      have HGL := Lib.hid hgl
      obtain ⟨nr, hnr⟩ : ∃ nr, r.length = nr := ⟨_, rfl⟩
      have HNR := Lib.hid hnr
      rw [hnr] at hz HPF hLf
      clear PF h1 h0 hform hgc hgB hgl
      simp only [hnr]
      clear hnr
      gi_upto_region 3 with (refine ⟨trivial, ?_⟩; gi_at_call 45; refine (callsIn_wide.2 HPF.out).mono ?_; rintro e w1 ⟨i, x, xs, rfl, hF, hB1⟩; have HF := Lib.hid hF; have HB1 := Lib.hid hB1; clear hF hB1)
      have HJ2 := Lib.hid (HB.out _ _ _ hJ1.out (KeptT.below HB1.out))
      have HL2 := Lib.hid (hLf.out.later HB1.out)
      have HL2 : Hid (LeftM N W.heap.size w1 (.slice (some ⟨g, 0, none⟩) r.length cap) r) := Lib.hid (by rw [HNR.out]; exact HL2.out)
      have HG2 : Hid (w1.heap[g]? = some (.cells cs 56 (0, 0))) := Lib.hid ((HB1.out.block g HGL.out).trans HGC.out)
      have HY3 : Hid (Boxed w1 b2 55 (.func (.func 21) #[] #[])) := Lib.hid ((HB1.out.block b2 hY2.out.lt).trans hY2.out)
      have HSZ2 := Lib.hid (Nat.le_trans hSz.out HB1.out.size)
      obtain ⟨g1, q1, c1, e1, f1, a1, a2, a3, a4, x0, hr⟩ := HL2.out.pick HF.out.at_
      have hi : i < nr := by have := (List.getElem?_eq_some_iff.1 HF.out.at_).1; rw [HNR.out] at this; exact this
      have ii0 : (0 : Int) ≤ (i : Int) := by omega
      have ii1 : (i : Int) < (nr : Int) := by omega
      have hz1 : (0 : Int) < ((xs.length + 1 : Nat) : Int) := by omega
      have HRow := Lib.hid hr
      have HX0 := Lib.hid x0
      have x00 : w1.cell? ⟨g1, q1, none⟩ = some (.int .i64 x.1) := HX0.out 0 _ rfl
      have x01 : w1.cell? ⟨g1, q1 + 1, none⟩ = some (.int .i64 x.2) := HX0.out 1 _ rfl
      clear hr HPF HGC HGL HGB hY2 hLf hJ1 hSz k2 x0
      gi_upto_region 4 with (fail)
      have hbb : Below w1.heap.size w1 (w1.alloc (.cells #[.int .i64 x.1, .int .i64 x.2] 54)) := (Below.refl _ _).alloc (Nat.le_refl _) _
      have HBB := Lib.hid hbb
      have HBX : Hid (∀ j u, (cEM x)[j]? = some u → (w1.alloc (.cells #[.int .i64 x.1, .int .i64 x.2] 54)).cell? ⟨w1.heap.size, j, none⟩ = some u) := Lib.hid (fun j u hu => by
        rw [cell_of_row _ _ j _ _ _ (heap_alloc_new w1 _)]
        simpa [cEM] using hu)
      have HSB := Lib.hid (show w1.heap.size < (w1.alloc (.cells #[.int .i64 x.1, .int .i64 x.2] 54)).heap.size by simp)
      generalize (w1.alloc (.cells #[.int .i64 x.1, .int .i64 x.2] 54)) = W2 at *
      have e2 := (HBB.out.cell (p := ⟨g, i, none⟩) (World.block_lt_of_cell? w1 _ e1)).trans e1
      have f2 : W2.frozen? ⟨g, i, none⟩ = false := by
        have : W2.heap[g]? = some (.cells cs 56 (0, 0)) := (HBB.out.block g (Array.getElem?_eq_some_iff.1 HG2.out).1).trans HG2.out
        exact frozen_of_row W2 g i _ _ this
      have HA1 := Lib.hid a1
      have HA4 := Lib.hid a4
      clear hbb e1 f1
      gi_upto_region 5 with (fail)
      generalize hAt : (if c1 = 1 then some (⟨g1, q1, none⟩ : Addr) else some ⟨g1, q1 + 2, none⟩) = At at *
      have HAt : Hid (0 < xs.length → At = some ⟨g1, q1 + 2, none⟩) := Lib.hid (fun h => by rw [← hAt, if_neg (by have := HA1.out; omega)])
      have hgl2 : g < w1.heap.size := (Array.getElem?_eq_some_iff.1 HG2.out).1
      have hgB : W.heap.size ≤ g := by
        obtain ⟨vs', h1', _⟩ := HL2.out.ex
        exact (h1'.lt g rfl).1
      have HTl := Lib.hid ((HRow.out.later HBB.out).tail HAt.out)
      have HL3 := Lib.hid ((HL2.out.later HBB.out).set (by rw [HNR.out]; exact hi) HTl.out HNW.out)
      have HK3 := Lib.hid ((Kept.refl [g] W2).set g i (.slice At xs.length (c1 - 1)) (by simp))
      have HG3 : Hid (W2.heap[g]? = some (.cells cs 56 (0, 0))) := Lib.hid ((HBB.out.block g hgl2).trans HG2.out)
      have HJ3 := Lib.hid (HB.out _ _ _ (HB.out _ _ _ HJ2.out (KeptT.below HBB.out)) (KeptT.kept HK3.out (fun k hk => by simp only [List.mem_singleton] at hk; subst hk; exact ⟨hgB, cs, _, HG3.out⟩)))
      have HY4 : Hid (Boxed (W2.setCell ⟨g, i, none⟩ (.slice At xs.length (c1 - 1))) b2 55 (.func (.func 21) #[] #[])) := Lib.hid ((HK3.out.block b2 (Nat.lt_of_lt_of_le HY3.out.lt HBB.out.size) (by have := HB2.out; have := HNW.out; simp; omega)).trans ((HBB.out.block b2 HY3.out.lt).trans HY3.out))
      have e3 := World.cell?_setCell_same _ _ (.slice At xs.length (c1 - 1)) e2
      have HBX3 : Hid (∀ j u, (cEM x)[j]? = some u → (W2.setCell ⟨g, i, none⟩ (.slice At xs.length (c1 - 1))).cell? ⟨w1.heap.size, j, none⟩ = some u) := Lib.hid (fun j u hu => (HK3.out.cell HSB.out (by simp; omega)).trans (HBX.out j u hu))
      have HSB3 := Lib.hid (Nat.lt_of_lt_of_le HSB.out HK3.out.size)
      have HSZ3 := Lib.hid (Nat.le_trans (Nat.le_trans HSZ2.out HBB.out.size) HK3.out.size)
      have HG4 : Hid (∃ cs', (W2.setCell ⟨g, i, none⟩ (.slice At xs.length (c1 - 1))).heap[g]? = some (.cells cs' 56 (0, 0))) := Lib.hid ⟨_, heap_setCell_same _ _ _ _ _ _ HG3.out⟩
      have HNX := Lib.hid (mrg_next keyM HF.out)
      have HPT := Lib.hid (pick_tot keyM r x _ (pick_at keyM r i x xs HF.out))
      have HGL2 := Lib.hid hgl2
      have HGB := Lib.hid hgB
      have HI := Lib.hid hi
      have HNES : Hid (∀ l ∈ r.set i xs, l = xs ∨ l ≠ []) := Lib.hid (fun l hl => by
        rcases List.mem_or_eq_of_mem_set hl with h | h
        · exact .inr (hNe.out l h)
        · exact .inl h)
      clear hAt e2 f2 hgl2 hgB hi
      generalize hW3 : W2.setCell ⟨g, i, none⟩ (.slice At xs.length (c1 - 1)) = W3 at *
      have HW3 := Lib.hid hW3
      clear hW3
      by_cases hxs : xs = []
      · have hx0 : xs.length = 0 := by rw [hxs]; rfl
        have DL := del_leftM (cap := cap) (rs := r.set i xs) W3 (by rw [List.length_set]; exact HL3.out) (by rw [List.length_set, HNR.out]; exact HI.out) HNW.out
        rw [List.length_set, HNR.out] at DL
        have HDL := Lib.hid DL
        have hwi : wrap64 ((i : Int) + 1) = (i : Int) + 1 := IntWalk.wrap64_in _ (by have := HI.out; have := hFw.out; have := HNR.out; omega)
        have HXS := Lib.hid hxs
        have HM2 : Hid (mrg keyM ((r.set i xs).eraseIdx i) = mrg keyM (r.set i xs)) := Lib.hid (by
          rw [mrg_gone keyM (by rw [List.length_set, HNR.out]; exact HI.out), List.set_set, HXS.out])
        rw [hx0] at e3
        clear DL hxs HTl HRow HL3
        rw [hx0]
        gi_wp2_with (refine ⟨trivial, ?_⟩; gi_at_call 46; go_loud ((with_reducible refine (callsIn_wide.2 HDL.out).mono ?_); rintro e w4 ⟨rfl, hL4, hK4⟩; have HL4 := Lib.hid hL4; have HK4 := Lib.hid hK4; have HJ4 := Lib.hid (HB.out _ _ _ HJ3.out (KeptT.kept hK4 (fun k hk => by simp only [List.mem_singleton] at hk; subst hk; exact ⟨HGB.out, HG4.out.choose, _, HG4.out.choose_spec⟩))); have HBX4 : Hid (∀ j u, (cEM x)[j]? = some u → w4.cell? ⟨w1.heap.size, j, none⟩ = some u) := (Lib.hid (fun j u hu => (hK4.cell HSB3.out (by have := HGL2.out; simp; omega)).trans (HBX3.out j u hu))); have HY5 : Hid (Boxed w4 b2 55 (.func (.func 21) #[] #[])) := (Lib.hid ((hK4.block b2 HY4.out.lt (by have := HB2.out; have := HNW.out; have := HGB.out; simp; omega)).trans HY4.out)); have HSZ4 := Lib.hid (Nat.le_trans HSZ3.out hK4.size); have HLE : Hid (mrg keyM rs = pre ++ x :: mrg keyM ((r.set i xs).eraseIdx i)) := Lib.hid (by rw [hL.out, HNX.out, HM2.out]); clear hL4 hK4; have b40 : w4.cell? ⟨w1.heap.size, 0, none⟩ = some (.int .i64 x.1) := HBX4.out 0 _ rfl; have b41 : w4.cell? ⟨w1.heap.size, 1, none⟩ = some (.int .i64 x.2) := HBX4.out 1 _ rfl; obtain ⟨fn, tmps, assign, body, hy, hRd⟩ := HY.out pre x (mrg keyM ((r.set i xs).eraseIdx i)) _ HJ4.out HLE.out; try dsimp only at hy))
        refine hRd.mono ?_
        rintro e W5 (⟨rfl, hJ5, hk5⟩ | ⟨rfl, hJx5⟩)
        · have HL5 := Lib.hid (HL4.out.keepN hk5)
          have HY6 : Hid (Boxed W5 b2 55 (.func (.func 21) #[] #[])) := Lib.hid (hk5.box HY5.out HB2.out)
          have HSZ5 := Lib.hid (Nat.le_trans HSZ4.out hk5.size)
          have HJ5 := Lib.hid hJ5
          have HLE5 : Hid (mrg keyM rs = (pre ++ [x]) ++ mrg keyM ((r.set i xs).eraseIdx i)) := Lib.hid (by rw [HLE.out]; simp)
          have htot : tot ((r.set i xs).eraseIdx i) + 1 = tot r := (by have h1 := mrg_len keyM _ ((r.set i xs).eraseIdx i) (Nat.le_refl _); have h2 := mrg_len keyM _ (r.set i xs) (Nat.le_refl _); rw [HM2.out, h2] at h1; have h3 := HPT.out; omega)
          have HTOT := Lib.hid htot
          clear hJ5 hk5 hy hRd htot
          gi_wp2
          gi_roundg (tot ((r.set i xs).eraseIdx i) + 1)
          case measure => have := HTOT.out; omega
          case rel => exact ⟨pre ++ [x], ((r.set i xs).eraseIdx i), Nat.lt_succ_self _, HLE5, HJ5, HL5, HY6, HSZ5, Lib.hid (fun l hl => by rw [List.eraseIdx_set_eq] at hl; exact hNe.out l (List.mem_of_mem_eraseIdx hl)), Lib.hid (by rw [List.length_eraseIdx]; split <;> simp only [List.length_set] <;> have := hFw.out <;> omega)⟩
        · clear hy hRd
          gi_wp2
          refine bodyPost_ret (results_none rfl _ _ _) rfl ?_
          exact ⟨⟨_, rfl⟩, .inr ⟨pre, x, _, HLE.out, hJx5⟩⟩
      · have HXS := Lib.hid hxs
        have hx0 : (((xs.length : Nat) : Int) == 0) = false := by
          rw [beq_eq_false_iff_ne]
          have : xs.length ≠ 0 := fun h => hxs (List.eq_nil_of_length_eq_zero h)
          omega
        have HL4 : Hid (LeftM N W.heap.size W3 (.slice (some ⟨g, 0, none⟩) nr cap) (r.set i xs)) := Lib.hid (by have := HL3.out; rw [HNR.out] at this; exact this)
        have HY5 := HY4
        have HSZ4 := HSZ3
        have HLE : Hid (mrg keyM rs = pre ++ x :: mrg keyM (r.set i xs)) := Lib.hid (by rw [hL.out, HNX.out])
        have b40 : W3.cell? ⟨w1.heap.size, 0, none⟩ = some (.int .i64 x.1) := HBX3.out 0 _ rfl
        have b41 : W3.cell? ⟨w1.heap.size, 1, none⟩ = some (.int .i64 x.2) := HBX3.out 1 _ rfl
        obtain ⟨fn, tmps, assign, body, hy, hRd⟩ := HY.out pre x (mrg keyM (r.set i xs)) _ HJ3.out HLE.out
        try dsimp only at hy
        clear hxs HTl HRow HL3
        gi_wp2
        refine hRd.mono ?_
        rintro e W5 (⟨rfl, hJ5, hk5⟩ | ⟨rfl, hJx5⟩)
        · have HL5 := Lib.hid (HL4.out.keepN hk5)
          have HY6 : Hid (Boxed W5 b2 55 (.func (.func 21) #[] #[])) := Lib.hid (hk5.box HY5.out HB2.out)
          have HSZ5 := Lib.hid (Nat.le_trans HSZ4.out hk5.size)
          have HJ5 := Lib.hid hJ5
          have HLE5 : Hid (mrg keyM rs = (pre ++ [x]) ++ mrg keyM (r.set i xs)) := Lib.hid (by rw [HLE.out]; simp)
          have htot : tot (r.set i xs) + 1 = tot r := HPT.out.symm
          have HTOT := Lib.hid htot
          clear hJ5 hk5 hy hRd htot
          gi_wp2
          gi_roundg (tot (r.set i xs) + 1)
          case measure => have := HTOT.out; omega
          case rel => exact ⟨pre ++ [x], (r.set i xs), Nat.lt_succ_self _, HLE5, HJ5, HL5, HY6, HSZ5, Lib.hid (fun l hl => by rcases HNES.out l hl with h | h; exact (fun e => HXS.out (h.symm.trans e)); exact h), Lib.hid (by rw [List.length_set]; exact hFw.out)⟩
        · clear hy hRd
          gi_wp2
          refine bodyPost_ret (results_none rfl _ _ _) rfl ?_
          exact ⟨⟨_, rfl⟩, .inr ⟨pre, x, _, HLE.out, hJx5⟩⟩
theorem seqM (n : Nat) (hn1 : 1 ≤ n) {N b1 b2 : Nat} {X : List Nat} {rs : List (List (Int × Int))} {w0 : World} (hM : MgM N w0 b1 b2 rs) (hX : ∀ k ∈ X, N ≤ k ∧ k < w0.heap.size) :
    SeqT 56 (fun x : (Int × Int) => #[(.agg #[.int .i64 x.1, .int .i64 x.2] : Value)]) n 43 #[.pointer (some ⟨b1, 0, none⟩), .pointer (some ⟨b2, 0, none⟩)] X (mrg keyM rs) w0 := (seqnM n hn1 hM).toT (fun k hk => ⟨by have := (hX k hk).1; omega, (hX k hk).2⟩)
end Go.Proofs.Ytnplbmbbocffbaa
/- slices.Clone of a row of I. -/



namespace Go.Proofs.Ytnplbmbbocffbaa
open Go.RowKit Go.Shelf
set_option linter.unusedVariables false
set_option linter.unusedSimpArgs false
attribute [local go_sem ↓] Go.wp_at_zero Go.wp_at_succ
theorem infoEI : (Try.prog.info? 3).map (fun i => (i.zero, i.size, i.bytes)) = some (some (.int .i64 0), 1, 8) := by kernel_rfl
def ClonePI (n : Nat) (cs : List Value) (w : World) (e : Ending) (w' : World) : Prop := ∃ v', e = .returned v' ∧ w'.ownsRow w.heap.size 3 1 v' n cs ∧ Below w.heap.size w w'
theorem own_emptyI {w : World} {base : Nat} (hb : base ≤ w.heap.size) : (w.alloc (.cells #[] 3)).ownsRow base 3 1 (.slice (some ⟨w.heap.size, 0, none⟩) 0 0) 0 [] := World.ownsRow_lit w #[] 0 hb (by unfold maxLen; omega) rfl
set_option maxRecDepth 100000 in
set_option maxHeartbeats 4000000 in
theorem cloneI (g o n cap : Nat) (cs : List Value) (w : World) (hc : ∀ j u, cs[j]? = some u → w.cell? ⟨g, o + j, none⟩ = some u) (hl : cs.length = n * 1) (h1 : ∀ u ∈ cs, u.oneCell' = true) (hn : n ≤ 100000) (hgl : g < w.heap.size) :
    Calls Try.prog 39 #[.slice (some ⟨g, o, none⟩) n cap] w (ClonePI n cs w) := by
  obtain ⟨i0, hi, hz0, hz1, hz2⟩ := info_parts infoEI
  have HC := Lib.hid (show ∀ (j : Nat) (u : Value), cs[j]? = some u → (w.alloc (.cells #[] 3)).cell? ((⟨g, o, none⟩ : Addr).add j) = some u from fun j u hj => by
    have := hc j u hj
    rw [add_none, World.cell?_alloc_lt _ _ _ (by simpa using hgl)]
    exact this)
  have HL := Lib.hid hl
  have HO := Lib.hid (own_emptyI (w := w) (Nat.le_refl _))
  have HA := Lib.hid (show Below w.heap.size w (w.alloc (.cells #[] 3)) from (Below.refl _ _).alloc (Nat.le_refl _) _)
  have H1 := Lib.hid h1
  have hne := fun w => Lib.run_eql_slice_nil (P := Try.prog) w 34 _ (some ⟨g, o, none⟩) n cap 0 0 Try.underlying34
  clear hc hl h1 hgl
  go_enter Try.func39, Try.ntmps39
  go_wp2_with (at_builtin; go_loud (refine wpList_append_own _ rfl _ _ 34 rfl w.heap.size 3 i0 _ 1 8 Try.underlying34 hi hz0 hz1 hz2 rfl (by decide) (.slice (some ⟨w.heap.size, 0, none⟩) 0 0) 0 [] rfl HO.out ⟨g, o, none⟩ n cap cs rfl HL.out HC.out H1.out (by unfold maxLen; omega) (by omega) (by simp) ?_; intro v' w1 hown hgrow hnil; have hB1 : Below w.heap.size w w1 := HA.out.grown hgrow (by simp) (fun k e => by simp [Value.ownBlock] at e; omega)))
  go_ret
  exact ⟨v', rfl, by simpa using hown, hB1⟩
set_option maxHeartbeats 1000000 in
theorem cloneNilI (w : World) : Calls Try.prog 39 #[.slice none 0 0] w (ClonePI 0 [] w) := by
  have hne := fun w => Lib.run_eql_slice_nil (P := Try.prog) w 34 _ none 0 0 0 0 Try.underlying34
  go_enter Try.func39, Try.ntmps39
  go_wp2
  go_ret
  exact ⟨_, rfl, World.ownsRow_nil _ _ _ _, Below.refl _ _⟩
end Go.Proofs.Ytnplbmbbocffbaa
/- Rows of I in memory; which is less. -/
namespace Go.Proofs.Ytnplbmbbocffbaa
open Go.RowKit Go.Shelf
set_option linter.unusedVariables false
set_option linter.unusedSimpArgs false
attribute [local go_sem ↓] Go.wp_at_zero Go.wp_at_succ
abbrev keyI : Int → Int := fun x : Int => x
def cEI (x : Int) : List Value := [.int .i64 x]
def cLI (l : List Int) : List Value := l.flatMap cEI
theorem cL_lenI (l : List Int) : (cLI l).length = l.length * 1 := by
  induction l with
  | nil => rfl
  | cons a r ih => rw [cLI, List.flatMap_cons, List.length_append, ← cLI, ih]; simp only [cEI, List.length_cons, List.length_nil]; omega
theorem cL_oneI (l : List Int) : ∀ u ∈ cLI l, u.oneCell' = true := by
  intro u hu
  obtain ⟨x, -, hx⟩ := List.mem_flatMap.1 hu
  simp only [cEI, List.mem_cons, List.not_mem_nil, or_false] at hx
  first | (rcases hx with rfl | rfl <;> rfl) | (rcases hx with rfl; rfl)
theorem cL_getI (l : List Int) : ∀ (i : Nat) (x : Int), l[i]? = some x → ∀ j v, (cEI x)[j]? = some v → (cLI l)[i * 1 + j]? = some v := by
  induction l with
  | nil => intro i x h; simp at h
  | cons a r ih =>
    intro i x h j v hv
    cases i with
    | zero =>
      simp at h; subst h
      have hj : j < 1 := (List.getElem?_eq_some_iff.1 hv).1
      rw [Nat.zero_mul, Nat.zero_add, cLI, List.flatMap_cons, List.getElem?_append_left (by simp only [cEI, List.length_cons, List.length_nil]; omega)]
      exact hv
    | succ i =>
      simp only [List.getElem?_cons_succ] at h
      have := ih i x h j v hv
      rw [cLI, List.flatMap_cons, List.getElem?_append_right (by simp only [cEI, List.length_cons, List.length_nil]; omega)]
      rw [show (i + 1) * 1 + j - (cEI a).length = i * 1 + j by simp only [cEI, List.length_cons, List.length_nil]; omega]
      exact this
/-- A slice that reads as a row. -/
structure RowAtI (N : Nat) (w : World) (v : Value) (l : List Int) : Prop where
  ex : ∃ A cap, v = .slice A l.length cap ∧ l.length ≤ cap ∧ cap ≤ 9223372036854775807 ∧ ∀ i x, l[i]? = some x → ∃ g q, A = some ⟨g, q, none⟩ ∧ g < N ∧ g < w.heap.size ∧ ∀ j u, (cEI x)[j]? = some u → w.cell? ⟨g, q + i * 1 + j, none⟩ = some u
section
variable {N : Nat} {w w' : World} {v : Value} {l : List Int}
theorem RowAtI.keep {X : List Nat} (h : RowAtI N w v l) (hk : KeepC X w w') (hX : ∀ k ∈ X, N ≤ k) : RowAtI N w' v l := by
  obtain ⟨A, cap, e, h1, h2, h3⟩ := h.ex
  refine ⟨A, cap, e, h1, h2, fun i x hx => ?_⟩
  obtain ⟨g, q, a1, a2, a3, a4⟩ := h3 i x hx
  exact ⟨g, q, a1, a2, Nat.lt_of_lt_of_le a3 hk.size, fun j u hu => hk.cell (a4 j u hu) (fun hm => by have := hX g hm; omega)⟩
theorem RowAtI.later (h : RowAtI N w v l) (hb : Below w.heap.size w w') : RowAtI N w' v l := h.keep (KeepC.below (X := []) hb) (by simp)
theorem RowAtI.mono {M : Nat} (h : RowAtI N w v l) (hN : N ≤ M) : RowAtI M w v l := by
  obtain ⟨A, cap, e, h1, h2, h3⟩ := h.ex
  refine ⟨A, cap, e, h1, h2, fun i x hx => ?_⟩
  obtain ⟨g, q, a1, a2, a3, a4⟩ := h3 i x hx
  exact ⟨g, q, a1, by omega, a3, a4⟩
theorem RowAtI.head {x : Int} {xs : List Int} (h : RowAtI N w v (x :: xs)) : ∃ g q cap, v = .slice (some ⟨g, q, none⟩) (xs.length + 1) cap ∧ xs.length + 1 ≤ cap ∧ cap ≤ 9223372036854775807 ∧ g < N ∧ g < w.heap.size ∧ ∀ j u, (cEI x)[j]? = some u → w.cell? ⟨g, q + j, none⟩ = some u := by
  obtain ⟨A, cap, e, h1, h2, h3⟩ := h.ex
  obtain ⟨g, q, rfl, a2, a3, a4⟩ := h3 0 x rfl
  exact ⟨g, q, cap, e, h1, h2, a2, a3, fun j u hu => by have := a4 j u hu; rwa [Nat.zero_mul, Nat.add_zero] at this⟩
/-- What is behind the first. -/
theorem RowAtI.tail {x : Int} {xs : List Int} {g q cap : Nat} {A : Option Addr} (h : RowAtI N w (.slice (some ⟨g, q, none⟩) (xs.length + 1) cap) (x :: xs)) (hA : 0 < xs.length → A = some ⟨g, q + 1, none⟩) : RowAtI N w (.slice A xs.length (cap - 1)) xs := by
  obtain ⟨A', cap', e, h1, h2, h3⟩ := h.ex
  simp only [Value.slice.injEq] at e
  obtain ⟨rfl, _, rfl⟩ := e
  rw [List.length_cons] at h1
  refine ⟨A, cap - 1, rfl, by omega, by omega, fun i y hy => ?_⟩
  obtain ⟨g', q', a1, a2, a3, a4⟩ := h3 (i + 1) y (by simpa using hy)
  simp only [Option.some.injEq, Addr.mk.injEq] at a1
  obtain ⟨rfl, rfl, _⟩ := a1
  have hil := (List.getElem?_eq_some_iff.1 hy).1
  refine ⟨g, q + 1, hA (by omega), a2, a3, fun j u hu => ?_⟩
  have := a4 j u hu
  rwa [show q + (i + 1) * 1 + j = q + 1 + i * 1 + j by omega] at this
end
/-- Rows, by the cells of a row of slices. -/
structure RwsI (N : Nat) (w : World) (b o : Nat) (rs : List (List Int)) : Prop where
  at_ : ∀ i l, rs[i]? = some l → ∃ v, w.cell? ⟨b, o + i, none⟩ = some v ∧ RowAtI N w v l
theorem RwsI.later {N b o : Nat} {w w' : World} {rs : List (List Int)} (h : RwsI N w b o rs) (hb : Below w.heap.size w w') : RwsI N w' b o rs := ⟨fun i l hl => by
  obtain ⟨v, h1, h2⟩ := h.at_ i l hl
  exact ⟨v, (hb.cell (p := ⟨b, o + i, none⟩) (World.block_lt_of_cell? w _ h1)).trans h1, h2.later hb⟩⟩
set_option maxHeartbeats 1000000 in
theorem lessI (x y : Int) (w : World) : Calls Try.prog 24 #[(.int .i64 x : Value), (.int .i64 y : Value)] w fun e w' => e = .returned (.bool (decide (keyI x < keyI y))) ∧ Below w.heap.size w w' := by
  skip
  go_enter Try.func24, Try.ntmps24
  go_wp2
  go_ret
  first
  | exact ⟨rfl, Below.refl _ _⟩
  | exact ⟨rfl, ((Below.refl _ _).alloc (Nat.le_refl _) _).alloc (by simp) _⟩
end Go.Proofs.Ytnplbmbbocffbaa
/- Of rows of I, one whose first is least. -/
namespace Go.Proofs.Ytnplbmbbocffbaa
open Go.RowKit Go.Shelf
set_option linter.unusedVariables false
set_option linter.unusedSimpArgs false
attribute [local go_sem ↓] Go.wp_at_zero Go.wp_at_succ
/-- Two rows with their first things. -/
abbrev TwoRI (w0 : World) (b a1 a2 : Nat) (v1 v2 : Value) (g1 q1 g2 q2 : Nat) (x y : Int) (W : World) : Prop :=
  W.cell? ⟨b, a1, none⟩ = some v1 ∧ W.cell? ⟨b, a2, none⟩ = some v2 ∧ W.cell? ⟨g1, q1, none⟩ = some (.int .i64 x) ∧ W.cell? ⟨g2, q2, none⟩ = some (.int .i64 y) ∧ Below w0.heap.size w0 W ∧ b < w0.heap.size ∧ g1 < w0.heap.size ∧ g2 < w0.heap.size
theorem TwoRI.step {w0 : World} {b a1 a2 : Nat} {v1 v2 : Value} {g1 q1 g2 q2 : Nat} {x y : Int} {W W' : World} (h : TwoRI w0 b a1 a2 v1 v2 g1 q1 g2 q2 x y W) (hb : Below W.heap.size W W') : TwoRI w0 b a1 a2 v1 v2 g1 q1 g2 q2 x y W' := by
  have hs := h.2.2.2.2.1.size
  have k := fun (g i : Nat) (hg : g < w0.heap.size) => hb.cell (p := ⟨g, i, none⟩) (Nat.lt_of_lt_of_le hg hs)
  obtain ⟨h1, h2, h3, h4, h5, l1, l2, l3⟩ := h
  refine ⟨(k b _ l1).trans h1, (k b _ l1).trans h2, ?_, ?_, h5.trans (hb.mono hs), l1, l2, l3⟩
  · first | exact (k g1 _ l2).trans h3 | exact ⟨(k g1 _ l2).trans h3.1, (k g1 _ l2).trans h3.2⟩
  · first | exact (k g2 _ l3).trans h4 | exact ⟨(k g2 _ l3).trans h4.1, (k g2 _ l3).trans h4.2⟩
def LowOkI (rs : List (List Int)) (i low : Nat) : Prop := low < rs.length ∧ ∀ j y ys x xs, i ≤ j → rs[j]? = some (y :: ys) → rs[low]? = some (x :: xs) → keyI x ≤ keyI y
theorem rw_getI {N b o : Nat} {w : World} {rs : List (List Int)} (hR : RwsI N w b o rs) (hne : ∀ l ∈ rs, l ≠ []) {i : Nat} (hi : i < rs.length) : ∃ x xs g q cap, rs[i]? = some (x :: xs) ∧ w.cell? ⟨b, o + i, none⟩ = some (.slice (some ⟨g, q, none⟩) (xs.length + 1) cap) ∧ xs.length + 1 ≤ cap ∧ cap ≤ 9223372036854775807 ∧ g < N ∧ g < w.heap.size ∧ ∀ j u, (cEI x)[j]? = some u → w.cell? ⟨g, q + j, none⟩ = some u := by
  obtain ⟨v, h1, h2⟩ := hR.at_ i _ (List.getElem?_eq_getElem hi)
  have hm := hne _ (List.getElem_mem hi)
  cases hl : rs[i] with
  | nil => exact absurd hl hm
  | cons x xs =>
    rw [hl] at h2
    obtain ⟨g, q, cap, rfl, a1, a2, a3, a4, a5⟩ := h2.head
    exact ⟨x, xs, g, q, cap, by rw [List.getElem?_eq_getElem hi, hl], h1, a1, a2, a3, a4, a5⟩
set_option maxRecDepth 100000 in
set_option maxHeartbeats 4000000 in
theorem lowI {N b o n cap : Nat} {rs : List (List Int)} (w : World) (hR : RwsI N w b o rs) (hn : rs.length = n) (h1 : 1 ≤ n) (hne : ∀ l ∈ rs, l ≠ []) (hlim : n ≤ 100000) :
    Calls Try.prog 62 #[.func (.func 24) #[] #[], .slice (some ⟨b, o, none⟩) n cap] w fun e w' => ∃ low : Nat, e = .returned (.int .i64 (low : Int)) ∧ LowOkI rs 0 low ∧ Below w.heap.size w w' := by
  have HR := Lib.hid hR
  have HN := Lib.hid hn
  have HE := Lib.hid hne
  have hL0 : LowOkI rs (n - 1) (n - 1) := ⟨by omega, fun j y ys x xs hj hy hx => by
    have := (List.getElem?_eq_some_iff.1 hy).1
    obtain rfl : j = n - 1 := by omega
    rw [hy] at hx
    simp only [Option.some.injEq, List.cons.injEq] at hx
    rw [hx.1]; exact Int.le_refl _⟩
  have HL0 := Lib.hid hL0
  have HM := Lib.hid (show ((n - 1 : Nat) : Int) = (n : Int) - 1 by omega)
  clear hR hn hne hL0
  go_enter Try.func62, Try.ntmps62
  go_wp2
  go_loopw [5, 6] (fun a c wr => ∃ k low : Nat, k < n ∧ low < n ∧ a = .int .i64 (low : Int) ∧ c = .int .i64 ((k : Int) - 1) ∧ Hid (LowOkI rs k low) ∧ Hid (Below w.heap.size w wr)) (fun _ c _ => (intOf c + 1).toNat)
  case atStart => exact ⟨n - 1, n - 1, by omega, by omega, by rw [HM.out], by rw [HM.out], HL0, Lib.hid (Below.refl _ _)⟩
  case round =>
    obtain ⟨k, low, hk, hlow, rfl, rfl, hL, hB⟩ := hrel
    clear HL0
    by_cases h0 : 1 ≤ k
    · obtain ⟨m, rfl⟩ : ∃ m, k = m + 1 := ⟨k - 1, by omega⟩
      have hcast : ((m + 1 : Nat) : Int) - 1 = (m : Int) := by omega
      rw [hcast]
      have RR := HR.out.later hB.out
      obtain ⟨x, xs, g1, q1, c1, hx, e1, _, _, _, l1, x0⟩ := rw_getI RR HE.out (i := m) (by rw [HN.out]; omega)
      obtain ⟨y, ys, g2, q2, c2, hy, e2, _, _, _, l2, y0⟩ := rw_getI RR HE.out (i := low) (by rw [HN.out]; omega)
      have hbl := World.block_lt_of_cell? wr _ e1
      have HX := Lib.hid hx
      have HY := Lib.hid hy
      have T0 : Hid (TwoRI wr b (o + m) (o + low) (.slice (some ⟨g1, q1, none⟩) (xs.length + 1) c1) (.slice (some ⟨g2, q2, none⟩) (ys.length + 1) c2) g1 q1 g2 q2 x y wr.drew) := Lib.hid ⟨e1, e2, (x0 0 _ rfl), (y0 0 _ rfl), below_drew wr, hbl, l1, l2⟩
      have F0 := lessI x y wr.drew
      obtain ⟨t, ht⟩ : ∃ t, decide (keyI x < keyI y) = t := ⟨_, rfl⟩
      rw [ht] at F0
      have HT := Lib.hid ht
      have F0 := Lib.hid F0
      have im0 : (0 : Int) ≤ (m : Int) := by omega
      have im1 : (m : Int) < (n : Int) := by omega
      have il0 : (0 : Int) ≤ (low : Int) := by omega
      have il1 : (low : Int) < (n : Int) := by omega
      have hz1 : (0 : Int) < ((xs.length + 1 : Nat) : Int) := by omega
      have hz2 : (0 : Int) < ((ys.length + 1 : Nat) : Int) := by omega
      clear hx hy e1 e2 x0 y0 ht RR hcast h0
      generalize xs.length + 1 = n1 at *
      generalize ys.length + 1 = n2 at *
      go_upto_region 5 with (fail)
      go_region_held_law (fun W => TwoRI wr b (o + m) (o + low) (.slice (some ⟨g1, q1, none⟩) n1 c1) (.slice (some ⟨g2, q2, none⟩) n2 c2) g1 q1 g2 q2 x y W)
        (first | (with_reducible assumption) | (with_reducible exact T0.out) | (with_reducible exact T1.out) | fail)
        (first | (go_at_call 24; (with_reducible refine F0.out.mono ?_); rintro e w1 ⟨rfl, hb1⟩; have T1 := Lib.hid (TwoRI.step T0.out hb1)) | fail)
      all_goals (
        have B1 := Lib.hid (hB.out.trans (T1.out.2.2.2.2.1.mono hB.out.size))
        rcases (Bool.eq_false_or_eq_true t).symm with rfl | rfl
        · go_wp2
          refine ⟨⟨m, low, by omega, by omega, rfl, by go_num, Lib.hid ⟨by rw [HN.out]; omega, fun j z zs u us hj hz hu => ?_⟩, B1⟩, by first | (simp [intOf]; done) | (simp [intOf]; omega)⟩
          rw [HY.out] at hu
          simp only [Option.some.injEq, List.cons.injEq] at hu
          obtain ⟨rfl, rfl⟩ := hu
          rcases Nat.lt_or_ge m j with h | h
          · exact hL.out.2 j z zs y ys h hz HY.out
          · obtain rfl : j = m := by omega
            rw [HX.out] at hz
            simp only [Option.some.injEq, List.cons.injEq] at hz
            obtain ⟨rfl, rfl⟩ := hz
            have := of_decide_eq_false HT.out
            omega
        · go_wp2
          refine ⟨⟨m, m, by omega, by omega, rfl, by go_num, Lib.hid ⟨by rw [HN.out]; omega, fun j z zs u us hj hz hu => ?_⟩, B1⟩, by first | (simp [intOf]; done) | (simp [intOf]; omega)⟩
          rw [HX.out] at hu
          simp only [Option.some.injEq, List.cons.injEq] at hu
          obtain ⟨rfl, rfl⟩ := hu
          have hlt := of_decide_eq_true HT.out
          rcases Nat.lt_or_ge m j with h | h
          · have := hL.out.2 j z zs y ys h hz HY.out
            omega
          · obtain rfl : j = m := by omega
            rw [HX.out] at hz
            simp only [Option.some.injEq, List.cons.injEq] at hz
            rw [hz.1]; exact Int.le_refl _)
    · obtain rfl : k = 0 := by omega
      go_wp2
      go_ret
      exact ⟨low, rfl, hL.out, hB.out⟩
end Go.Proofs.Ytnplbmbbocffbaa
/- Of rows of I, the first one whose first is least. -/
namespace Go.Proofs.Ytnplbmbbocffbaa
open Go.RowKit Go.Shelf
set_option linter.unusedVariables false
set_option linter.unusedSimpArgs false
attribute [local go_sem ↓] Go.wp_at_zero Go.wp_at_succ
/-- None of those ahead of place i is so small. -/
def AllGtI (rs : List (List Int)) (i low : Nat) : Prop := ∀ j y ys x xs, j < i → rs[j]? = some (y :: ys) → rs[low]? = some (x :: xs) → keyI x < keyI y
/-- None of the first k is less than place i. -/
def NonLtI (rs : List (List Int)) (k i : Nat) : Prop := ∀ j y ys x xs, j < k → rs[j]? = some (y :: ys) → rs[i]? = some (x :: xs) → keyI x ≤ keyI y
set_option maxRecDepth 100000 in
set_option maxHeartbeats 4000000 in
theorem firstI {N b o n cap : Nat} {rs : List (List Int)} (w : World) (hR : RwsI N w b o rs) (hn : rs.length = n) (h1 : 1 ≤ n) (hne : ∀ l ∈ rs, l ≠ []) (hlim : n ≤ 100000) :
    Calls Try.prog 50 #[.func (.func 24) #[] #[], .slice (some ⟨b, o, none⟩) n cap] w fun e w' => ∃ (i : Nat) (x : Int) (xs : List Int), e = .returned (.int .i64 (i : Int)) ∧ Fst keyI rs i x xs ∧ Below w.heap.size w w' := by
  have LW := lowI (cap := cap) w hR hn h1 hne hlim
  have HR := Lib.hid hR
  have HN := Lib.hid hn
  have HE := Lib.hid hne
  have HLW := Lib.hid LW
  clear hR hn hne LW
  go_enter Try.func50, Try.ntmps50
  go_wp2
  go_step3
  go_wp2_with (go_at_call 62; refine HLW.out.mono ?_; rintro e w1 ⟨low, rfl, hL, hB1⟩; have HL := Lib.hid hL; have HB1 := Lib.hid hB1; clear hL hB1)
  go_step3
  go_wp2
  go_loopw [15] (fun a wr => ∃ k : Nat, k ≤ n ∧ a = .int .i64 (k : Int) ∧ Hid (AllGtI rs k low) ∧ Hid (Below w.heap.size w wr)) (fun a _ => n - (intOf a).toNat)
  case atStart => exact ⟨0, by omega, rfl, Lib.hid (fun j y ys x xs hj => by omega), HB1⟩
  case round =>
    generalize wr = W1 at *
    obtain ⟨k, hk, rfl, hA, hB⟩ := hrel
    clear HB1
    have hlow := HL.out.1
    rw [HN.out] at hlow
    by_cases hkn : k < n
    · have RR := HR.out.later hB.out
      obtain ⟨x, xs, g1, q1, c1, hx, e1, _, _, _, l1, x0⟩ := rw_getI RR HE.out (i := low) (by rw [HN.out]; omega)
      obtain ⟨y, ys, g2, q2, c2, hy, e2, _, _, _, l2, y0⟩ := rw_getI RR HE.out (i := k) (by rw [HN.out]; omega)
      have hbl := World.block_lt_of_cell? W1 _ e1
      have HX := Lib.hid hx
      have HY := Lib.hid hy
      have HBL := Lib.hid hbl
      have HK2 := Lib.hid (show b < W1.heap.size ∧ g2 < W1.heap.size from ⟨hbl, l2⟩)
      have HY0 := Lib.hid y0
      have T0 : Hid (TwoRI W1 b (o + low) (o + k) (.slice (some ⟨g1, q1, none⟩) (xs.length + 1) c1) (.slice (some ⟨g2, q2, none⟩) (ys.length + 1) c2) g1 q1 g2 q2 x y W1.drew) := Lib.hid ⟨e1, e2, (x0 0 _ rfl), (y0 0 _ rfl), below_drew W1, hbl, l1, l2⟩
      have F0 := lessI x y W1.drew
      obtain ⟨t, ht⟩ : ∃ t, decide (keyI x < keyI y) = t := ⟨_, rfl⟩
      rw [ht] at F0
      have HT := Lib.hid ht
      have F0 := Lib.hid F0
      have im0 : (0 : Int) ≤ (k : Int) := by omega
      have im1 : (k : Int) < (n : Int) := by omega
      have il0 : (0 : Int) ≤ (low : Int) := by omega
      have il1 : (low : Int) < (n : Int) := by omega
      have hz1 : (0 : Int) < ((xs.length + 1 : Nat) : Int) := by omega
      have hz2 : (0 : Int) < ((ys.length + 1 : Nat) : Int) := by omega
      clear hx hy e1 x0 y0 ht RR
      generalize xs.length + 1 = n1 at *
      generalize ys.length + 1 = n2 at *
      go_upto_region 5 with (fail)
      go_cut [35] from 20 to 35 (fun s wx => ∃ c : Bool, s = .bool c ∧ Hid (c = true → keyI x < keyI y) ∧ Hid (Below W1.heap.size W1 wx))
      case first =>
        by_cases hkl : k = low
        · have tk : ((k : Int) != (low : Int)) = false := by rw [hkl]; simp
          clear hkl
          go_quiet (fail)
          go_wp2
          go_meet
          exact ⟨_, rfl, Lib.hid (by simp), Lib.hid (by first | exact below_drewN (Below.refl _ _) _ | exact below_drew _ | exact Below.refl _ _)⟩
        · have tk : ((k : Int) != (low : Int)) = true := by rw [bne_iff_ne]; omega
          go_region_held_law (fun W => TwoRI W1 b (o + low) (o + k) (.slice (some ⟨g1, q1, none⟩) n1 c1) (.slice (some ⟨g2, q2, none⟩) n2 c2) g1 q1 g2 q2 x y W)
            (first | (with_reducible assumption) | (with_reducible exact T0.out) | (with_reducible exact T1.out) | fail)
            (first | (go_at_call 24; (with_reducible refine F0.out.mono ?_); rintro e w1 ⟨rfl, hb1⟩; have T1 := Lib.hid (TwoRI.step T0.out hb1)) | fail)
          all_goals (
            go_wp2
            go_meet
            exact ⟨_, rfl, Lib.hid (fun h => of_decide_eq_true (HT.out.trans h)), Lib.hid T1.out.2.2.2.2.1⟩)
      case rest =>
        obtain ⟨c, rfl, hc, hBx⟩ := hcut
        apply_assumption
        rcases (Bool.eq_false_or_eq_true c).symm with rfl | rfl
        · go_wp2
          clear T0 F0 HT
          go_loopw [38] (fun a wr => ∃ j : Nat, j ≤ n ∧ a = .int .i64 (j : Int) ∧ Hid (NonLtI rs j k) ∧ Hid (Below W1.heap.size W1 wr)) (fun a _ => n - (intOf a).toNat)
          case atStart => exact ⟨0, by omega, rfl, Lib.hid (fun j y ys x xs hj => by omega), hBx⟩
          case round =>
            obtain ⟨j, hj, rfl, hN, hBy⟩ := hrel
            clear hBx
            have B2 := Lib.hid (hB.out.trans (hBy.out.mono hB.out.size))
            by_cases hjn : j < n
            · have RR2 := HR.out.later B2.out
              obtain ⟨z, zs, g3, q3, c3, hz, e3, _, _, _, l3, x0⟩ := rw_getI RR2 HE.out (i := j) (by rw [HN.out]; omega)
              have y0 : ∀ (i : Nat) (u : Value), (cEI y)[i]? = some u → wr.cell? ⟨g2, q2 + i, none⟩ = some u := fun i u hu => (hBy.out.cell (p := ⟨g2, q2 + i, none⟩) HK2.out.2).trans (HY0.out i u hu)
              have e4 := (hBy.out.cell (p := ⟨b, o + k, none⟩) HK2.out.1).trans e2
              have T0 : Hid (TwoRI wr b (o + j) (o + k) (.slice (some ⟨g3, q3, none⟩) (zs.length + 1) c3) (.slice (some ⟨g2, q2, none⟩) n2 c2) g3 q3 g2 q2 z y wr.drew) := Lib.hid ⟨e3, e4, (x0 0 _ rfl), (y0 0 _ rfl), below_drew wr, Nat.lt_of_lt_of_le HK2.out.1 hBy.out.size, l3, Nat.lt_of_lt_of_le HK2.out.2 hBy.out.size⟩
              have HZ := Lib.hid hz
              have F0 := lessI z y wr.drew
              obtain ⟨t, ht⟩ : ∃ t, decide (keyI z < keyI y) = t := ⟨_, rfl⟩
              rw [ht] at F0
              have HT := Lib.hid ht
              have F0 := Lib.hid F0
              have ij0 : (0 : Int) ≤ (j : Int) := by omega
              have ij1 : (j : Int) < (n : Int) := by omega
              have hz3 : (0 : Int) < ((zs.length + 1 : Nat) : Int) := by omega
              clear hz x0 y0 ht RR2
              generalize zs.length + 1 = n3 at *
              go_upto_region 9 with (fail)
              by_cases hjk : j = k
              · have tk : ((j : Int) != (k : Int)) = false := by rw [hjk]; simp
                have HJK := Lib.hid hjk
                clear hjk
                go_quiet (fail)
                go_wp2
                refine ⟨⟨j + 1, by omega, by go_num, Lib.hid (fun i v vs u us hi hv hu => ?_), Lib.hid (hBy.out.trans ((show Below wr.heap.size wr _ by first | exact below_drewN (Below.refl _ _) _ | exact below_drew _ | exact Below.refl _ _).mono hBy.out.size))⟩, by first | (simp [intOf]; done) | (simp [intOf]; omega)⟩
                rcases Nat.lt_or_ge i j with h | h
                · exact hN.out i v vs u us h hv hu
                · obtain rfl : i = k := by have := HJK.out; omega
                  rw [hu] at hv
                  simp only [Option.some.injEq, List.cons.injEq] at hv
                  rw [hv.1]; exact Int.le_refl _
              · have tk : ((j : Int) != (k : Int)) = true := by rw [bne_iff_ne]; omega
                go_region_held_law (fun W => TwoRI wr b (o + j) (o + k) (.slice (some ⟨g3, q3, none⟩) n3 c3) (.slice (some ⟨g2, q2, none⟩) n2 c2) g3 q3 g2 q2 z y W)
                  (first | (with_reducible assumption) | (with_reducible exact T0.out) | (with_reducible exact T1.out) | fail)
                  (first | (go_at_call 24; (with_reducible refine F0.out.mono ?_); rintro e w1 ⟨rfl, hb1⟩; have T1 := Lib.hid (TwoRI.step T0.out hb1)) | fail)
                all_goals (
                  have B3 := Lib.hid (T1.out.2.2.2.2.1)
                  rcases (Bool.eq_false_or_eq_true t).symm with rfl | rfl
                  · go_wp2
                    refine ⟨⟨j + 1, by omega, by go_num, Lib.hid (fun i v vs u us hi hv hu => ?_), Lib.hid (hBy.out.trans (B3.out.mono hBy.out.size))⟩, by first | (simp [intOf]; done) | (simp [intOf]; omega)⟩
                    rcases Nat.lt_or_ge i j with h | h
                    · exact hN.out i v vs u us h hv hu
                    · obtain rfl : i = j := by omega
                      rw [HZ.out] at hv
                      rw [HY.out] at hu
                      simp only [Option.some.injEq, List.cons.injEq] at hu hv
                      obtain ⟨rfl, rfl⟩ := hu
                      obtain ⟨rfl, rfl⟩ := hv
                      have := of_decide_eq_false HT.out
                      omega
                  · go_wp2
                    refine ⟨⟨k + 1, by omega, by go_num, Lib.hid (fun i v vs u us hi hv hu => ?_), Lib.hid (B2.out.trans (B3.out.mono B2.out.size))⟩, by first | (simp [intOf]; done) | (simp [intOf]; omega)⟩
                    rcases Nat.lt_or_ge i k with h | h
                    · exact hA.out i v vs u us h hv hu
                    · obtain rfl : i = k := by omega
                      have h1 := HL.out.2 j z zs u us (Nat.zero_le _) HZ.out hu
                      rw [HY.out] at hv
                      simp only [Option.some.injEq, List.cons.injEq] at hv
                      obtain ⟨rfl, rfl⟩ := hv
                      have := of_decide_eq_true HT.out
                      omega)
            · obtain rfl : j = n := by omega
              go_wp2
              first | rw [Exit.noGoto_ret] | simp only [Exit.noGoto] | skip
              go_ret
              refine ⟨k, y, ys, rfl, ⟨HY.out, fun i v vs hv => hN.out i v vs y ys (by have := (List.getElem?_eq_some_iff.1 hv).1; rw [HN.out] at this; exact this) hv HY.out, fun i v vs hi hv => ?_⟩, B2.out⟩
              have h1 := hA.out i v vs x xs hi hv HX.out
              have h2 := hN.out low x xs y ys hlow HX.out HY.out
              omega
        · go_wp2
          refine ⟨⟨k + 1, by omega, by go_num, Lib.hid (fun j z zs u us hj hz hu => ?_), Lib.hid (hB.out.trans (hBx.out.mono hB.out.size))⟩, by first | (simp [intOf]; done) | (simp [intOf]; omega)⟩
          rcases Nat.lt_or_ge j k with h | h
          · exact hA.out j z zs u us h hz hu
          · obtain rfl : j = k := by omega
            rw [HX.out] at hu
            rw [HY.out] at hz
            simp only [Option.some.injEq, List.cons.injEq] at hu hz
            obtain ⟨rfl, rfl⟩ := hu
            obtain ⟨rfl, rfl⟩ := hz
            exact hc.out rfl
    · obtain rfl : k = n := by omega
      obtain ⟨x, xs, _, _, _, hx, _⟩ := rw_getI HR.out HE.out (i := low) (by rw [HN.out]; exact hlow)
      exact absurd (hA.out low x xs x xs hlow hx hx) (by omega)
end Go.Proofs.Ytnplbmbbocffbaa
