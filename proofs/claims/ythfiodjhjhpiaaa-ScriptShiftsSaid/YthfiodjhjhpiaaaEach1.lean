/- The tokens of a text, told one by one: an iterator over an iterator. -/
import Derived.Test.YthfiodjhjhpiaaaPieces
namespace Go.Proofs.Ythfiodjhjhpiaaa
open Go.RowKit Go.Shelf
set_option linter.unusedVariables false
attribute [local go_sem] Oper.semAt_some

theorem round_any {m m' l l2 : Nat} {f : FuncId} {tmps : Array Value} {assign body : Code} {w : World} {R : Ending → World → Prop}
    (h : RoundIn Fence.wide m Try.prog l f tmps assign body w R) : RoundIn (Fence.wide.inRound l2) m' Try.prog l f tmps assign body w R := ⟨h.1, fun c cs _ => h.2 c cs (room_wide _)⟩
theorem own_up {β : Type} {B B' : Nat} {J : β → World → Prop} (h : OwnFrom B J) (hB : B ≤ B') : OwnFrom B' J := fun s X Y row hs hg hr => h s X Y row hs hg (fun r e => ⟨by have := (hr r e).1; omega, (hr r e).2⟩)
theorem TB.kept {W W' : World} {row : Option Nat} {b : Nat} {x : Tk} (h : TB W b x) (hg : W.grownBy W' row) (hr : ∀ r, row = some r → ∃ o : Obj, W.heap[r]? = some o ∧ o.isCells = false) : TB W' b x := ⟨(grownBy_keeps_cells hg hr h.is rfl).trans h.is⟩
theorem boxed_kept {W W' : World} {row : Option Nat} {b : Nat} {t : TypeId} {v : Value} (h : Boxed W b t v) (hg : W.grownBy W' row) (hr : ∀ r, row = some r → ∃ o : Obj, W.heap[r]? = some o ∧ o.isCells = false) : Boxed W' b t v := (grownBy_keeps_cells hg hr h rfl).trans h

theorem toksOf_all {ps : List Tk} (h : ∀ y ∈ ps, y.k ≠ 0) : toksOf ps = ps := by
  unfold toksOf
  induction ps with
  | nil => rfl
  | cons a r ih => rw [List.takeWhile_cons_of_pos (by simpa using h a (by simp)), ih (fun y hy => h y (List.mem_cons_of_mem _ hy))]
theorem toksOf_stop {q r : List Tk} {x : Tk} (h : ∀ y ∈ q, y.k ≠ 0) (hx : x.k = 0) : toksOf (q ++ [x] ++ r) = q := by
  unfold toksOf
  rw [List.append_assoc, List.takeWhile_append_of_pos (fun y hy => by simpa using h y hy)]
  simp [hx]
theorem toksOf_pre {q r : List Tk} (h : ∀ y ∈ q, y.k ≠ 0) : q <+: toksOf (q ++ r) := by
  unfold toksOf
  rw [List.takeWhile_append_of_pos (fun y hy => by simpa using h y hy)]
  exact ⟨_, rfl⟩
theorem toksOf_prefix (ps : List Tk) : toksOf ps <+: ps := List.takeWhile_prefix _

abbrev tokL (s : ByteArray) : List Tk := toksOf (pieceL s)

set_option maxRecDepth 100000 in
set_option maxHeartbeats 4000000 in
theorem each1_in (l Bn : Nat) (s : ByteArray) (J Jx : List Tk → World → Prop) (n : Nat) (hn1 : 5 ≤ n) (hs : s.size ≤ 100000) (W : World) (B : Nat) (hBW : B ≤ W.heap.size) (hO : OwnFrom W.heap.size J) (hOx : OwnFrom W.heap.size Jx)
    (hY : ∀ pre (x : Tk) W, J pre W → pre.length < 100001 → YieldAt Fence.wide (n - 1) Try.prog l #[tkV x] W fun e W' =>
      (e = .returned (.bool true) ∧ J (pre ++ [x]) W' ∧ Kp pre x W W' ∧ KeepsFrom B W W') ∨ (e = .returned (.bool false) ∧ Jx (pre ++ [x]) W' ∧ KeepsFrom B W W'))
    (hB : Boxed W Bn 9 (.string s)) (hJ : J [] W) :
    CallsIn Fence.wide n Try.prog 60 #[.func (.yield l) #[] #[], .pointer (some ⟨Bn, 0, none⟩)] W fun e W' => (∃ v, e = .returned v) ∧
      ((∃ ys, ys = tokL s ∧ J ys W') ∨ (∃ pre, pre <+: tokL s ∧ Jx pre W')) := by
  obtain ⟨W1, hW1, Y1, B1, J1, s1⟩ : ∃ W1, W.alloc (.cells #[.func (.yield l) #[] #[]] 98) = W1 ∧ Boxed W1 W.heap.size 98 (.func (.yield l) #[] #[]) ∧ Boxed W1 Bn 9 (.string s) ∧ J [] W1 ∧ W1.heap.size = W.heap.size + 1 :=
    ⟨_, rfl, Boxed.new _ _ _, Boxed.alloc hB _, hO.alloc _ hJ, by simp⟩
  have b1 := Boxed.cell B1
  have hw0 : W.heap.size ≤ W1.heap.size := by omega
  have h1n : 1 ≤ n := by omega
  have h1n2 : 1 ≤ n - 1 - 1 := by omega
  refine callsIn_of_wp_marks Try.func60 rfl trivial ?_ rfl
  simp only [Try.ntmps60, List.size_toArray, List.length_cons, List.length_nil, Nat.reduceAdd, Nat.reduceSub, Array.replicate_succ, Array.replicate_zero, List.push_toArray, List.append_toArray, List.nil_append, List.cons_append]
  gi_wp2_with (refine ⟨trivial, ?_⟩; gi_at_call 61; refine (callsIn_wide.2 (pieces_any _ _)).mono ?_; rintro e w' ⟨rfl, rfl⟩)
  clear hW1 b1
  obtain ⟨W2, hW2, Y2, B2, P2, J2, s2⟩ : ∃ W2, W1.alloc (.cells #[.string s] 9) = W2 ∧ Boxed W2 W.heap.size 98 (.func (.yield l) #[] #[]) ∧ Boxed W2 Bn 9 (.string s) ∧ Boxed W2 W1.heap.size 9 (.string s) ∧ J [] W2 ∧ W2.heap.size = W1.heap.size + 1 :=
    ⟨_, rfl, Boxed.alloc Y1 _, Boxed.alloc B1 _, Boxed.new _ _ _, hO.alloc _ J1, by simp⟩
  try rw [hW2]
  clear Y1 B1 J1 hB hJ
  rw [s1] at P2
  have hs2 : W.heap.size ≤ W2.heap.size := by omega
  clear s1 s2 hw0
  refine rangeO (gf := 62) (lb := #[.pointer (some ⟨W.heap.size + 1, 0, none⟩)]) rfl (enters_of Try.func62 (by kernel_rfl) rfl)
    (pieces1_seq (n - 1) (by omega) (W.heap.size + 1) s hs W2 P2) (Below.refl _ _) rfl
    (fun pre V => (∀ y ∈ pre, y.k ≠ 0) ∧ J pre V ∧ Boxed V W.heap.size 98 (.func (.yield l) #[] #[]))
    (fun c pre V => c = .ret ∧ ((∃ q x, pre = q ++ [x] ∧ x.k = 0 ∧ (∀ y ∈ q, y.k ≠ 0) ∧ J q V) ∨ ((∀ y ∈ pre, y.k ≠ 0) ∧ Jx pre V)))
    (fun pre X Y row hs hg hr => ⟨hs.1, own_up hO hs2 pre X Y row hs.2.1 hg hr, boxed_kept hs.2.2 hg (fun r e => (hr r e).2)⟩)
    (fun c pre X Y row hs hg hr => ⟨hs.1, hs.2.imp (fun ⟨q, x, e, hx, hq, hj⟩ => ⟨q, x, e, hx, hq, own_up hO hs2 q X Y row hj hg hr⟩) (fun ⟨hq, hj⟩ => ⟨hq, own_up hOx hs2 pre X Y row hj hg hr⟩)⟩)
    ⟨by simp, J2, Y2⟩
    (fun x a' V => ∃ Bx, TB V Bx x ∧ a' = { tmps := #[.func (.yield l) #[] #[], .pointer (some ⟨Bn, 0, none⟩), .pointer (some ⟨W.heap.size, 0, none⟩), .pointer (some ⟨Bx, 0, none⟩), .string s, .func (.func 62) #[] #[.pointer (some ⟨W.heap.size + 1, 0, none⟩)], tkV x, undef, undef, undef, undef, undef, undef, undef, undef, undef], defers := [] })
    (fun x a' _ X Y row hs hg hr => hs.imp fun Bx h => ⟨h.1.kept hg (fun r e => (hr r e).2), h.2⟩)
    ?assign ?body ?done ?stop
  case assign =>
    intro l2 pre x V K hi hK
    gi_wp2
    exact hK _ _ ((KeepsOthers.alloc _ _).from _) (Kp.alloc _ _) ⟨hi.1, own_later hO hi.2.1 ((Below.refl _ _).alloc (Nat.le_refl _) _), Boxed.alloc hi.2.2 _⟩ ⟨_, TB.new V x, rfl⟩
  case body =>
    rintro l2 pre x a' V ⟨hq, hj, hy2⟩ ⟨Bx, hT, rfl⟩ hlen
    have c0 := hT.c0
    by_cases hx0 : x.k = 0
    · have t0 : ((x.k : Int) == 0) = true := by simp; omega
      have HX := Lib.hid hx0
      clear hx0
      gi_wp2
      refine ⟨fun _ h => (by cases h), ?_⟩
      gi_wp2
      exact ⟨KeepsFrom.refl _ _, rfl, .inl ⟨pre, x, rfl, HX.out, hq, hj⟩⟩
    · have t0 : ((x.k : Int) == 0) = false := by simp; omega
      have HX := Lib.hid hx0
      have c1 := hT.c1
      have c2 := hT.c2
      have c3 := hT.c3
      have cy := Boxed.cell hy2
      have hq2 : Hid (∀ y ∈ pre ++ [x], y.k ≠ 0) := Lib.hid fun y hy => by
        rw [List.mem_append, List.mem_singleton] at hy
        rcases hy with hy | rfl
        · exact hq y hy
        · exact HX.out
      obtain ⟨fn, tmps, assign, body, hy, hR⟩ := hY pre x V hj hlen
      simp only [tkV] at hy
      clear hx0 hq
      gi_wp2
      refine (round_any hR).mono ?_
      rintro e V' (⟨rfl, hj', hk', hf'⟩ | ⟨rfl, hx', hf'⟩)
      · gi_wp2
        exact ⟨keepsFrom_up hf' (by omega), hk', hq2.out, hj', hk'.fn hy2⟩
      · gi_wp2
        exact ⟨keepsFrom_up hf' (by omega), rfl, .inr ⟨hq2.out, hx'⟩⟩
  case done =>
    rintro D xs V hD rfl ⟨hq, hj, hy2⟩ hK
    gi_wp2
    refine ⟨by simp, .inl ⟨_, _, rfl, run_takeDeferred hK, ?_⟩⟩
    exact ⟨_, results_none rfl _ _ _, ⟨_, rfl⟩, .inl ⟨_, (toksOf_all hq).symm, hO.putObj _ hj (by omega) hK rfl⟩⟩
  case stop =>
    rintro D c pre V hD hpre ⟨rfl, hc⟩ hK
    gi_wp2
    refine ⟨by simp, .inl ⟨_, _, rfl, run_takeDeferred hK, ?_⟩⟩
    refine ⟨_, results_none rfl _ _ _, ⟨_, rfl⟩, ?_⟩
    obtain ⟨r, hr⟩ := hpre
    rcases hc with ⟨q, x, rfl, hx, hq, hj⟩ | ⟨hq, hj⟩
    · exact .inl ⟨q, by rw [tokL, ← hr, toksOf_stop hq hx], hO.putObj _ hj (by omega) hK rfl⟩
    · exact .inr ⟨pre, by rw [tokL, ← hr]; exact toksOf_pre hq, hOx.putObj _ hj (by omega) hK rfl⟩

/-- **Each$1's word.** -/
theorem each1_seq (n : Nat) (hn1 : 5 ≤ n) (Bn : Nat) (s : ByteArray) (hs : s.size ≤ 100000) (w : World) (hB : Boxed w Bn 9 (.string s)) :
    SeqO n 60 #[.pointer (some ⟨Bn, 0, none⟩)] (fun xs => xs = tokL s) (fun pre => pre <+: tokL s) 100001 w :=
  fun l J Jx W hW hJ hJx hY hJ0 => each1_in l Bn s J Jx n hn1 hs W W.heap.size (Nat.le_refl _) hJ hJx hY ((hW.block Bn (Boxed.lt hB)).trans hB) hJ0
end Go.Proofs.Ythfiodjhjhpiaaa
