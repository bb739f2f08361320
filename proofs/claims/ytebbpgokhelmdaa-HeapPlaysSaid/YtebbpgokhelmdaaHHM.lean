/- A heap by what it tells. -/
import Derived.Test.YtebbpgokhelmdaaHGM
namespace Go.Proofs.Ytebbpgokhelmdaa
open Go.RowKit
set_option linter.unusedVariables false
set_option linter.unusedSimpArgs false
attribute [local go_sem ↓] Go.wp_at_zero Go.wp_at_succ

set_option maxRecDepth 100000 in
set_option maxHeartbeats 4000000 in
theorem pop_noneM {B b c : Nat} {v : Value} (w : World) (h : HBM B w b v c []) : Calls Try.prog 30 #[.pointer (some ⟨b, 0, none⟩)] w (Told (.tuple #[.agg #[.int .i64 0, .int .i64 0], .bool false]) w) := by
  have PK := Lib.hid (fun W (hB : Below w.heap.size w W) => peek_noneM W (h.later hB))
  clear h
  have B0 : Below w.heap.size w (w.alloc (.cells #[.int .i64 0, .int .i64 0] 31)) := (Below.refl _ _).alloc (Nat.le_refl _) _
  have HB0 := Lib.hid B0
  have IZ := Lib.hid (IB.new w ⟨0, 0⟩)
  clear B0
  go_enter Try.func30, Try.ntmps30
  go_wp2_with (go_at_call 15; (with_reducible refine (PK.out _ HB0.out).mono ?_); rintro e w1 ⟨rfl, hB1⟩; have c20 := (((IZ.out.later hB1).whole (y := ⟨0, 0⟩)).later ((Below.refl _ _).alloc (Nat.le_refl _) (.cells #[.int .i64 0, .int .i64 0] 31))); have hs1 : w.heap.size < w1.heap.size := (by have := hB1.size; simp at this; omega); have r0 := (IZ.out.later hB1).c0; have r1 := (IZ.out.later hB1).c1; have rf := (IZ.out.later hB1).frozen)
  refine bodyPost_ret (v := .tuple #[.agg #[.int .i64 0, .int .i64 0], .bool false]) (results_it (x := ⟨0, 0⟩) rfl _ _ _ _ rfl rfl c20) rfl ⟨rfl, (below_two (HB0.out.trans (hB1.mono HB0.out.size)) (Nat.le_refl _) _ _).alloc (by simp; omega) _⟩
/-- Block b is a heap, its blocks are X; c came, and it tells L. -/
structure HsM (B : Nat) (w : World) (b : Nat) (X : List Nat) (c : Nat) (L : List It) : Prop where
  ex : ∃ v l, HBM B w b v c l ∧ blk b v = X ∧ Tells keyM l c L
  le : L.length ≤ c
section
variable {B : Nat} {w w' : World} {b c : Nat} {X : List Nat} {L : List It}
theorem HsM.kept {Y : List Nat} (h : HsM B w b X c L) (hk : Kept Y w w') (hx : ∀ k ∈ X, k ∉ Y) : HsM B w' b X c L := by
  obtain ⟨⟨v, l, h1, rfl, h2⟩, h3⟩ := h
  exact ⟨⟨v, l, h1.kept hk hx, rfl, h2⟩, h3⟩
theorem HsM.later (h : HsM B w b X c L) (hb : Below w.heap.size w w') : HsM B w' b X c L := h.kept (Kept.of [] hb) (by simp)
theorem HsM.ge (h : HsM B w b X c L) : ∀ k ∈ X, B ≤ k ∧ k < w.heap.size := by
  obtain ⟨⟨v, l, h1, rfl, h2⟩, h3⟩ := h
  exact h1.blk_ge
theorem HsM.lim (h : HsM B w b X c L) : c ≤ 1000000 := by
  obtain ⟨⟨v, l, h1, rfl, h2⟩, h3⟩ := h
  exact h1.lim
theorem ins_lengthM (x : It) : ∀ L : List It, (ins keyM x L).length = L.length + 1
  | [] => rfl
  | a :: l => by
    unfold ins
    split
    · rfl
    · simp [ins_lengthM x l]
theorem hlenM (h : HsM B w b X c L) : Calls Try.prog 14 #[.pointer (some ⟨b, 0, none⟩)] w fun e w' => e = .returned (.int .i64 L.length) ∧ w = w' := by
  obtain ⟨⟨v, l, h1, rfl, h2⟩, h3⟩ := h
  rw [← h2.length]
  exact len_anyM w h1
def HPushM (B b c : Nat) (X : List Nat) (L : List It) (w : World) (e : Ending) (w' : World) : Prop := e = .returned (.tuple #[]) ∧ ∃ X', HsM B w' b X' (c + 1) L ∧ Kept X w w' ∧ ∀ k ∈ X', k ∈ X ∨ w.heap.size ≤ k
theorem hpushM {x : It} (h : HsM B w b X c L) (hx : okM x) (hc : c + 1 ≤ 1000000) : Calls Try.prog 29 #[.pointer (some ⟨b, 0, none⟩), .agg #[.int .i64 (x).k, .int .i64 (x).w]] w (HPushM B b c X (ins keyM x L) w) := by
  obtain ⟨⟨v, l, h1, rfl, h2⟩, h3⟩ := h
  refine (push_anyM w h1 h2.hp hx hc (by rw [h2.length]; omega)).mono ?_
  rintro e w' ⟨rfl, v', l', hP, hH, hB, hK, hb⟩
  exact ⟨rfl, blk b v', ⟨⟨v', l', hB, rfl, h2.push hP hH⟩, by rw [ins_lengthM]; omega⟩, hK, hb⟩
def HPopM (B b c : Nat) (X : List Nat) (x : It) (L : List It) (w : World) (e : Ending) (w' : World) : Prop := e = .returned (.tuple #[.agg #[.int .i64 (x).k, .int .i64 (x).w], .bool true]) ∧ HsM B w' b X c L ∧ Kept X w w'
theorem hpopM {x : It} (h : HsM B w b X c (x :: L)) : Calls Try.prog 30 #[.pointer (some ⟨b, 0, none⟩)] w (HPopM B b c X x L w) := by
  have hlim := h.lim
  obtain ⟨⟨v, l, h1, rfl, h2⟩, h3⟩ := h
  have hl := h2.length
  obtain ⟨p, hp⟩ : ∃ p, l[0]? = some p := ⟨l[0]'(by rw [hl]; simp), List.getElem?_eq_getElem _⟩
  obtain ⟨r, hr⟩ := h2.head hp
  injection hr with e1 e2
  subst e1
  refine (pop_someM w h1 h2.hp hp (by rw [hl]; omega)).mono ?_
  rintro e w' ⟨rfl, v', l', hP, hH, hB, hK, hb⟩
  exact ⟨rfl, ⟨⟨v', l', hB, hb, h2.pop hp hP hH⟩, by simp at h3; omega⟩, hK⟩
theorem hpeekM {x : It} (h : HsM B w b X c (x :: L)) : Calls Try.prog 15 #[.pointer (some ⟨b, 0, none⟩)] w (Told (.tuple #[.agg #[.int .i64 (x).k, .int .i64 (x).w], .bool true]) w) := by
  obtain ⟨⟨v, l, h1, rfl, h2⟩, h3⟩ := h
  have hl := h2.length
  obtain ⟨p, hp⟩ : ∃ p, l[0]? = some p := ⟨l[0]'(by rw [hl]; simp), List.getElem?_eq_getElem _⟩
  obtain ⟨r, hr⟩ := h2.head hp
  injection hr with e1 e2
  subst e1
  exact peek_someM w h1 hp
theorem hnilM (h : HsM B w b X c []) : Calls Try.prog 30 #[.pointer (some ⟨b, 0, none⟩)] w (Told (.tuple #[.agg #[.int .i64 0, .int .i64 0], .bool false]) w) ∧ Calls Try.prog 15 #[.pointer (some ⟨b, 0, none⟩)] w (Told (.tuple #[.agg #[.int .i64 0, .int .i64 0], .bool false]) w) := by
  obtain ⟨⟨v, l, h1, rfl, h2⟩, h3⟩ := h
  have hl : l = [] := List.eq_nil_of_length_eq_zero h2.length
  subst hl
  exact ⟨pop_noneM w h1, peek_noneM w h1⟩
end
/-- Things in a row that came in. -/
def RowOfM (w : World) (A : Option Addr) (xs : List It) : Prop := ∀ (i : Nat) (x : It), xs[i]? = some x → ∃ b o, A = some ⟨b, o, none⟩ ∧ b < w.heap.size ∧ okM x ∧ w.cell? ⟨b, o + i * 2, none⟩ = some (.int .i64 x.k) ∧ w.cell? ⟨b, o + i * 2 + 1, none⟩ = some (.int .i64 x.w)
theorem RowOfM.later {w w' : World} {A : Option Addr} {xs : List It} (h : RowOfM w A xs) (hb : Below w.heap.size w w') : RowOfM w' A xs := by
  intro i x hx
  obtain ⟨b, o, e, hl, ho, h0, h1⟩ := h i x hx
  exact ⟨b, o, e, Nat.lt_of_lt_of_le hl hb.size, ho, (hb.cell (p := ⟨b, _, none⟩) hl).trans h0, (hb.cell (p := ⟨b, _, none⟩) hl).trans h1⟩
def allInM (xs : List It) : List It := xs.foldl (fun L x => ins keyM x L) []
theorem allIn_snocM (xs : List It) (x : It) : allInM (xs ++ [x]) = ins keyM x (allInM xs) := by simp [allInM]
def HNewM (n : Nat) (L : List It) (w : World) (e : Ending) (w' : World) : Prop := ∃ X, e = .returned (.pointer (some ⟨w.heap.size, 0, none⟩)) ∧ HsM w.heap.size w' w.heap.size X n L ∧ Below w.heap.size w w'
set_option maxRecDepth 100000 in
set_option maxHeartbeats 4000000 in
theorem new_anyM {A : Option Addr} {n cap : Nat} {xs : List It} (w : World) (hR : RowOfM w A xs) (hn : xs.length = n) (h1 : n ≤ 10000) (h2 : n ≤ cap) (h3 : cap ≤ 9223372036854775807) : Calls Try.prog 11 #[.func (.func 12) #[] #[], .slice A n cap] w (HNewM n (allInM xs) w) := by
  have RR := Lib.hid hR
  have HN := Lib.hid hn
  have hb0 : Below w.heap.size w (w.alloc (.cells #[.func (.func 12) #[] #[], .slice none 0 0, .int .i64 0] 70)) := (Below.refl _ _).alloc (Nat.le_refl _) _
  have h0 : HsM w.heap.size (w.alloc (.cells #[.func (.func 12) #[] #[], .slice none 0 0, .int .i64 0] 70)) w.heap.size [w.heap.size] 0 [] :=
    ⟨⟨.slice none 0 0, [], ⟨Nat.le_refl _, heap_alloc_new w _, World.ownsRow_nil _ _ _ _, by simp, by simp, by omega⟩, rfl, Tells.nil 0⟩, Nat.le_refl _⟩
  have H0 := Lib.hid h0
  have HB0 := Lib.hid hb0
  clear hR hn hb0 h0
  go_enter Try.func11, Try.ntmps11
  go_wp2
  go_loopw [13] (fun i wr => ∃ (k : Nat) (X : List Nat), k ≤ n ∧ i = .int .i64 k ∧ Hid (HsM w.heap.size wr w.heap.size X k (allInM (xs.take k))) ∧ Hid (Below w.heap.size w wr)) (fun i _ => n - (intOf i).toNat)
  case atStart => exact ⟨0, [w.heap.size], Nat.zero_le _, rfl, by rw [List.take_zero]; exact H0, HB0⟩
  case round =>
    obtain ⟨k, X, hk, rfl, hH, hL⟩ := hrel
    clear H0 HB0
    by_cases hlt : k < n
    · obtain ⟨x, hx⟩ : ∃ x, xs[k]? = some x := ⟨xs[k]'(by rw [HN.out]; exact hlt), List.getElem?_eq_getElem _⟩
      have e1 := take_one hx
      obtain ⟨rb, ro, rfl, hrl, hox, x0, x1⟩ := RR.out.later hL.out k x hx
      have hbx : Below wr.heap.size wr (wr.alloc (.cells #[.int .i64 x.k, .int .i64 x.w] 31)) := (Below.refl _ _).alloc (Nat.le_refl _) _
      have PU := Lib.hid (hpushM (hH.out.later hbx) hox (by omega))
      have HBX := Lib.hid hbx
      have HX := Lib.hid hox
      have HE := Lib.hid (show allInM (xs.take (k + 1)) = ins keyM x (allInM (xs.take k)) by rw [e1, allIn_snocM])
      have hi0 : (0 : Int) ≤ (k : Int) := by omega
      have hi1 : (k : Int) < (n : Int) := by omega
      clear hx e1 hox hbx 
      go_wp2_with (go_at_call 29; (with_reducible refine PU.out.mono ?_); rintro e w2 ⟨rfl, X2, hH2, hK2, hX2⟩)
      have hB2 : Below w.heap.size w w2 := by
        exact (hL.out.trans (HBX.out.mono hL.out.size)).trans (hK2.below (hL.out.trans (HBX.out.mono hL.out.size)).size (fun j hj => (hH.out.ge j hj).1))
      have H2 := Lib.hid hH2
      have HB2 := Lib.hid hB2
      clear hH2 hK2 hX2 hB2
      go_roundw
      case rel => exact ⟨k + 1, X2, by omega, by go_num, by rw [HE.out]; exact H2, HB2⟩
      case measure => simp [intOf]; omega
    · obtain rfl : k = n := by omega
      go_wp2
      go_ret
      refine ⟨X, rfl, ?_, hL.out⟩
      have := hH.out
      rwa [List.take_of_length_le (by rw [HN.out]; exact Nat.le_refl _)] at this
end Go.Proofs.Ytebbpgokhelmdaa
