/- A heap by what it tells. -/
import Derived.Test.YtebbpgokhelmdaaHGI
namespace Go.Proofs.Ytebbpgokhelmdaa
open Go.RowKit
set_option linter.unusedVariables false
set_option linter.unusedSimpArgs false
attribute [local go_sem ↓] Go.wp_at_zero Go.wp_at_succ

set_option maxRecDepth 100000 in
set_option maxHeartbeats 4000000 in
theorem pop_noneI {B b c : Nat} {v : Value} (w : World) (h : HBI B w b v c []) : Calls Try.prog 24 #[.pointer (some ⟨b, 0, none⟩)] w (Told (.tuple #[.int .i64 0, .bool false]) w) := by
  have PK := Lib.hid (fun W (hB : Below w.heap.size w W) => peek_noneI W (h.later hB))
  clear h
  go_enter Try.func24, Try.ntmps24
  go_wp2_with (go_at_call 32; (with_reducible refine (PK.out _ (Below.refl _ _)).mono ?_); rintro e w1 ⟨rfl, hB1⟩)
  go_ret2
  exact ⟨rfl, hB1⟩
/-- Block b is a heap, its blocks are X; c came, and it tells L. -/
structure HsI (B : Nat) (w : World) (b : Nat) (X : List Nat) (c : Nat) (L : List Int) : Prop where
  ex : ∃ v l, HBI B w b v c l ∧ blk b v = X ∧ Tells keyI l c L
  le : L.length ≤ c
section
variable {B : Nat} {w w' : World} {b c : Nat} {X : List Nat} {L : List Int}
theorem HsI.kept {Y : List Nat} (h : HsI B w b X c L) (hk : Kept Y w w') (hx : ∀ k ∈ X, k ∉ Y) : HsI B w' b X c L := by
  obtain ⟨⟨v, l, h1, rfl, h2⟩, h3⟩ := h
  exact ⟨⟨v, l, h1.kept hk hx, rfl, h2⟩, h3⟩
theorem HsI.later (h : HsI B w b X c L) (hb : Below w.heap.size w w') : HsI B w' b X c L := h.kept (Kept.of [] hb) (by simp)
theorem HsI.ge (h : HsI B w b X c L) : ∀ k ∈ X, B ≤ k ∧ k < w.heap.size := by
  obtain ⟨⟨v, l, h1, rfl, h2⟩, h3⟩ := h
  exact h1.blk_ge
theorem HsI.lim (h : HsI B w b X c L) : c ≤ 1000000 := by
  obtain ⟨⟨v, l, h1, rfl, h2⟩, h3⟩ := h
  exact h1.lim
theorem ins_lengthI (x : Int) : ∀ L : List Int, (ins keyI x L).length = L.length + 1
  | [] => rfl
  | a :: l => by
    unfold ins
    split
    · rfl
    · simp [ins_lengthI x l]
theorem hlenI (h : HsI B w b X c L) : Calls Try.prog 23 #[.pointer (some ⟨b, 0, none⟩)] w fun e w' => e = .returned (.int .i64 L.length) ∧ w = w' := by
  obtain ⟨⟨v, l, h1, rfl, h2⟩, h3⟩ := h
  rw [← h2.length]
  exact len_anyI w h1
def HPushI (B b c : Nat) (X : List Nat) (L : List Int) (w : World) (e : Ending) (w' : World) : Prop := e = .returned (.tuple #[]) ∧ ∃ X', HsI B w' b X' (c + 1) L ∧ Kept X w w' ∧ ∀ k ∈ X', k ∈ X ∨ w.heap.size ≤ k
theorem hpushI {x : Int} (h : HsI B w b X c L) (hx : okI x) (hc : c + 1 ≤ 1000000) : Calls Try.prog 31 #[.pointer (some ⟨b, 0, none⟩), .int .i64 x] w (HPushI B b c X (ins keyI x L) w) := by
  obtain ⟨⟨v, l, h1, rfl, h2⟩, h3⟩ := h
  refine (push_anyI w h1 h2.hp hx hc (by rw [h2.length]; omega)).mono ?_
  rintro e w' ⟨rfl, v', l', hP, hH, hB, hK, hb⟩
  exact ⟨rfl, blk b v', ⟨⟨v', l', hB, rfl, h2.push hP hH⟩, by rw [ins_lengthI]; omega⟩, hK, hb⟩
def HPopI (B b c : Nat) (X : List Nat) (x : Int) (L : List Int) (w : World) (e : Ending) (w' : World) : Prop := e = .returned (.tuple #[.int .i64 x, .bool true]) ∧ HsI B w' b X c L ∧ Kept X w w'
theorem hpopI {x : Int} (h : HsI B w b X c (x :: L)) : Calls Try.prog 24 #[.pointer (some ⟨b, 0, none⟩)] w (HPopI B b c X x L w) := by
  have hlim := h.lim
  obtain ⟨⟨v, l, h1, rfl, h2⟩, h3⟩ := h
  have hl := h2.length
  obtain ⟨p, hp⟩ : ∃ p, l[0]? = some p := ⟨l[0]'(by rw [hl]; simp), List.getElem?_eq_getElem _⟩
  obtain ⟨r, hr⟩ := h2.head hp
  injection hr with e1 e2
  subst e1
  refine (pop_someI w h1 h2.hp hp (by rw [hl]; omega)).mono ?_
  rintro e w' ⟨rfl, v', l', hP, hH, hB, hK, hb⟩
  exact ⟨rfl, ⟨⟨v', l', hB, hb, h2.pop hp hP hH⟩, by simp at h3; omega⟩, hK⟩
theorem hpeekI {x : Int} (h : HsI B w b X c (x :: L)) : Calls Try.prog 32 #[.pointer (some ⟨b, 0, none⟩)] w (Told (.tuple #[.int .i64 x, .bool true]) w) := by
  obtain ⟨⟨v, l, h1, rfl, h2⟩, h3⟩ := h
  have hl := h2.length
  obtain ⟨p, hp⟩ : ∃ p, l[0]? = some p := ⟨l[0]'(by rw [hl]; simp), List.getElem?_eq_getElem _⟩
  obtain ⟨r, hr⟩ := h2.head hp
  injection hr with e1 e2
  subst e1
  exact peek_someI w h1 hp
theorem hnilI (h : HsI B w b X c []) : Calls Try.prog 24 #[.pointer (some ⟨b, 0, none⟩)] w (Told (.tuple #[.int .i64 0, .bool false]) w) ∧ Calls Try.prog 32 #[.pointer (some ⟨b, 0, none⟩)] w (Told (.tuple #[.int .i64 0, .bool false]) w) := by
  obtain ⟨⟨v, l, h1, rfl, h2⟩, h3⟩ := h
  have hl : l = [] := List.eq_nil_of_length_eq_zero h2.length
  subst hl
  exact ⟨pop_noneI w h1, peek_noneI w h1⟩
end
/-- Things in a row that came in. -/
def RowOfI (w : World) (A : Option Addr) (xs : List Int) : Prop := ∀ (i : Nat) (x : Int), xs[i]? = some x → ∃ b o, A = some ⟨b, o, none⟩ ∧ b < w.heap.size ∧ okI x ∧ w.cell? ⟨b, o + i, none⟩ = some (.int .i64 x)
theorem RowOfI.later {w w' : World} {A : Option Addr} {xs : List Int} (h : RowOfI w A xs) (hb : Below w.heap.size w w') : RowOfI w' A xs := by
  intro i x hx
  obtain ⟨b, o, e, hl, ho, h0⟩ := h i x hx
  exact ⟨b, o, e, Nat.lt_of_lt_of_le hl hb.size, ho, (hb.cell (p := ⟨b, _, none⟩) hl).trans h0⟩
def allInI (xs : List Int) : List Int := xs.foldl (fun L x => ins keyI x L) []
theorem allIn_snocI (xs : List Int) (x : Int) : allInI (xs ++ [x]) = ins keyI x (allInI xs) := by simp [allInI]
def HNewI (n : Nat) (L : List Int) (w : World) (e : Ending) (w' : World) : Prop := ∃ X, e = .returned (.pointer (some ⟨w.heap.size, 0, none⟩)) ∧ HsI w.heap.size w' w.heap.size X n L ∧ Below w.heap.size w w'
set_option maxRecDepth 100000 in
set_option maxHeartbeats 4000000 in
theorem new_anyI {A : Option Addr} {n cap : Nat} {xs : List Int} (w : World) (hR : RowOfI w A xs) (hn : xs.length = n) (h1 : n ≤ 10000) (h2 : n ≤ cap) (h3 : cap ≤ 9223372036854775807) : Calls Try.prog 18 #[.func (.func 19) #[] #[], .slice A n cap] w (HNewI n (allInI xs) w) := by
  have RR := Lib.hid hR
  have HN := Lib.hid hn
  have hb0 : Below w.heap.size w (w.alloc (.cells #[.func (.func 19) #[] #[], .slice none 0 0, .int .i64 0] 80)) := (Below.refl _ _).alloc (Nat.le_refl _) _
  have h0 : HsI w.heap.size (w.alloc (.cells #[.func (.func 19) #[] #[], .slice none 0 0, .int .i64 0] 80)) w.heap.size [w.heap.size] 0 [] :=
    ⟨⟨.slice none 0 0, [], ⟨Nat.le_refl _, heap_alloc_new w _, World.ownsRow_nil _ _ _ _, by simp, by simp, by omega⟩, rfl, Tells.nil 0⟩, Nat.le_refl _⟩
  have H0 := Lib.hid h0
  have HB0 := Lib.hid hb0
  clear hR hn hb0 h0
  go_enter Try.func18, Try.ntmps18
  go_wp2
  go_loopw [13] (fun i wr => ∃ (k : Nat) (X : List Nat), k ≤ n ∧ i = .int .i64 k ∧ Hid (HsI w.heap.size wr w.heap.size X k (allInI (xs.take k))) ∧ Hid (Below w.heap.size w wr)) (fun i _ => n - (intOf i).toNat)
  case atStart => exact ⟨0, [w.heap.size], Nat.zero_le _, rfl, by rw [List.take_zero]; exact H0, HB0⟩
  case round =>
    obtain ⟨k, X, hk, rfl, hH, hL⟩ := hrel
    clear H0 HB0
    by_cases hlt : k < n
    · obtain ⟨x, hx⟩ : ∃ x, xs[k]? = some x := ⟨xs[k]'(by rw [HN.out]; exact hlt), List.getElem?_eq_getElem _⟩
      have e1 := take_one hx
      obtain ⟨rb, ro, rfl, hrl, hox, x0⟩ := RR.out.later hL.out k x hx
      have PU := Lib.hid (hpushI hH.out hox (by omega))
      have HX := Lib.hid hox
      have HE := Lib.hid (show allInI (xs.take (k + 1)) = ins keyI x (allInI (xs.take k)) by rw [e1, allIn_snocI])
      have hi0 : (0 : Int) ≤ (k : Int) := by omega
      have hi1 : (k : Int) < (n : Int) := by omega
      clear hx e1 hox 
      go_wp2_with (go_at_call 31; (with_reducible refine PU.out.mono ?_); rintro e w2 ⟨rfl, X2, hH2, hK2, hX2⟩)
      have hB2 : Below w.heap.size w w2 := by
        exact hL.out.trans (hK2.below hL.out.size (fun j hj => (hH.out.ge j hj).1))
      have H2 := Lib.hid hH2
      have HB2 := Lib.hid hB2
      clear hH2 hK2 hX2 hB2
      go_roundw
      case rel => exact ⟨k + 1, X2, by omega, by go_num, by rw [HE.out]; exact H2, HB2⟩
      case measure => simp [intOf]; omega
    · obtain rfl : k = n := by omega
      go_wp2
      go_ret
      refine ⟨X, rfl, ?_, hL.out⟩
      have := hH.out
      rwa [List.take_of_length_le (by rw [HN.out]; exact Nat.le_refl _)] at this
end Go.Proofs.Ytebbpgokhelmdaa
