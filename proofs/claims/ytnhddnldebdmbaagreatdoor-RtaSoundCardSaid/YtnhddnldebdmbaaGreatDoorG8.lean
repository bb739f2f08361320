/- Texts about the program, one after the other: HHI, Grw, FAP, FBP, FCP, FDP, FEP, FFP, EMem, EQui, ERel. -/
import Derived.Test.YtnhddnldebdmbaaGreatDoorG7
import Derived.Shelf.SlGeneric
import Derived.Shelf.Spec.SlicesGrow
import Derived.Ground.Names8Prog
import Derived.Test.YtnhddnldebdmbaaGreatDoorProg
import Derived.Test.YtnhddnldebdmbaaGreatDoorG6
import Derived.Test.YtnhddnldebdmbaaGreatDoorG5
/- A heap by what it tells. -/
namespace Go.Proofs.YtnhddnldebdmbaaGreatDoor
open Go.RowKit
set_option linter.unusedVariables false
set_option linter.unusedSimpArgs false
variable {K : LK}
attribute [local go_sem ↓] Go.wp_at_zero Go.wp_at_succ

set_option maxRecDepth 100000 in
set_option maxHeartbeats 4000000 in
theorem pop_noneI {B b c : Nat} {v : Value} (w : World) (h : HBI K B w b v c []) : Calls Tryz.prog 95 #[.pointer (some ⟨b, 0, none⟩)] w (Told (.tuple #[.int .i64 0, .bool false]) w) := by
  have PK := Lib.hid (fun W (hB : Below w.heap.size w W) => peek_noneI W (h.later hB))
  clear h
  go_enter Tryz.func95, Tryz.ntmps95
  go_wp2_with (go_at_call 67; (with_reducible refine (PK.out _ (Below.refl _ _)).mono ?_); rintro e w1 ⟨rfl, hB1⟩)
  go_ret2
  exact ⟨rfl, hB1⟩
/-- Block b is a heap, its blocks are X; c came, and it tells L. -/
structure HsI (K : LK) (B : Nat) (w : World) (b : Nat) (X : List Nat) (c : Nat) (L : List Int) : Prop where
  ex : ∃ v l, HBI K B w b v c l ∧ blk b v = X ∧ Tells (keyK K) l c L
  le : L.length ≤ c
section
variable {B : Nat} {w w' : World} {b c : Nat} {X : List Nat} {L : List Int}
theorem HsI.kept {Y : List Nat} (h : HsI K B w b X c L) (hk : Kept Y w w') (hx : ∀ k ∈ X, k ∉ Y) (hz : ∀ k ∈ Y, k ≠ K.bl ∧ k ≠ K.lb) : HsI K B w' b X c L := by
  obtain ⟨⟨v, l, h1, rfl, h2⟩, h3⟩ := h
  exact ⟨⟨v, l, h1.kept hk hx hz, rfl, h2⟩, h3⟩
theorem HsI.later (h : HsI K B w b X c L) (hb : Below w.heap.size w w') : HsI K B w' b X c L := h.kept (Kept.of [] hb) (by simp) (by simp)
theorem HsI.ge (h : HsI K B w b X c L) : ∀ k ∈ X, B ≤ k ∧ k < w.heap.size := by
  obtain ⟨⟨v, l, h1, rfl, h2⟩, h3⟩ := h
  exact h1.blk_ge
theorem HsI.lim (h : HsI K B w b X c L) : c ≤ 1000000 := by
  obtain ⟨⟨v, l, h1, rfl, h2⟩, h3⟩ := h
  exact h1.lim
theorem ins_lengthI (x : Int) : ∀ L : List Int, (ins (keyK K) x L).length = L.length + 1
  | [] => rfl
  | a :: l => by
    unfold ins
    split
    · rfl
    · simp [ins_lengthI x l]
theorem hlenI (h : HsI K B w b X c L) : Calls Tryz.prog 93 #[.pointer (some ⟨b, 0, none⟩)] w fun e w' => e = .returned (.int .i64 L.length) ∧ w = w' := by
  obtain ⟨⟨v, l, h1, rfl, h2⟩, h3⟩ := h
  rw [← h2.length]
  exact len_anyI w h1
def HPushI (K : LK) (B b c : Nat) (X : List Nat) (L : List Int) (w : World) (e : Ending) (w' : World) : Prop := e = .returned (.tuple #[]) ∧ ∃ X', HsI K B w' b X' (c + 1) L ∧ Kept X w w' ∧ ∀ k ∈ X', k ∈ X ∨ w.heap.size ≤ k
theorem hpushI {x : Int} (h : HsI K B w b X c L) (hx : okK K x) (hc : c + 1 ≤ 1000000) : Calls Tryz.prog 64 #[.pointer (some ⟨b, 0, none⟩), .int .i64 x] w (HPushI K B b c X (ins (keyK K) x L) w) := by
  obtain ⟨⟨v, l, h1, rfl, h2⟩, h3⟩ := h
  refine (push_anyI w h1 h2.hp hx hc (by rw [h2.length]; omega)).mono ?_
  rintro e w' ⟨rfl, v', l', hP, hH, hB, hK, hb⟩
  exact ⟨rfl, blk b v', ⟨⟨v', l', hB, rfl, h2.push hP hH⟩, by rw [ins_lengthI]; omega⟩, hK, hb⟩
def HPopI (K : LK) (B b c : Nat) (X : List Nat) (x : Int) (L : List Int) (w : World) (e : Ending) (w' : World) : Prop := e = .returned (.tuple #[.int .i64 x, .bool true]) ∧ HsI K B w' b X c L ∧ Kept X w w'
theorem hpopI {x : Int} (h : HsI K B w b X c (x :: L)) : Calls Tryz.prog 95 #[.pointer (some ⟨b, 0, none⟩)] w (HPopI K B b c X x L w) := by
  have hlim := h.lim
  obtain ⟨⟨v, l, h1, rfl, h2⟩, h3⟩ := h
  have hl := h2.length
  obtain ⟨p, hp⟩ : ∃ p, l[0]? = some p := ⟨l[0]'(by rw [hl]; simp), List.getElem?_eq_getElem _⟩
  obtain ⟨r, hr⟩ := h2.head hp
  injection hr with e1 e2
  subst e1
  refine (pop_someI w h1 h2.hp hp (by rw [hl]; omega)).mono ?_
  rintro e w' ⟨rfl, v', l', hP, hH, hB, hK, hb⟩
  exact ⟨rfl, ⟨⟨v', l', hB, hb, h2.pop hp hP hH⟩, by simp at h3; omega⟩, hK⟩
theorem hpeekI {x : Int} (h : HsI K B w b X c (x :: L)) : Calls Tryz.prog 67 #[.pointer (some ⟨b, 0, none⟩)] w (Told (.tuple #[.int .i64 x, .bool true]) w) := by
  obtain ⟨⟨v, l, h1, rfl, h2⟩, h3⟩ := h
  have hl := h2.length
  obtain ⟨p, hp⟩ : ∃ p, l[0]? = some p := ⟨l[0]'(by rw [hl]; simp), List.getElem?_eq_getElem _⟩
  obtain ⟨r, hr⟩ := h2.head hp
  injection hr with e1 e2
  subst e1
  exact peek_someI w h1 hp
theorem hnilI (h : HsI K B w b X c []) : Calls Tryz.prog 95 #[.pointer (some ⟨b, 0, none⟩)] w (Told (.tuple #[.int .i64 0, .bool false]) w) ∧ Calls Tryz.prog 67 #[.pointer (some ⟨b, 0, none⟩)] w (Told (.tuple #[.int .i64 0, .bool false]) w) := by
  obtain ⟨⟨v, l, h1, rfl, h2⟩, h3⟩ := h
  have hl : l = [] := List.eq_nil_of_length_eq_zero h2.length
  subst hl
  exact ⟨pop_noneI w h1, peek_noneI w h1⟩
end
/-- Things in a row that came in. -/
def RowOfI (K : LK) (w : World) (A : Option Addr) (xs : List Int) : Prop := ∀ (i : Nat) (x : Int), xs[i]? = some x → ∃ b o, A = some ⟨b, o, none⟩ ∧ b < w.heap.size ∧ okK K x ∧ w.cell? ⟨b, o + i, none⟩ = some (.int .i64 x)
theorem RowOfI.later {w w' : World} {A : Option Addr} {xs : List Int} (h : RowOfI K w A xs) (hb : Below w.heap.size w w') : RowOfI K w' A xs := by
  intro i x hx
  obtain ⟨b, o, e, hl, ho, h0⟩ := h i x hx
  exact ⟨b, o, e, Nat.lt_of_lt_of_le hl hb.size, ho, (hb.cell (p := ⟨b, _, none⟩) hl).trans h0⟩
def allInI (K : LK) (xs : List Int) : List Int := xs.foldl (fun L x => ins (keyK K) x L) []
theorem allIn_snocI (xs : List Int) (x : Int) : allInI K (xs ++ [x]) = ins (keyK K) x (allInI K xs) := by simp [allInI]
def HNewI (K : LK) (n : Nat) (L : List Int) (w : World) (e : Ending) (w' : World) : Prop := ∃ X, e = .returned (.pointer (some ⟨w.heap.size, 0, none⟩)) ∧ HsI K w.heap.size w' w.heap.size X n L ∧ Below w.heap.size w w'
set_option maxRecDepth 100000 in
set_option maxHeartbeats 4000000 in
theorem new_anyI {A : Option Addr} {n cap : Nat} {xs : List Int} (w : World) (hL : LessOk K w.heap.size w) (hR : RowOfI K w A xs) (hn : xs.length = n) (h1 : n ≤ 10000) (h2 : n ≤ cap) (h3 : cap ≤ 9223372036854775807) : Calls Tryz.prog 41 #[K.fv, .slice A n cap] w (HNewI K n (allInI K xs) w) := by
  have RR := Lib.hid hR
  have HN := Lib.hid hn
  have hb0 : Below w.heap.size w (w.alloc (.cells #[K.fv, .slice none 0 0, .int .i64 0] 117)) := (Below.refl _ _).alloc (Nat.le_refl _) _
  have h0 : HsI K w.heap.size (w.alloc (.cells #[K.fv, .slice none 0 0, .int .i64 0] 117)) w.heap.size [w.heap.size] 0 [] :=
    ⟨⟨.slice none 0 0, [], ⟨Nat.le_refl _, heap_alloc_new w _, World.ownsRow_nil _ _ _ _, by simp, by simp, by omega, hL.later hb0⟩, rfl, Tells.nil 0⟩, Nat.le_refl _⟩
  have H0 := Lib.hid h0
  have HB0 := Lib.hid hb0
  clear hR hn hb0 h0 hL
  go_enter Tryz.func41, Tryz.ntmps41
  go_wp2
  go_loopw [13] (fun i wr => ∃ (k : Nat) (X : List Nat), k ≤ n ∧ i = .int .i64 k ∧ Hid (HsI K w.heap.size wr w.heap.size X k (allInI K (xs.take k))) ∧ Hid (Below w.heap.size w wr)) (fun i _ => n - (intOf i).toNat)
  case atStart => exact ⟨0, [w.heap.size], Nat.zero_le _, rfl, by rw [List.take_zero]; exact H0, HB0⟩
  case round =>
    obtain ⟨k, X, hk, rfl, hH, hL⟩ := hrel
    clear H0 HB0
    by_cases hlt : k < n
    · obtain ⟨x, hx⟩ : ∃ x, xs[k]? = some x := ⟨xs[k]'(by rw [HN.out]; exact hlt), List.getElem?_eq_getElem _⟩
      have e1 := take_one hx
      obtain ⟨rb, ro, rfl, hrl, hox, x0⟩ := RR.out.later hL.out k x hx
      have PU := Lib.hid (hpushI hH.out hox (by omega))
      have HX := Lib.hid hox
      have HE := Lib.hid (show allInI K (xs.take (k + 1)) = ins (keyK K) x (allInI K (xs.take k)) by rw [e1, allIn_snocI])
      have hi0 : (0 : Int) ≤ (k : Int) := by omega
      have hi1 : (k : Int) < (n : Int) := by omega
      clear hx e1 hox 
      go_wp2_with (go_at_call 64; (with_reducible refine PU.out.mono ?_); rintro e w2 ⟨rfl, X2, hH2, hK2, hX2⟩)
      have hB2 : Below w.heap.size w w2 := by
        exact hL.out.trans (hK2.below hL.out.size (fun j hj => (hH.out.ge j hj).1))
      have H2 := Lib.hid hH2
      have HB2 := Lib.hid hB2
      clear hH2 hK2 hX2 hB2
      go_roundw
      case rel => exact ⟨k + 1, X2, by omega, by go_num, by rw [HE.out]; exact H2, HB2⟩
      case measure => simp [intOf]; omega
    · obtain rfl : k = n := by omega
      go_wp2
      go_ret
      refine ⟨X, rfl, ?_, hL.out⟩
      have := hH.out
      rwa [List.take_of_length_le (by rw [HN.out]; exact Nat.le_refl _)] at this
end Go.Proofs.YtnhddnldebdmbaaGreatDoor
/- The library's contract, laid at this seat's translation. -/
namespace Go.Proofs
open Go.Shelf
def Tryz.growP_ren : Go.Shelf.Ren := ⟨fun | 4 => 115 | n => n, fun | 22 => 120 | 25 => 91 | 3 => 3 | 4 => 4 | 9 => 9 | 20 => 20 | 0 => 0 | n => n, fun | n => n⟩
theorem Tryz.growP : Go.Proofs.Lays8.n4 Tryz.prog Tryz.growP_ren := {
  mixed := by kernel_rfl
  f4 := ⟨Tryz.f115.name, by decide, Tryz.func115.trans (congrArg some (by kernel_rfl))⟩
  t0 := Tryz.underlying0
  a0 := Tryz.isAgg0
  z0 := Tryz.sizeOf0
  v0 := Tryz.zeroValue0
  t3 := Tryz.underlying3
  a3 := Tryz.isAgg3
  z3 := Tryz.sizeOf3
  v3 := Tryz.zeroValue3
  t4 := Tryz.underlying4
  a4 := Tryz.isAgg4
  z4 := Tryz.sizeOf4
  v4 := Tryz.zeroValue4
  t9 := Tryz.underlying9
  a9 := Tryz.isAgg9
  z9 := Tryz.sizeOf9
  v9 := Tryz.zeroValue9
  t20 := Tryz.underlying20
  a20 := Tryz.isAgg20
  z20 := Tryz.sizeOf20
  v20 := Tryz.zeroValue20
  t22 := Tryz.underlying120
  a22 := Tryz.isAgg120
  z22 := Tryz.sizeOf120
  v22 := Tryz.zeroValue120 }
end Go.Proofs
/- A queue in memory: its place, its length, its room. -/
namespace Go.Proofs.YtnhddnldebdmbaaGreatDoor
open Go.RowKit
set_option linter.unusedVariables false
set_option linter.unusedSimpArgs false
attribute [local go_sem ↓] Go.wp_at_zero Go.wp_at_succ

def clP (l : List Nat) : List Value := l.map (fun x => .pointer (some ⟨x, 0, none⟩))
theorem cl_lenP (l : List Nat) : (clP l).length = l.length := by simp [clP]
theorem cl_appP (a b : List Nat) : clP (a ++ b) = clP a ++ clP b := by simp [clP]
theorem cl_getP {l : List Nat} {i : Nat} {x : Nat} (h : l[i]? = some x) : (clP l)[i]? = some (.pointer (some ⟨x, 0, none⟩)) := by simp [clP, h]
theorem cl_get'P {l : List Nat} {i : Nat} {u : Value} (h : (clP l)[i]? = some u) : ∃ x, l[i]? = some x ∧ u = .pointer (some ⟨x, 0, none⟩) := by
  simp only [clP, List.getElem?_map, Option.map_eq_some_iff] at h
  obtain ⟨x, h1, h2⟩ := h
  exact ⟨x, h1, h2.symm⟩
theorem cl_oneP (l : List Nat) : ∀ u ∈ clP l, u.oneCell' = true := by
  intro u hu
  simp only [clP, List.mem_map] at hu
  obtain ⟨x, -, rfl⟩ := hu
  simp [Value.oneCell']
/-- The ring: v its slice, of N places, the first thing at f. -/
def RingP (B : Nat) (w : World) (v : Value) (N f : Nat) (l : List Nat) : Prop := (v = .slice none 0 0 ∧ N = 0 ∧ f = 0 ∧ l = []) ∨
  ∃ g cur, v = .slice (some ⟨g, 0, none⟩) N N ∧ B ≤ g ∧ w.heap[g]? = some (.cells cur 91 (0, 0)) ∧ N ≤ cur.size ∧ f < N ∧ l.length ≤ N ∧ ∀ i x, l[i]? = some x → cur[(f + i) % N]? = some (.pointer (some ⟨x, 0, none⟩))
/-- Block b is a queue: v its ring; l its things. -/
structure FQP (B : Nat) (w : World) (b o : Nat) (v : Value) (N f : Nat) (l : List Nat) : Prop where
  hB : B ≤ b
  row : ∃ cur, w.heap[b]? = some (.cells cur 122 (0, 0))
  c0 : w.cell? ⟨b, o, none⟩ = some v
  c1 : w.cell? ⟨b, o + 1, none⟩ = some (.int .i64 (f : Int))
  c2 : w.cell? ⟨b, o + 2, none⟩ = some (.int .i64 (l.length : Int))
  ring : RingP B w v N f l
  lim : N ≤ 1000000
theorem cell_set_at {w : World} {p : Addr} {u v : Value} (h : w.cell? p = some u) : (w.setCell p v).cell? p = some v := by
  apply World.cell?_setCell_same; exact h
theorem cell_set_far {w : World} {p q : Addr} {v : Value} (h : p ≠ q) : (w.setCell p v).cell? q = w.cell? q := by
  apply World.cell?_setCell_other; exact h
/-- Of block b nothing has turned but the three cells at o. -/
def FrQ (b o : Nat) (w w' : World) : Prop := ∀ i, (i < o ∨ o + 3 ≤ i) → w'.cell? ⟨b, i, none⟩ = w.cell? ⟨b, i, none⟩
theorem FrQ.of {b o : Nat} {w w' : World} (h : Below w.heap.size w w') (hb : b < w.heap.size) : FrQ b o w w' := fun i _ => h.cell (p := ⟨b, i, none⟩) hb
theorem FrQ.kept {b o : Nat} {X : List Nat} {w w' : World} (h : Kept X w w') (hb : b < w.heap.size) (hx : b ∉ X) : FrQ b o w w' := fun i _ => h.cell hb hx
theorem FrQ.trans {b o : Nat} {w w' w'' : World} (h : FrQ b o w w') (k : FrQ b o w' w'') : FrQ b o w w'' := fun i hi => (k i hi).trans (h i hi)
theorem FrQ.setg {b o : Nat} {a w : World} (h : FrQ b o a w) (g i : Nat) (v : Value) (hg : g ≠ b) : FrQ b o a (w.setCell ⟨g, i, none⟩ v) := fun k hk => (cell_set_far (by intro e; injection e with e1 e2; exact hg e1)).trans (h k hk)
theorem FrQ.setb {b o : Nat} {a w : World} (h : FrQ b o a w) (i : Nat) (v : Value) (hi : o ≤ i ∧ i < o + 3) : FrQ b o a (w.setCell ⟨b, i, none⟩ v) := fun k hk => (cell_set_far (by intro e; injection e with e1 e2; omega)).trans (h k hk)
section
variable {B : Nat} {w w' : World} {b o N f : Nat} {v : Value} {l : List Nat}
theorem FQP.lt (h : FQP B w b o v N f l) : b < w.heap.size := World.block_lt_of_cell? w _ h.c0
theorem FQP.fz (h : FQP B w b o v N f l) (i : Nat) : w.frozen? ⟨b, i, none⟩ = false := by
  obtain ⟨cur, hc⟩ := h.row
  simp [World.frozen?, hc]
theorem FQP.blk_ge (h : FQP B w b o v N f l) : ∀ k ∈ blk b v, B ≤ k ∧ k < w.heap.size := by
  intro k hk
  simp only [blk, List.mem_cons] at hk
  rcases hk with rfl | hk
  · exact ⟨h.hB, h.lt⟩
  · rcases h.ring with ⟨rfl, _⟩ | ⟨g, cur, rfl, hg, hh, _⟩
    · simp [Value.ownBlock] at hk
    · simp [Value.ownBlock] at hk
      subst hk
      exact ⟨hg, (Array.getElem?_eq_some_iff.1 hh).1⟩
theorem RingP.kept {X : List Nat} (h : RingP B w v N f l) (hk : Kept X w w') (hx : ∀ k ∈ v.ownBlock.toList, k ∉ X) : RingP B w' v N f l := by
  rcases h with h | ⟨g, cur, rfl, hg, hh, r⟩
  · exact .inl h
  · exact .inr ⟨g, cur, rfl, hg, (hk.block g (Array.getElem?_eq_some_iff.1 hh).1 (hx g (by simp [Value.ownBlock]))).trans hh, r⟩
theorem FQP.kept {X : List Nat} (h : FQP B w b o v N f l) (hk : Kept X w w') (hx : ∀ k ∈ blk b v, k ∉ X) : FQP B w' b o v N f l :=
  ⟨h.hB, (by obtain ⟨cur, hc⟩ := h.row; exact ⟨cur, (hk.block b h.lt (hx b (by simp [blk]))).trans hc⟩), (hk.cell h.lt (hx b (by simp [blk]))).trans h.c0, (hk.cell h.lt (hx b (by simp [blk]))).trans h.c1, (hk.cell h.lt (hx b (by simp [blk]))).trans h.c2, h.ring.kept hk (fun k hm => hx k (by simp only [blk, List.mem_cons]; exact .inr hm)), h.lim⟩
theorem FQP.later (h : FQP B w b o v N f l) (hb : Below w.heap.size w w') : FQP B w' b o v N f l := h.kept (Kept.of [] hb) (by simp)
theorem FQP.len_le (h : FQP B w b o v N f l) : l.length ≤ N := by
  rcases h.ring with ⟨_, rfl, _, rfl⟩ | ⟨g, cur, _, _, _, _, _, h, _⟩
  · exact Nat.le_refl _
  · exact h
theorem FQP.open (h : FQP B w b o v N f l) (hN : 0 < N) : ∃ g cur, v = .slice (some ⟨g, 0, none⟩) N N ∧ B ≤ g ∧ w.heap[g]? = some (.cells cur 91 (0, 0)) ∧ N ≤ cur.size ∧ f < N ∧ (∀ i x, l[i]? = some x → cur[(f + i) % N]? = some (.pointer (some ⟨x, 0, none⟩))) ∧ b ≠ g := by
  rcases h.ring with ⟨_, rfl, _⟩ | ⟨g, cur, rfl, h1, h2, h3, h4, h5, h6⟩
  · omega
  · refine ⟨g, cur, rfl, h1, h2, h3, h4, h6, ?_⟩
    rintro rfl
    obtain ⟨cq, this⟩ := h.row
    rw [h2] at this
    simp only [Option.some.injEq, Obj.cells.injEq] at this
    exact absurd this.2.1 (by decide)
theorem FQP.first (h : FQP B w b o v N f l) (hN : 0 < N) : f < N := by
  obtain ⟨_, _, _, _, _, _, h, _⟩ := h.open hN
  exact h
theorem FQP.ringv (h : FQP B w b o v N f l) : ∃ A, v = .slice A N N := by
  rcases h.ring with ⟨rfl, rfl, _⟩ | ⟨g, cur, rfl, _⟩
  · exact ⟨_, rfl⟩
  · exact ⟨_, rfl⟩
end
set_option maxRecDepth 100000 in
set_option maxHeartbeats 2000000 in
theorem len_anyP {B b o N f : Nat} {v : Value} {l : List Nat} (w : World) (h : FQP B w b o v N f l) : Calls Tryz.prog 65 #[.pointer (some ⟨b, o, none⟩)] w fun e w' => e = .returned (.int .i64 (l.length : Int)) ∧ w = w' := by
  have c2 := h.c2
  generalize l.length = n at *
  clear h
  go_enter Tryz.func65, Tryz.ntmps65
  go_wp2
  go_ret
  exact ⟨rfl, rfl⟩
set_option maxRecDepth 100000 in
set_option maxHeartbeats 4000000 in
theorem place_cP {b o N f : Nat} {A : Option Addr} (w : World) (c0 : w.cell? ⟨b, o, none⟩ = some (.slice A N N)) (c1 : w.cell? ⟨b, o + 1, none⟩ = some (.int .i64 (f : Int))) (hf : f < N) (hl : N ≤ 1000000) (i : Nat) (hi : i ≤ 1000000) : Calls Tryz.prog 92 #[.pointer (some ⟨b, o, none⟩), .int .i64 (i : Int)] w (Quiet (.int .i64 (((f + i) % N : Nat) : Int)) w) := by
  obtain ⟨s, hs⟩ : ∃ s, f + i = s := ⟨_, rfl⟩
  have hm := tmod_nat s N
  have he : (f : Int) + (i : Int) = (s : Int) := by omega
  have hs2 : s ≤ 2000000 := by omega
  rw [hs]
  have hz : (N : Int) ≠ 0 := by omega
  generalize s % N = r at *
  clear hs
  go_enter Tryz.func92, Tryz.ntmps92
  go_upto_region 1 with (fail)
  go_quiet (fail)
  go_wp2
  go_ret
  exact ⟨rfl, _, rfl⟩
theorem place_anyP {B b o N f : Nat} {v : Value} {l : List Nat} (w : World) (h : FQP B w b o v N f l) (i : Nat) (hN : 0 < N) (hi : i ≤ 1000000) : Calls Tryz.prog 92 #[.pointer (some ⟨b, o, none⟩), .int .i64 (i : Int)] w (Quiet (.int .i64 (((f + i) % N : Nat) : Int)) w) := by
  obtain ⟨g, cur, rfl, -, -, -, hf, -⟩ := h.open hN
  exact place_cP w h.c0 h.c1 hf h.lim i hi
end Go.Proofs.YtnhddnldebdmbaaGreatDoor
/- Rows one behind the other; all things of a queue in a row of their own. -/
namespace Go.Proofs.YtnhddnldebdmbaaGreatDoor
open Go.RowKit
set_option linter.unusedVariables false
set_option linter.unusedSimpArgs false
attribute [local go_sem ↓] Go.wp_at_zero Go.wp_at_succ

theorem infoTP : (Tryz.prog.info? 91).map (fun i => (i.zero, i.size, i.bytes)) = some (some (.pointer none), 1, 8) := by kernel_rfl
theorem grow_zeroP (w : World) : Calls Tryz.prog 115 #[.slice none 0 0, .int .i64 0] w fun e w' => e = .returned (.slice none 0 0) ∧ w' = w :=
  Any8.slices_Grow_room Tryz.growP none 0 0 0 w (by omega) (by omega) (by omega) (by omega)
def GrownToP (n : Nat) (w : World) (e : Ending) (w' : World) : Prop := ∃ cap, e = .returned (.slice (some ⟨w.heap.size, 0, none⟩) 0 cap) ∧ n ≤ cap ∧ cap ≤ 9223372036854775807 ∧ w'.ownsRow w.heap.size 91 1 (.slice (some ⟨w.heap.size, 0, none⟩) 0 cap) 0 [] ∧ Below w.heap.size w w'
theorem grow_someP (w : World) (n : Nat) (h0 : 0 < n) (h1 : n ≤ 4000000) : Calls Tryz.prog 115 #[.slice none 0 0, .int .i64 (n : Int)] w (GrownToP n w) := by
  obtain ⟨i0, hi, hz0, hz1, hz2⟩ := info_parts infoTP
  refine (Any8.slices_Grow_grow Tryz.growP i0 _ hi hz0 (by omega) none 0 0 n [] w (Nat.le_refl _) (by omega) (by rw [hz2]; omega) (by omega) (by simp) (fun _ => rfl) (fun a h => by cases h)).mono ?_
  rintro e w' ⟨rfl, rfl⟩
  have e25 : Tryz.growP_ren.t 25 = 91 := rfl
  have hg := grownCap_ge w (0 + n) 0 91
  have hm := grownCap_le_maxLen w (0 + n) 0 91 (by unfold maxLen; omega)
  refine ⟨grownCap w (0 + n) 0 91, rfl, by omega, by unfold maxLen at hm; omega, ?_, ?_⟩
  · refine World.ownsRow_made w.drew _ _ (Nat.le_refl _) hm ?_
    rw [Nat.zero_add] at hg
    simp [Builtin.zeroCells, Value.cells, e25]
    omega
  · exact Below.trans (below_drew w) (show Below w.drew.heap.size w.drew _ from (Below.refl _ _).alloc (Nat.le_refl _) _)
/-- Things that lie in a row. -/
def RowAP (w : World) (a : Addr) (xs : List Nat) : Prop := ∀ (i : Nat) (x : Nat), xs[i]? = some x → w.cell? (a.add i) = some (.pointer (some ⟨x, 0, none⟩))
theorem RowAP.later {w w' : World} {a : Addr} {xs : List Nat} (h : RowAP w a xs) (hb : Below w.heap.size w w') : RowAP w' a xs := by
  intro i x hx
  have h0 := h i x hx
  exact (hb.cell (p := a.add i) (World.block_lt_of_cell? w _ h0)).trans h0
theorem RowAP.cells {w : World} {a : Addr} {xs : List Nat} (h : RowAP w a xs) : ∀ (j : Nat) (u : Value), (clP xs)[j]? = some u → w.cell? (a.add j) = some u := by
  intro j u hu
  obtain ⟨x, hx, rfl⟩ := cl_get'P hu
  exact h j x hx
def RowPP (w : World) (B n : Nat) (xs : List Nat) (e : Ending) (w' : World) : Prop := ∃ v, e = .returned v ∧ w'.ownsRow B 91 1 v n (clP xs) ∧ Below w.heap.size w w'
def TwoP (W0 : World) (t : Nat) (A1 A2 : Option Addr) (p q c1 c2 : Nat) (W : World) : Prop := W.cell? ⟨t, 0, none⟩ = some (.slice A1 p c1) ∧ W.cell? ⟨t, 1, none⟩ = some (.slice A2 q c2) ∧ Below W0.heap.size W0 W
theorem TwoP.step {W0 W W' : World} {t : Nat} {A1 A2 : Option Addr} {p q c1 c2 : Nat} (h : TwoP W0 t A1 A2 p q c1 c2 W) (hb : Below W.heap.size W W') : TwoP W0 t A1 A2 p q c1 c2 W' :=
  ⟨(hb.cell (p := ⟨t, 0, none⟩) (World.block_lt_of_cell? W _ h.1)).trans h.1, (hb.cell (p := ⟨t, 1, none⟩) (World.block_lt_of_cell? W ⟨t, 1, none⟩ h.2.1)).trans h.2.1, h.2.2.trans (hb.mono h.2.2.size)⟩
theorem TwoP.own {W0 W W' : World} {t n : Nat} {A1 A2 : Option Addr} {p q c1 c2 : Nat} {e : TypeId} {u : Value} {zs : List Value} (h : TwoP W0 t A1 A2 p q c1 c2 W) (ht : t < W0.heap.size) (hg : W.grownBy W' u.ownBlock) (hr : W.ownsRow W0.heap.size e 1 u n zs) : TwoP W0 t A1 A2 p q c1 c2 W' := by
  have B : Below W0.heap.size W0 W' := h.2.2.grown hg h.2.2.size (fun k e => (hr.lt k e).1)
  exact ⟨((B.cell (p := ⟨t, 0, none⟩) ht).trans (h.2.2.cell (p := ⟨t, 0, none⟩) ht).symm).trans h.1, ((B.cell (p := ⟨t, 1, none⟩) ht).trans (h.2.2.cell (p := ⟨t, 1, none⟩) ht).symm).trans h.2.1, B⟩
set_option maxRecDepth 100000 in
set_option maxHeartbeats 4000000 in
/-- Of rows that lie somewhere. -/
theorem concat_someP (w : World) {t p q c1 c2 : Nat} {a1 a2 : Addr} {xs ys : List Nat} (h1 : w.cell? ⟨t, 0, none⟩ = some (.slice (some a1) p c1)) (h2 : w.cell? ⟨t, 1, none⟩ = some (.slice (some a2) q c2)) (hx : RowAP w a1 xs) (hy : RowAP w a2 ys) (hp : xs.length = p) (hq : ys.length = q) (hn : p + q ≤ 2000000) (h0 : 0 < p + q) :
    Calls Tryz.prog 116 #[.slice (some ⟨t, 0, none⟩) 2 2] w (RowPP w w.heap.size (p + q) (xs ++ ys)) := by
  obtain ⟨i0, hi, hz0, hz1, hz2⟩ := info_parts infoTP
  obtain ⟨n, hpq⟩ : ∃ n, p + q = n := ⟨_, rfl⟩
  have hpqI : (p : Int) + (q : Int) = (n : Int) := by omega
  have TL := Lib.hid (World.block_lt_of_cell? w ⟨t, 0, none⟩ h1)
  have T0 := Lib.hid (show TwoP w t (some a1) (some a2) p q c1 c2 w from ⟨h1, h2, Below.refl _ _⟩)
  have HX := Lib.hid hx
  have HY := Lib.hid hy
  have G := Lib.hid (grow_someP w n (by omega) (by omega))
  have HP := Lib.hid hp
  have HQ := Lib.hid hq
  have HPQ := Lib.hid hpq
  have hn2 : n ≤ 2000000 := by omega
  have hp2 : p ≤ 2000000 := by omega
  have hq2 : q ≤ 2000000 := by omega
  clear hx hy hp hq h0 hn
  rw [hpq]
  clear hpq
  go_enter Tryz.func116, Tryz.ntmps116
  go_wp2
  go_loopw [3, 11] (fun s i wr => wr = w ∧ ((i = .int .i64 0 ∧ s = .int .i64 0) ∨ (i = .int .i64 1 ∧ s = .int .i64 (p : Int)) ∨ (i = .int .i64 2 ∧ s = .int .i64 (n : Int)))) (fun s i _ => 2 - (intOf i).toNat)
  case atStart => exact ⟨rfl, .inl ⟨rfl, rfl⟩⟩
  case round =>
    obtain ⟨hwr, hr⟩ := hrel
    obtain rfl : w = wr := hwr.symm
    rcases hr with ⟨rfl, rfl⟩ | ⟨rfl, rfl⟩ | ⟨rfl, rfl⟩
    · go_wp2
      go_roundw
      case rel => first | exact ⟨rfl, .inr (.inl ⟨rfl, by simp⟩)⟩ | (simp; done)
      case measure => simp [intOf]
    · go_wp2
      go_roundw
      case rel => first | exact ⟨rfl, .inr (.inr ⟨rfl, by simp⟩)⟩ | (simp; done)
      case measure => simp [intOf]
    · clear h1 h2
      go_wp2_with (go_at_call 115; (with_reducible refine G.out.mono ?_); rintro e w1 ⟨cap, rfl, hcap, hcap2, hown, hB1⟩)
      have T1 := Lib.hid (T0.out.step hB1)
      have O1 := Lib.hid hown
      generalize hbase : w.heap.size = base at *
      have hbs : base ≤ w1.heap.size := by have := hB1.size; omega
      clear hown hB1 G
      go_loopw [6, 27] (fun v i wr => Hid (TwoP w t (some a1) (some a2) p q c1 c2 wr) ∧ Hid (base ≤ wr.heap.size) ∧ ((i = .int .i64 0 ∧ Hid (wr.ownsRow base 91 1 v 0 [])) ∨ (i = .int .i64 1 ∧ Hid (wr.ownsRow base 91 1 v p (clP xs))) ∨ (i = .int .i64 2 ∧ Hid (wr.ownsRow base 91 1 v n (clP xs ++ clP ys))))) (fun v i _ => 2 - (intOf i).toNat)
      case atStart => exact ⟨T1, Lib.hid hbs, .inl ⟨rfl, O1⟩⟩
      case round =>
        obtain ⟨hT, hb, hr⟩ := hrel
        clear T1 O1
        have x1 := hT.out.1
        have x2 := hT.out.2.1
        have hX := Lib.hid ((HX.out.later hT.out.2.2).cells)
        have hY := Lib.hid ((HY.out.later hT.out.2.2).cells)
        rcases hr with ⟨rfl, hO⟩ | ⟨rfl, hO⟩ | ⟨rfl, hO⟩
        · go_wp2_with (at_builtin; refine wpList_append_own _ rfl _ _ 120 rfl base 91 i0 _ 1 8 Tryz.underlying120 hi hz0 hz1 hz2 rfl (by decide) u6 0 [] rfl hO.out a1 p c1 (clP xs) rfl (by rw [cl_lenP, HP.out, Nat.mul_one]) hX.out (cl_oneP xs) (by unfold maxLen; omega) (by omega) hb.out ?_; intro v' w2 hown' hgrow hnil')
          have hT2 := hT.out.own (by rw [hbase]; exact TL.out) hgrow (by rw [hbase]; exact hO.out)
          go_roundw
          case rel => exact ⟨Lib.hid hT2, Lib.hid (by have := hT2.2.2.size; omega), .inr (.inl ⟨rfl, Lib.hid (by simpa using hown')⟩)⟩
          case measure => simp [intOf]
        · go_wp2_with (at_builtin; refine wpList_append_own _ rfl _ _ 120 rfl base 91 i0 _ 1 8 Tryz.underlying120 hi hz0 hz1 hz2 rfl (by decide) u6 p (clP xs) rfl hO.out a2 q c2 (clP ys) rfl (by rw [cl_lenP, HQ.out, Nat.mul_one]) hY.out (cl_oneP ys) (by unfold maxLen; omega) (by omega) hb.out ?_; intro v' w2 hown' hgrow hnil')
          have hT2 := hT.out.own (by rw [hbase]; exact TL.out) hgrow (by rw [hbase]; exact hO.out)
          go_roundw
          case rel => exact ⟨Lib.hid hT2, Lib.hid (by have := hT2.2.2.size; omega), .inr (.inr ⟨rfl, Lib.hid (by rw [HPQ.out] at hown'; exact hown')⟩)⟩
          case measure => simp [intOf]
        · go_wp2
          go_ret
          exact ⟨_, rfl, by rw [cl_appP]; exact hO.out, hT.out.2.2⟩
theorem run_append_zeroP (w : World) (ty : TypeId) (A : Option Addr) (c : Nat) : (Builtin.append_ #[120, 120] ty #[.slice none 0 0, .slice A 0 c]).run Tryz.prog w = .ok (.slice none 0 0) w := by
  obtain ⟨i0, hi, hz0, hz1, hz2⟩ := info_parts infoTP
  cases A <;> simp [Builtin.append_, run_underlying (P := Tryz.prog) Tryz.underlying120, sizeOf, typeInfo, hi, Builtin.lenOf, Builtin.firstCells, loadCells, loadCellsFrom]
theorem wpList_app0P (w : World) {ops : Array Oper} {rest : List Oper} {o : Oper} {a : Act} {Q : Exit → Act → World → Prop} (hg : o.guard = none) (s x : Operand)
    (hop : o.op = Op.call { callee := Callee.builtin Builtin.append, args := #[s, x], argTypes := #[120, 120] }) (A : Option Addr) (c : Nat) (hs : a.eval s = .slice none 0 0) (hx : a.eval x = .slice A 0 c)
    (hK : wpList Tryz.prog ops Q rest (a.put o.dst (.slice none 0 0)) w) : wpList Tryz.prog ops Q (o :: rest) a w := by
  refine wpList_plain hg fun K hK' => ?_
  have hrun := run_append_zeroP w o.type A c
  unfold Oper.wp
  simp [execOp, hop, resolve, invoke, builtin, hs, hx, hrun, Result.andThen]
  exact hK' _ _ hK
set_option maxRecDepth 100000 in
set_option maxHeartbeats 4000000 in
/-- Of none. -/
theorem concat_noneP (w : World) {t c1 c2 : Nat} {A1 A2 : Option Addr} (h1 : w.cell? ⟨t, 0, none⟩ = some (.slice A1 0 c1)) (h2 : w.cell? ⟨t, 1, none⟩ = some (.slice A2 0 c2)) :
    Calls Tryz.prog 116 #[.slice (some ⟨t, 0, none⟩) 2 2] w (RowPP w w.heap.size 0 []) := by
  have G := Lib.hid (grow_zeroP w)
  have RZ := fun ty A c => run_append_zeroP w ty A c
  go_enter Tryz.func116, Tryz.ntmps116
  go_wp2
  go_loopw [3, 11] (fun s i wr => wr = w ∧ ((i = .int .i64 0 ∧ s = .int .i64 0) ∨ (i = .int .i64 1 ∧ s = .int .i64 0) ∨ (i = .int .i64 2 ∧ s = .int .i64 0))) (fun s i _ => 2 - (intOf i).toNat)
  case atStart => exact ⟨rfl, .inl ⟨rfl, rfl⟩⟩
  case round =>
    obtain ⟨hwr, hr⟩ := hrel
    obtain rfl : w = wr := hwr.symm
    rcases hr with ⟨rfl, rfl⟩ | ⟨rfl, rfl⟩ | ⟨rfl, rfl⟩
    · go_wp2
      go_roundw
      case rel => first | exact ⟨rfl, .inr (.inl ⟨rfl, by simp⟩)⟩ | (simp; done)
      case measure => simp [intOf]
    · go_wp2
      go_roundw
      case rel => first | exact ⟨rfl, .inr (.inr ⟨rfl, by simp⟩)⟩ | (simp; done)
      case measure => simp [intOf]
    · go_wp2_with (go_at_call 115; (with_reducible refine G.out.mono ?_); rintro e w1 ⟨rfl, rfl⟩)
      go_loopw [6, 27] (fun v i wr => wr = w1 ∧ v = .slice none 0 0 ∧ ((i = .int .i64 0) ∨ (i = .int .i64 1) ∨ (i = .int .i64 2))) (fun v i _ => 2 - (intOf i).toNat)
      case atStart => exact ⟨rfl, rfl, .inl rfl⟩
      case round =>
        obtain ⟨hwr, rfl, hr⟩ := hrel
        obtain rfl : w1 = wr := hwr.symm
        rcases hr with rfl | rfl | rfl
        · go_wp2_with (at_builtin; refine wpList_app0P _ rfl _ _ rfl A1 c1 rfl rfl ?_)
          go_roundw
          case rel => first | exact ⟨rfl, rfl, .inr (.inl rfl)⟩ | (simp; done)
          case measure => simp [intOf]
        · go_wp2_with (at_builtin; refine wpList_app0P _ rfl _ _ rfl A2 c2 rfl rfl ?_)
          go_roundw
          case rel => first | exact ⟨rfl, rfl, .inr (.inr rfl)⟩ | (simp; done)
          case measure => simp [intOf]
        · go_wp2
          go_ret
          exact ⟨_, rfl, World.ownsRow_nil _ _ _ _, Below.refl _ _⟩
end Go.Proofs.YtnhddnldebdmbaaGreatDoor
/- All things of a queue, in a row of their own. -/
namespace Go.Proofs.YtnhddnldebdmbaaGreatDoor
open Go.RowKit
set_option linter.unusedVariables false
set_option linter.unusedSimpArgs false
attribute [local go_sem ↓] Go.wp_at_zero Go.wp_at_succ

def CcP (w : World) (b o : Nat) (v : Value) (f : Nat) (W : World) : Prop := W.cell? ⟨b, o, none⟩ = some v ∧ W.cell? ⟨b, o + 1, none⟩ = some (.int .i64 (f : Int)) ∧ Below w.heap.size w W
theorem CcP.step {w W W' : World} {b o f : Nat} {v : Value} (h : CcP w b o v f W) (hb : Below W.heap.size W W') : CcP w b o v f W' :=
  ⟨(hb.cell (p := ⟨b, o, none⟩) (World.block_lt_of_cell? W _ h.1)).trans h.1, (hb.cell (p := ⟨b, o + 1, none⟩) (World.block_lt_of_cell? W ⟨b, o + 1, none⟩ h.2.1)).trans h.2.1, h.2.2.trans (hb.mono h.2.2.size)⟩
/-- Where the things stand: at the ring's end, and at its beginning. -/
theorem ring_rowsP {w : World} {g N f : Nat} {cur : Array Value} {l : List Nat} (hg : w.heap[g]? = some (.cells cur 91 (0, 0))) (hl : l.length ≤ N) (hf : f < N) (h : ∀ i x, l[i]? = some x → cur[(f + i) % N]? = some (.pointer (some ⟨x, 0, none⟩))) :
    RowAP w ⟨g, f, none⟩ (l.take (N - f)) ∧ RowAP w ⟨g, 0, none⟩ (l.drop (N - f)) := by
  refine ⟨fun i x hx => ?_, fun i x hx => ?_⟩
  · have hi : i < N - f := by
      have := (List.getElem?_eq_some_iff.1 hx).1
      simp at this; omega
    rw [List.getElem?_take, if_pos hi] at hx
    have := h i x hx
    rw [Nat.mod_eq_of_lt (by omega)] at this
    rw [add_none, cell_of_row w g (f + i) _ _ _ hg, this]
  · rw [List.getElem?_drop] at hx
    have hi := (List.getElem?_eq_some_iff.1 hx).1
    have := h _ x hx
    rw [show f + (N - f + i) = N + i by omega, Nat.add_mod_left, Nat.mod_eq_of_lt (by omega)] at this
    rw [add_none, cell_of_row w g (0 + i) _ _ _ hg, Nat.zero_add, this]
/-- The world in which both parts stand in a row. -/
def WcP (w : World) (x y : Value) : World := (w.alloc (.cells #[x, y] 120)).drew.drew.drew
theorem Wc_belowP (w : World) (x y : Value) : Below w.heap.size w (WcP w x y) ∧ (WcP w x y).heap.size = w.heap.size + 1 ∧ (WcP w x y).cell? ⟨w.heap.size, 0, none⟩ = some x ∧ (WcP w x y).cell? ⟨w.heap.size, 1, none⟩ = some y := by
  have hb : Below w.heap.size w (w.alloc (.cells #[x, y] 120)) := (Below.refl _ w).alloc (Nat.le_refl _) _
  have hs : (w.alloc (.cells #[x, y] 120)).heap.size = w.heap.size + 1 := by simp
  refine ⟨⟨hb.os, hb.tape, hb.output, hb.size, hb.block⟩, hs, ?_, ?_⟩
  · exact cell_of_row (w.alloc (.cells #[x, y] 120)) w.heap.size 0 _ _ _ (heap_alloc_new w _)
  · exact cell_of_row (w.alloc (.cells #[x, y] 120)) w.heap.size 1 _ _ _ (heap_alloc_new w _)
set_option maxRecDepth 100000 in
set_option maxHeartbeats 8000000 in
theorem things_anyP {B b o N f : Nat} {v : Value} {l : List Nat} (w : World) (h : FQP B w b o v N f l) : Calls Tryz.prog 91 #[.pointer (some ⟨b, o, none⟩)] w (RowPP w w.heap.size l.length l) := by
  have c0 := h.c0
  have c1 := h.c1
  have c2 := h.c2
  have hb := h.lt
  have hlim := h.lim
  rcases Nat.eq_zero_or_pos N with h0 | hN
  · obtain ⟨rfl, rfl, rfl⟩ : v = .slice none 0 0 ∧ f = 0 ∧ l = [] := by
      rcases h.ring with ⟨h1, h2, h3, h4⟩ | ⟨g, cur, h1, h2, h3, h4, h5, h6⟩
      · exact ⟨h1, h3, h4⟩
      · omega
    obtain ⟨wb, ws, t0, t1⟩ := Wc_belowP w (.slice none 0 0) (.slice none 0 0)
    have CC := Lib.hid ((concat_noneP (WcP w (.slice none 0 0) (.slice none 0 0)) (t := w.heap.size) t0 t1).mono (R' := RowPP w w.heap.size 0 []) (by
      rintro e w' ⟨v, rfl, ho, hb⟩
      exact ⟨v, rfl, own_base ho (by omega), wb.trans (hb.mono (by omega))⟩))
    unfold WcP at CC
    clear wb ws t0 t1
    have C0 := Lib.hid (show CcP w b o (.slice none 0 0) 0 w from ⟨c0, c1, Below.refl _ _⟩)
    clear h
    go_enter Tryz.func91, Tryz.ntmps91
    go_upto_region 3 with (fail)
    go_region
    go_upto_region 4 with (fail)
    go_region
    go_upto_region 5 with (fail)
    have C1 := Lib.hid (((C0.out.step (below_drew _)).step (below_drew _)).step (below_drew _))
    go_region_held3 (fun W => W.cell? ⟨b, o, none⟩ = some (.slice none 0 0) ∧ W.cell? ⟨b, o + 1, none⟩ = some (.int .i64 0) ∧ Below w.heap.size w W)
      (first | assumption | exact C1.out | exact C9.out | exact (CcP.step (by assumption : CcP w b o (.slice none 0 0) 0 _) ((Below.refl _ _).alloc (Nat.le_refl _) _)))
      ((go_at_call 116; (with_reducible refine CC.out.mono ?_); rintro e w' ⟨v', rfl, ho, hB⟩; have HO := Lib.hid ho; have HB := Lib.hid hB; have C9 := Lib.hid (C0.out.step hB)))
    go_wp2
    go_ret
    exact ⟨v', rfl, HO.out, HB.out⟩
  · obtain ⟨g, cur, rfl, hBg, hg, hc, hf, hi, hne⟩ := h.open hN
    have hle := h.len_le
    obtain ⟨R1, R2⟩ := ring_rowsP hg hle hf hi
    obtain ⟨p, hp⟩ : ∃ p, (l.take (N - f)).length = p := ⟨_, rfl⟩
    obtain ⟨q, hq⟩ : ∃ q, (l.drop (N - f)).length = q := ⟨_, rfl⟩
    obtain ⟨n, hn⟩ : ∃ n, l.length = n := ⟨_, rfl⟩
    have hp' := hp
    have hq' := hq
    rw [List.length_take] at hp'
    rw [List.length_drop] at hq'
    rw [hn] at c2 hle hp' hq' ⊢
    obtain ⟨e, he⟩ : ∃ e, f + p = e := ⟨_, rfl⟩
    have hmin : min ((f : Int) + (n : Int)) (N : Int) = (e : Int) := by omega
    have hwd : (n : Int) - ((e : Int) - (f : Int)) = (q : Int) := by omega
    have hpe : e - f = p := by omega
    have hNf : ¬ N = f := by omega
    have hfe : f ≤ e := by omega
    have heN : e ≤ N := by omega
    have hqN : q ≤ N := by omega
    have hpq : p + q = n := by omega
    obtain ⟨wb, ws, t0, t1⟩ := Wc_belowP w (.slice (some ⟨g, f, none⟩) p (N - f)) (.slice (some ⟨g, 0, none⟩) q N)
    have CC := Lib.hid (show Calls Tryz.prog 116 #[.slice (some ⟨w.heap.size, 0, none⟩) 2 2] (WcP w (.slice (some ⟨g, f, none⟩) p (N - f)) (.slice (some ⟨g, 0, none⟩) q N)) (RowPP w w.heap.size n l) from by
      have fin : ∀ e w', RowPP (WcP w (.slice (some ⟨g, f, none⟩) p (N - f)) (.slice (some ⟨g, 0, none⟩) q N)) (WcP w (.slice (some ⟨g, f, none⟩) p (N - f)) (.slice (some ⟨g, 0, none⟩) q N)).heap.size n l e w' → RowPP w w.heap.size n l e w' := by
        rintro e w' ⟨v, rfl, ho, hb⟩
        exact ⟨v, rfl, own_base ho (by omega), wb.trans (hb.mono (by omega))⟩
      by_cases hz : n = 0
      · subst hz
        obtain rfl : p = 0 := by omega
        obtain rfl : q = 0 := by omega
        obtain rfl : l = [] := List.eq_nil_of_length_eq_zero hn
        exact (concat_noneP _ t0 t1).mono fin
      · have := concat_someP _ t0 t1 (R1.later wb) (R2.later wb) hp hq (by omega) (by omega)
        rw [List.take_append_drop, hpq] at this
        exact this.mono fin)
    unfold WcP at CC
    clear wb ws t0 t1
    have C0 := Lib.hid (show CcP w b o (.slice (some ⟨g, 0, none⟩) N N) f w from ⟨c0, c1, Below.refl _ _⟩)
    clear h R1 R2 hp hq hn hi hp' hq'
    go_enter Tryz.func91, Tryz.ntmps91
    go_upto_region 3 with (fail)
    go_region
    go_upto_region 4 with (fail)
    go_region
    go_upto_region 5 with (fail)
    have C1 := Lib.hid (((C0.out.step (below_drew _)).step (below_drew _)).step (below_drew _))
    go_region_held3 (fun W => W.cell? ⟨b, o, none⟩ = some (.slice (some ⟨g, 0, none⟩) N N) ∧ W.cell? ⟨b, o + 1, none⟩ = some (.int .i64 (f : Int)) ∧ Below w.heap.size w W)
      (first | assumption | exact C1.out | exact C9.out | exact (CcP.step (by assumption : CcP w b o (.slice (some ⟨g, 0, none⟩) N N) f _) ((Below.refl _ _).alloc (Nat.le_refl _) _)))
      ((go_at_call 116; (with_reducible refine CC.out.mono ?_); rintro e w' ⟨v', rfl, ho, hB⟩; have HO := Lib.hid ho; have HB := Lib.hid hB; have C9 := Lib.hid (C0.out.step hB)))
    go_wp2
    go_ret
    exact ⟨v', rfl, HO.out, HB.out⟩
end Go.Proofs.YtnhddnldebdmbaaGreatDoor
/- A queue's ring is laid anew; New. -/
namespace Go.Proofs.YtnhddnldebdmbaaGreatDoor
open Go.RowKit
set_option linter.unusedVariables false
set_option linter.unusedSimpArgs false
attribute [local go_sem ↓] Go.wp_at_zero Go.wp_at_succ

/-- A row that came in, nil or not. -/
structure RowOP (w : World) (A : Option Addr) (m c : Nat) (xs : List Nat) : Prop where
  len : xs.length = m
  nil : A = none → m = 0 ∧ c = 0
  row : ∀ a, A = some a → RowAP w a xs
theorem RowOP.later {w w' : World} {A : Option Addr} {m c : Nat} {xs : List Nat} (h : RowOP w A m c xs) (hb : Below w.heap.size w w') : RowOP w' A m c xs := ⟨h.len, h.nil, fun a e => (h.row a e).later hb⟩
theorem RowOP.own {w : World} {B m : Nat} {v : Value} {xs : List Nat} (h : w.ownsRow B 91 1 v m (clP xs)) : ∃ A c, v = .slice A m c ∧ RowOP w A m c xs := by
  have hl := h.1
  rw [cl_lenP, Nat.mul_one] at hl
  rcases h.2 with ⟨rfl, rfl⟩ | ⟨g, cap, cur, rfl, _, hg, _, _, _, ht⟩
  · exact ⟨none, 0, rfl, ⟨hl, fun _ => ⟨rfl, rfl⟩, fun a e => by cases e⟩⟩
  · refine ⟨_, cap, rfl, ⟨hl, fun e => (by cases e), fun a e => ?_⟩⟩
    cases e
    intro i x hx
    have := h.cells (g := g) rfl i _ (cl_getP hx)
    exact this
/-- Block b is to be a queue. -/
structure IsQP (w : World) (b o : Nat) (v0 : Value) (f0 z0 : Int) : Prop where
  row : ∃ cur, w.heap[b]? = some (.cells cur 122 (0, 0))
  c0 : w.cell? ⟨b, o, none⟩ = some v0
  c1 : w.cell? ⟨b, o + 1, none⟩ = some (.int .i64 f0)
  c2 : w.cell? ⟨b, o + 2, none⟩ = some (.int .i64 z0)
theorem IsQP.lt {w : World} {b o : Nat} {v0 : Value} {f0 z0 : Int} (h : IsQP w b o v0 f0 z0) : b < w.heap.size := World.block_lt_of_cell? w _ h.c0
theorem IsQP.fz {w : World} {b o : Nat} {v0 : Value} {f0 z0 : Int} (h : IsQP w b o v0 f0 z0) (i : Nat) : w.frozen? ⟨b, i, none⟩ = false := by
  obtain ⟨cur, hc⟩ := h.row
  simp [World.frozen?, hc]
theorem IsQP.kept {X : List Nat} {w w' : World} {b o : Nat} {v0 : Value} {f0 z0 : Int} (h : IsQP w b o v0 f0 z0) (hk : Kept X w w') (hx : b ∉ X) : IsQP w' b o v0 f0 z0 :=
  ⟨(by obtain ⟨cur, hc⟩ := h.row; exact ⟨cur, (hk.block b h.lt hx).trans hc⟩), (hk.cell h.lt hx).trans h.c0, (hk.cell h.lt hx).trans h.c1, (hk.cell h.lt hx).trans h.c2⟩
theorem IsQP.of {B w b o v N f l} (h : FQP B w b o v N f l) : IsQP w b o v f l.length := ⟨h.row, h.c0, h.c1, h.c2⟩
def LayPP (B b o N : Nat) (xs : List Nat) (w : World) (e : Ending) (w' : World) : Prop := e = .returned (.tuple #[]) ∧ ∃ v, FQP B w' b o v N 0 xs ∧ Kept [b] w w' ∧ FrQ b o w w' ∧ ∀ k ∈ blk b v, k = b ∨ w.heap.size ≤ k
theorem row_setP {w : World} {b i : Nat} {T : TypeId} {v : Value} (h : ∃ cur, w.heap[b]? = some (.cells cur T (0, 0))) : ∃ cur, (w.setCell ⟨b, i, none⟩ v).heap[b]? = some (.cells cur T (0, 0)) := by
  obtain ⟨cur, hc⟩ := h
  exact ⟨_, heap_setCell_same _ b i _ _ _ hc⟩
theorem row_setP2 {w : World} {b g i : Nat} {T : TypeId} {v : Value} (h : ∃ cur, w.heap[b]? = some (.cells cur T (0, 0))) (hg : g ≠ b) : ∃ cur, (w.setCell ⟨g, i, none⟩ v).heap[b]? = some (.cells cur T (0, 0)) := by
  obtain ⟨cur, hc⟩ := h
  exact ⟨cur, (Below.heap_setCell _ _ _ _ (by simpa using Ne.symm hg)).trans hc⟩
theorem set_o {w : World} {b i j : Nat} {u v : Value} (hc : w.cell? ⟨b, j, none⟩ = some u) (h : i ≠ j) : (w.setCell ⟨b, i, none⟩ v).cell? ⟨b, j, none⟩ = some u := (cell_set_far (by intro e; injection e with e1 e2; omega)).trans hc
theorem set_g {w : World} {b g i j : Nat} {u v : Value} (hc : w.cell? ⟨b, j, none⟩ = some u) (h : g ≠ b) : (w.setCell ⟨g, i, none⟩ v).cell? ⟨b, j, none⟩ = some u := (cell_set_far (by intro e; injection e with e1 e2; exact h e1)).trans hc
theorem three_setP {w : World} {b o : Nat} {v0 u0 : Value} {f0 z0 u1 u2 : Int} (h : IsQP w b o v0 f0 z0) :
    IsQP (((w.setCell ⟨b, o, none⟩ u0).setCell ⟨b, o + 1, none⟩ (.int .i64 u1)).setCell ⟨b, o + 2, none⟩ (.int .i64 u2)) b o u0 u1 u2 :=
  ⟨row_setP (row_setP (row_setP h.row)), set_o (set_o (cell_set_at h.c0) (by omega)) (by omega), set_o (cell_set_at (set_o h.c1 (by omega))) (by omega), cell_set_at (set_o (set_o h.c2 (by omega)) (by omega))⟩
theorem lay_midP {B b o N m cap : Nat} {xs : List Nat} {w w1 w2 : World} {v0 : Value} {f0 z0 : Int} (hi0 : IsQP w b o v0 f0 z0) (hB1 : Below w.heap.size w w1) (hgrow : w1.grownBy w2 (some w.heap.size))
    (hown : w2.ownsRow w.heap.size 91 1 (.slice (some ⟨w.heap.size, 0, none⟩) (0 + m) cap) (0 + m) ([] ++ clP xs)) (hcap : N ≤ cap) (hm : m ≤ N) (hN : 0 < N) (hN2 : N ≤ 1000000) (hB : B ≤ b) (hx : xs.length = m) (hBw : B ≤ w.heap.size) :
    (w2.cell? ⟨b, o, none⟩ = some v0 ∧ w2.cell? ⟨b, o + 1, none⟩ = some (.int .i64 f0) ∧ w2.cell? ⟨b, o + 2, none⟩ = some (.int .i64 z0) ∧ ∀ i, w2.frozen? ⟨b, i, none⟩ = false) ∧
    LayPP B b o N xs w (.returned (.tuple #[])) (((w2.setCell ⟨b, o, none⟩ (.slice (some ⟨w.heap.size, 0, none⟩) N N)).setCell ⟨b, o + 1, none⟩ (.int .i64 0)).setCell ⟨b, o + 2, none⟩ (.int .i64 (m : Int))) := by
  have hbl : b < w.heap.size := hi0.lt
  have k2 : Kept [] w w2 := ((Kept.of [w.heap.size] hB1).trans (kept_grown hgrow (by simp))).less (fun k hk => .inr (by simp at hk; omega))
  have hb2 := hi0.kept k2 (by simp)
  have h3 := three_setP (u0 := .slice (some ⟨w.heap.size, 0, none⟩) N N) (u1 := 0) (u2 := (m : Int)) hb2
  refine ⟨⟨hb2.c0, hb2.c1, hb2.c2, hb2.fz⟩, rfl, .slice (some ⟨w.heap.size, 0, none⟩) N N, ⟨hB, h3.row, h3.c0, h3.c1, ?_, ?_, hN2⟩, ?_, ?_, ?_⟩
  · rw [hx]; exact h3.c2
  · subst hx
    rcases hown.2 with ⟨h, _⟩ | ⟨g, cp, cur, h, hbg, hg, hnc, hcm, hcs, ht⟩
    · simp at h
    · simp only [Value.slice.injEq, Option.some.injEq, Addr.mk.injEq, and_true, true_and] at h
      obtain ⟨rfl, rfl⟩ := h
      have hne : w.heap.size ≠ b := by omega
      refine .inr ⟨w.heap.size, cur, rfl, by omega, ?_, by omega, hN, hm, ?_⟩
      · rw [Below.heap_setCell _ _ _ _ (by simpa using hne), Below.heap_setCell _ _ _ _ (by simpa using hne), Below.heap_setCell _ _ _ _ (by simpa using hne)]
        exact hg
      · intro i x hi
        have hil := (List.getElem?_eq_some_iff.1 hi).1
        have h1 := cl_getP hi
        rw [Nat.zero_add, Nat.mod_eq_of_lt (by omega)]
        rw [Nat.zero_add, List.nil_append] at ht
        rw [← ht, List.getElem?_take, if_pos (by omega), Array.getElem?_toList] at h1
        exact h1
  · exact (((k2.mono (by simp)).set b _ _ (by simp)).set b _ _ (by simp)).set b _ _ (by simp)
  · exact (((FrQ.kept k2 hbl (by simp)).setb _ _ (by omega)).setb _ _ (by omega)).setb _ _ (by omega)
  · intro k hk
    simp [blk, Value.ownBlock] at hk
    omega
set_option maxRecDepth 100000 in
set_option maxHeartbeats 8000000 in
theorem lay_anyP {B b o N m c : Nat} {v0 : Value} {f0 z0 : Int} {A : Option Addr} {xs : List Nat} (w : World) (hi0 : IsQP w b o v0 f0 z0) (hB : B ≤ b) (hr : RowOP w A m c xs) (hm : m ≤ N) (hN : N ≤ 1000000) :
    Calls Tryz.prog 90 #[.pointer (some ⟨b, o, none⟩), .slice A m c, .int .i64 (N : Int)] w (LayPP B b o N xs w) := by
  have hbl : b < w.heap.size := hi0.lt
  rcases Nat.eq_zero_or_pos N with rfl | hN0
  · obtain rfl : m = 0 := by omega
    obtain rfl : xs = [] := List.eq_nil_of_length_eq_zero hr.len
    have c0 := hi0.c0
    have c1 := hi0.c1
    have c2 := hi0.c2
    have fz := hi0.fz
    have f0' := fz o
    have f1' := fz (o + 1)
    have f2' := fz (o + 2)
    have e := three_setP (u0 := .slice none 0 0) (u1 := 0) (u2 := 0) hi0
    have k := (((Kept.refl [b] w).set b o (.slice none 0 0) (by simp)).set b (o + 1) (.int .i64 0) (by simp)).set b (o + 2) (.int .i64 0) (by simp)
    have fr := (((FrQ.of (Below.refl _ w) hbl (o := o)).setb o (.slice none 0 0) (by omega)).setb (o + 1) (.int .i64 0) (by omega)).setb (o + 2) (.int .i64 0) (by omega)
    have FR := Lib.hid fr
    have G := Lib.hid (grow_zeroP w)
    have E := Lib.hid e
    have K := Lib.hid k
    clear hr fz e k hi0 fr
    go_enter Tryz.func90, Tryz.ntmps90
    go_wp2_with (first
      | (go_at_call 115; (with_reducible refine G.out.mono ?_); rintro e w1 ⟨rfl, rfl⟩)
      | (at_builtin; refine wpList_app0P _ rfl _ _ rfl A c rfl rfl ?_))
    refine bodyPost_ret (results_none rfl _ _ _) rfl ?_
    refine ⟨rfl, .slice none 0 0, ⟨hB, E.out.row, E.out.c0, E.out.c1, E.out.c2, .inl ⟨rfl, rfl, rfl, rfl⟩, by omega⟩, K.out, FR.out, ?_⟩
    intro k hk
    simp [blk, Value.ownBlock] at hk
    exact .inl hk
  · obtain ⟨i0, hi, hz0, hz1, hz2⟩ := info_parts infoTP
    have G := Lib.hid (grow_someP w N hN0 (by omega))
    have hBw := Lib.hid (show B ≤ w.heap.size by omega)
    have HR := Lib.hid hr
    have HI := Lib.hid hi0
    have hmN : m ≤ N := hm
    have hN1 : (N : Int) ≤ 1000000 := by omega
    clear hr hi0
    go_enter Tryz.func90, Tryz.ntmps90
    go_wp2_with (first
      | (go_at_call 115; (with_reducible refine G.out.mono ?_); rintro e w1 ⟨cap, rfl, hcap, hcap2, hown, hB1⟩; have R1 := Lib.hid (HR.out.later hB1))
      | (at_builtin; refine wpList_append_fits_any _ rfl _ _ 120 rfl w.heap.size 91 i0 1 Tryz.underlying120 hi hz1 w.heap.size 0 cap [] rfl hown A m c (clP xs) rfl (by rw [cl_lenP, R1.out.len, Nat.mul_one]) R1.out.nil (fun ad e => (R1.out.row ad e).cells) (cl_oneP xs) (by omega) ?_; intro w2 hown' hgrow;
          obtain ⟨⟨c0, c1, c2, fz⟩, hP⟩ := lay_midP HI.out hB1 hgrow hown' hcap hmN hN0 hN hB R1.out.len hBw.out;
          have f0' := fz o; have f1' := fz (o + 1); have f2' := fz (o + 2); have HP := Lib.hid hP; clear hP fz hown' hgrow))
    refine bodyPost_ret (results_none rfl _ _ _) rfl ?_
    exact HP.out
end Go.Proofs.YtnhddnldebdmbaaGreatDoor
/- New; Push; At; Pop. -/
namespace Go.Proofs.YtnhddnldebdmbaaGreatDoor
open Go.RowKit
set_option linter.unusedVariables false
set_option linter.unusedSimpArgs false
attribute [local go_sem ↓] Go.wp_at_zero Go.wp_at_succ

/-- Where what is pushed stands. -/
theorem FQP.push {B b o N f : Nat} {v : Value} {l : List Nat} {w : World} (h : FQP B w b o v N f l) (hl : l.length < N) {g : Nat} (hv : v.ownBlock = some g) (x : Nat) :
    FQP B ((w.setCell ⟨g, (f + l.length) % N, none⟩ (.pointer (some ⟨x, 0, none⟩))).setCell ⟨b, o + 2, none⟩ (.int .i64 ((l ++ [x]).length : Int))) b o v N f (l ++ [x]) := by
  obtain ⟨g', cur, rfl, h1, h2, h3, h4, h5, h6⟩ := h.open (by omega)
  simp [Value.ownBlock] at hv
  subst hv
  have hm : (f + l.length) % N < N := Nat.mod_lt _ (by omega)
  have hgb : g' ≠ b := Ne.symm h6
  refine ⟨h.hB, row_setP (row_setP2 h.row hgb), set_o (set_g h.c0 hgb) (by omega), set_o (set_g h.c1 hgb) (by omega), cell_set_at (set_g h.c2 hgb), ?_, h.lim⟩
  · refine .inr ⟨g', cur.setIfInBounds ((f + l.length) % N) (.pointer (some ⟨x, 0, none⟩)), rfl, h1, ?_, by simpa using h3, h4, by simp; omega, ?_⟩
    · rw [Below.heap_setCell _ _ _ _ (by simpa using Ne.symm h6)]
      exact heap_setCell_same _ g' _ _ _ _ h2
    · intro i y hy
      by_cases hi : i < l.length
      · rw [List.getElem?_append_left hi] at hy
        have hne : (f + l.length) % N ≠ (f + i) % N := by
          intro e
          rcases Nat.lt_or_ge (f + i) N with ha | ha <;> rcases Nat.lt_or_ge (f + l.length) N with hb | hb
          · rw [Nat.mod_eq_of_lt ha, Nat.mod_eq_of_lt hb] at e; omega
          · rw [Nat.mod_eq_of_lt ha, Nat.mod_eq_sub_mod hb, Nat.mod_eq_of_lt (by omega)] at e; omega
          · omega
          · rw [Nat.mod_eq_sub_mod ha, Nat.mod_eq_sub_mod hb, Nat.mod_eq_of_lt (by omega), Nat.mod_eq_of_lt (by omega)] at e; omega
        rw [Array.getElem?_setIfInBounds_ne hne]
        exact h5 i y hy
      · have hi2 : i = l.length := by
          have := (List.getElem?_eq_some_iff.1 hy).1
          simp at this; omega
        subst hi2
        simp at hy
        subst hy
        exact Array.getElem?_setIfInBounds_self_of_lt (by omega)
def PushPP (B b o N : Nat) (v : Value) (l : List Nat) (w : World) (e : Ending) (w' : World) : Prop := e = .returned (.tuple #[]) ∧ ∃ v' f', FQP B w' b o v' N f' l ∧ Kept (blk b v) w w' ∧ FrQ b o w w' ∧ ∀ k ∈ blk b v', k ∈ blk b v ∨ w.heap.size ≤ k
set_option maxRecDepth 100000 in
set_option maxHeartbeats 8000000 in
theorem push_roomP {B b o N f : Nat} {v : Value} {l : List Nat} (x : Nat) (w : World) (h : FQP B w b o v N f l) (hl : l.length < N) :
    Calls Tryz.prog 66 #[.pointer (some ⟨b, o, none⟩), .pointer (some ⟨x, 0, none⟩)] w (PushPP B b o N v (l ++ [x]) w) := by
  obtain ⟨g, cur, rfl, h1, h2, h3, h4, h5, h6⟩ := h.open (by omega)
  have hP := fun k => (h.later (below_drewN2 w k)).push hl (g := g) rfl x
  have PL := Lib.hid (fun W (hB : Below w.heap.size w W) => place_anyP W (h.later hB) l.length (by omega) (by have := h.lim; omega))
  have c0 := h.c0
  have c1 := h.c1
  have c2 := h.c2
  have fb2 := h.fz (o + 2)
  have hlim := h.lim
  have hmod : (f + l.length) % N < N := Nat.mod_lt _ (by omega)
  have hK : Kept (blk b (.slice (some ⟨g, 0, none⟩) N N)) w w := Kept.refl _ _
  have hll : ((l ++ [x]).length : Int) = (l.length : Int) + 1 := by simp
  rw [hll] at hP
  obtain ⟨r, hr⟩ : ∃ r, (f + l.length) % N = r := ⟨_, rfl⟩
  obtain ⟨n, hn⟩ : ∃ n, l.length = n := ⟨_, rfl⟩
  rw [hr] at hP PL hmod
  rw [hn] at hP PL c2 hl
  obtain ⟨u, hu⟩ : ∃ u, w.cell? ⟨g, r, none⟩ = some u := ⟨cur[r]'(by omega), by rw [cell_of_row w g r _ _ _ h2]; exact Array.getElem?_eq_getElem _⟩
  have fg : w.frozen? ⟨g, r, none⟩ = false := by simp [World.frozen?, h2]
  have HP := Lib.hid hP
  have hr1 : (r : Int) < (N : Int) := by omega
  have hbg : g ≠ b := Ne.symm h6
  have hbl := h.lt
  clear h hP h5 h2 hll hr hn hK
  go_enter Tryz.func66, Tryz.ntmps66
  go_upto_region 1 with (fail)
  go_region
  go_upto_region 3 with (fail)
  go_region_with (go_at_call 92; (with_reducible refine (PL.out _ (below_drew2 w)).mono ?_); rintro e w' ⟨rfl, mm, rfl⟩)
  all_goals
    go_wp2
    refine bodyPost_ret (results_none rfl _ _ _) rfl ?_
    refine ⟨rfl, _, f, HP.out _, ((Kept.of _ (below_drewN2 w _)).set g _ _ (by simp [blk, Value.ownBlock])).set b _ _ (by simp [blk]), ((FrQ.of (below_drewN2 w _) hbl).setg g _ _ hbg).setb _ _ (by omega), fun k hk => .inl hk⟩
theorem push_postP {B b o N2 g r n : Nat} {v v' : Value} {l : List Nat} {x : Nat} {w w1 w3 : World} (hb : b < w.heap.size) (hB : Below w.heap.size w w1) (hQ : FQP B w3 b o v' N2 0 l) (hK : Kept [b] w1 w3) (hF : FrQ b o w1 w3) (hgb : g ≠ b) (hX : ∀ k ∈ blk b v', k = b ∨ w1.heap.size ≤ k) (hl : l.length < N2) (hv : v'.ownBlock = some g) (hr : (0 + l.length) % N2 = r) (hn : l.length = n) (k : Nat) :
    PushPP B b o N2 v (l ++ [x]) w (.returned (.tuple #[])) (((w3.drewN k).setCell ⟨g, r, none⟩ (.pointer (some ⟨x, 0, none⟩))).setCell ⟨b, o + 2, none⟩ (.int .i64 ((n : Int) + 1))) := by
  have hP := (hQ.later (below_drewN2 w3 k)).push hl hv x
  have hll : ((l ++ [x]).length : Int) = (n : Int) + 1 := by rw [← hn]; simp
  rw [hll, hr] at hP
  have hs := hB.size
  refine ⟨rfl, v', 0, hP, ?_, ((((FrQ.of hB hb).trans hF).trans (FrQ.of (below_drewN2 w3 k) (Nat.lt_of_lt_of_le hb (Nat.le_trans hs hK.size)))).setg g _ _ hgb).setb _ _ (by omega), ?_⟩
  · have k1 : Kept [b, g] w ((w3.drewN k).setCell ⟨g, r, none⟩ (.pointer (some ⟨x, 0, none⟩))) := ((((Kept.of [b, g] hB).trans (hK.mono (by simp))).later (below_drewN2 w3 k))).set g _ _ (by simp)
    refine (k1.set b _ _ (by simp)).less ?_
    intro j hj
    simp at hj
    rcases hj with rfl | rfl
    · exact .inl (by simp [blk])
    · have := hX j (by simp [blk, hv])
      rcases this with rfl | h
      · exact .inl (by simp [blk])
      · exact .inr (by omega)
  · intro j hj
    rcases hX j hj with rfl | h
    · exact .inl (by simp [blk])
    · exact .inr (by omega)
set_option maxRecDepth 100000 in
set_option maxHeartbeats 8000000 in
theorem push_fullP {B b o N f : Nat} {v : Value} {l : List Nat} (x : Nat) (w : World) (h : FQP B w b o v N f l) (hl : l.length = N) (hN : N ≤ 10000) :
    Calls Tryz.prog 66 #[.pointer (some ⟨b, o, none⟩), .pointer (some ⟨x, 0, none⟩)] w (PushPP B b o (2 * N + 4) v (l ++ [x]) w) := by
  have hb := h.lt
  have hBb := h.hB
  obtain ⟨A0, rfl⟩ := h.ringv
  obtain ⟨N2, hN2⟩ : ∃ N2, 2 * N + 4 = N2 := ⟨_, rfl⟩
  have hw1 : IntKind.i64.wrap (IntKind.i64.wrap (2 * (N : Int)) + 4) = (N2 : Int) := by rw [IntKind.wrap_i64, IntKind.wrap_i64]; omega
  have TH := Lib.hid (fun W (hB : Below w.heap.size w W) => things_anyP W (h.later hB))
  have LY := Lib.hid (fun W (hB : Below w.heap.size w W) A c (hR : RowOP W A N c l) => lay_anyP W (B := B) (b := b) (o := o) (N := N2) (IsQP.of (h.later hB)) hBb hR (by omega) (by omega))
  have PL := Lib.hid (fun W v (hQ : FQP B W b o v N2 0 l) => place_anyP W hQ l.length (by omega) (by omega))
  have c0 := h.c0
  have c2 := h.c2
  have hn0 : 0 + l.length = N := by omega
  have hmod : N % N2 = N := Nat.mod_eq_of_lt (by omega)
  rw [hn0, hmod] at PL
  rw [hl] at c2 TH PL
  rw [hN2]
  have HL := Lib.hid hl
  clear h hl
  go_enter Tryz.func66, Tryz.ntmps66
  go_upto_region 1 with (fail)
  go_region
  go_upto_region 2 with (fail)
  go_region_with (first
    | (go_at_call 91; (with_reducible refine (TH.out _ (below_drew2 w)).mono ?_); rintro e w1 ⟨v1, rfl, ho, hB1⟩; obtain ⟨A1, cc1, rfl, hR1⟩ := RowOP.own ho; have HB1 := Lib.hid (Below.trans (below_drew2 w) hB1); have HR1 := Lib.hid hR1; have c2' := ((HB1.out.cell (p := ⟨b, o + 2, none⟩) hb)).trans c2; clear ho hB1 hR1)
    | (go_at_call 90; ((with_reducible refine (LY.out _ HB1.out _ _ HR1.out).mono ?_); rintro e w3 ⟨rfl, v3, hQ3, hK3, hF3, hX3⟩; have HF3 := Lib.hid hF3; have HQ3 := Lib.hid hQ3; have HK3 := Lib.hid hK3; have HX3 := Lib.hid hX3; clear hQ3 hK3 hX3 hF3)))
  all_goals
    have hNN : N < N2 := by omega
    obtain ⟨g, cur, rfl, h1, h2, h3, h4, h5, h6⟩ := HQ3.out.open (by omega)
    have d0 := HQ3.out.c0
    have d2 := HQ3.out.c2
    rw [HL.out] at d2
    have fb2 := HQ3.out.fz (o + 2)
    obtain ⟨u, hu⟩ : ∃ u, w3.cell? ⟨g, N, none⟩ = some u := ⟨cur[N]'(by omega), by rw [cell_of_row w3 g N _ _ _ h2]; exact Array.getElem?_eq_getElem _⟩
    have fg : w3.frozen? ⟨g, N, none⟩ = false := by simp [World.frozen?, h2]
    have hr1 : (N : Int) < (N2 : Int) := by omega
    have hbg : g ≠ b := Ne.symm h6
    have PP := Lib.hid (push_postP (v := .slice A0 N N) (x := x) (r := N) hb HB1.out HQ3.out HK3.out HF3.out hbg HX3.out (by rw [HL.out]; omega) (g := g) rfl (by rw [HL.out, Nat.zero_add, Nat.mod_eq_of_lt hNN]) HL.out)
    clear h5 h2
    go_upto_region 3 with (fail)
    go_region_with (go_at_call 92; (with_reducible refine (PL.out _ _ (HQ3.out.later (below_drew w3))).mono ?_); rintro e w' ⟨rfl, mm, rfl⟩)
  all_goals
    go_wp2
    refine bodyPost_ret (results_none rfl _ _ _) rfl ?_
    exact PP.out _
end Go.Proofs.YtnhddnldebdmbaaGreatDoor
/- At; Pop. -/
namespace Go.Proofs.YtnhddnldebdmbaaGreatDoor
open Go.RowKit
set_option linter.unusedVariables false
set_option linter.unusedSimpArgs false
attribute [local go_sem ↓] Go.wp_at_zero Go.wp_at_succ

set_option maxRecDepth 100000 in
set_option maxHeartbeats 4000000 in
theorem at_inP {B b o N f : Nat} {v : Value} {l : List Nat} {i : Nat} {x : Nat} (w : World) (h : FQP B w b o v N f l) (hx : l[i]? = some x) : Calls Tryz.prog 68 #[.pointer (some ⟨b, o, none⟩), .int .i64 (i : Int)] w (Quiet (.tuple #[.pointer (some ⟨x, 0, none⟩), .bool true]) w) := by
  have hil := (List.getElem?_eq_some_iff.1 hx).1
  have hle := h.len_le
  obtain ⟨g, cur, rfl, h1, h2, h3, h4, h5, h6⟩ := h.open (by omega)
  have hlim := h.lim
  have LN := Lib.hid (len_anyP w h)
  have PL := Lib.hid (fun W (hB : Below w.heap.size w W) => place_anyP W (h.later hB) i (by omega) (by omega))
  have c0 := h.c0
  have hm : (f + i) % N < N := Nat.mod_lt _ (by omega)
  have hu : w.cell? ⟨g, (f + i) % N, none⟩ = some (.pointer (some ⟨x, 0, none⟩)) := by rw [cell_of_row w g _ _ _ _ h2]; exact h5 i x hx
  generalize (f + i) % N = r at *
  have hr1 : (r : Int) < (N : Int) := by omega
  have hi0 : ¬ (i : Int) < 0 := by omega
  have hi1 : ¬ ((l.length : Int) ≤ (i : Int)) := by omega
  generalize l.length = n at *
  clear h h2 h5
  go_enter Tryz.func68, Tryz.ntmps68
  go_upto_region 4 with (go_at_call 65; (with_reducible refine LN.out.mono ?_); rintro e w1 ⟨rfl, rfl⟩)
  go_quiet ((go_at_call 92; refine Calls.quiet_of (PL.out _ (below_drewN2 w _))))
  go_wp2
  go_ret2
  exact ⟨rfl, _, rfl⟩
set_option maxRecDepth 100000 in
set_option maxHeartbeats 4000000 in
theorem at_outP {B b o N f : Nat} {v : Value} {l : List Nat} {i : Int} (w : World) (h : FQP B w b o v N f l) (hi : i < 0 ∨ (l.length : Int) ≤ i) : Calls Tryz.prog 68 #[.pointer (some ⟨b, o, none⟩), .int .i64 i] w (Quiet (.tuple #[.pointer none, .bool false]) w) := by
  have LN := Lib.hid (len_anyP w h)
  generalize l.length = n at *
  clear h
  by_cases h0 : i < 0
  · clear hi
    go_enter Tryz.func68, Tryz.ntmps68
    go_wp2
    go_ret2
    exact ⟨rfl, 0, rfl⟩
  · have h1 : (n : Int) ≤ i := by omega
    have h2 : 0 ≤ i := by omega
    clear hi
    go_enter Tryz.func68, Tryz.ntmps68
    go_wp2_with (go_at_call 65; (with_reducible refine LN.out.mono ?_); rintro e w1 ⟨rfl, rfl⟩)
    go_ret2
    exact ⟨rfl, 0, rfl⟩
/-- clear of one place. -/
theorem run_clear1P {w : World} {g m k : Nat} {u : Value} (ty : TypeId) (hu : w.cell? ⟨g, m, none⟩ = some u) (hf : w.frozen? ⟨g, m, none⟩ = false) : (Builtin.clear_ #[120] ty #[.slice (some ⟨g, m, none⟩) 1 k]).run Tryz.prog w = .ok (.tuple #[]) (w.setCell ⟨g, m, none⟩ (.pointer none)) := by
  obtain ⟨i0, hi, hz0, hz1, hz2⟩ := info_parts infoTP
  have hu' := run_underlying (P := Tryz.prog) Tryz.underlying120
  have a0 : (⟨g, m, none⟩ : Addr).add 0 = ⟨g, m, none⟩ := by rw [add_none]; rfl
  simp [Builtin.clear_, hu', zeroValue, typeInfo, hi, hz0, Builtin.zeroCells, storeCells, a0, hu, hf, go_sem]
theorem mod_skipP {f i N : Nat} (hf : f < N) (hi : i + 1 < N + 1) : ((f + 1) % N + i) % N = (f + (i + 1)) % N := by
  rw [Nat.mod_add_mod]; congr 1; omega
/-- What is left. -/
theorem FQP.pop {B b o N f : Nat} {v : Value} {l : List Nat} {x : Nat} {w : World} (h : FQP B w b o v N f (x :: l)) {g : Nat} (hv : v.ownBlock = some g) :
    FQP B (((w.setCell ⟨g, f, none⟩ (.pointer none)).setCell ⟨b, o + 1, none⟩ (.int .i64 (((f + 1) % N : Nat) : Int))).setCell ⟨b, o + 2, none⟩ (.int .i64 (l.length : Int))) b o v N ((f + 1) % N) l := by
  have hle := h.len_le
  simp at hle
  obtain ⟨g', cur, rfl, h1, h2, h3, h4, h5, h6⟩ := h.open (by omega)
  simp [Value.ownBlock] at hv
  subst hv
  have hgb : g' ≠ b := Ne.symm h6
  refine ⟨h.hB, row_setP (row_setP (row_setP2 h.row hgb)), set_o (set_o (set_g h.c0 hgb) (by omega)) (by omega), set_o (cell_set_at (set_g h.c1 hgb)) (by omega), cell_set_at (set_o (set_g h.c2 hgb) (by omega)), ?_, h.lim⟩
  · refine .inr ⟨g', cur.setIfInBounds f (.pointer none), rfl, h1, ?_, by simpa using h3, Nat.mod_lt _ (by omega), by omega, ?_⟩
    · rw [Below.heap_setCell _ _ _ _ (by simpa using Ne.symm h6), Below.heap_setCell _ _ _ _ (by simpa using Ne.symm h6)]
      exact heap_setCell_same _ g' _ _ _ _ h2
    · intro i y hy
      have hil := (List.getElem?_eq_some_iff.1 hy).1
      have := h5 (i + 1) y (by simpa using hy)
      rw [mod_skipP h4 (by omega)]
      have hne : f ≠ (f + (i + 1)) % N := by
        intro e
        rcases Nat.lt_or_ge (f + (i + 1)) N with ha | ha
        · rw [Nat.mod_eq_of_lt ha] at e; omega
        · rw [Nat.mod_eq_sub_mod ha, Nat.mod_eq_of_lt (by omega)] at e; omega
      rw [Array.getElem?_setIfInBounds_ne hne]
      exact this
theorem run_cut1P {g f N : Nat} (h : f < N) (w : World) : (Instr.slice 120 (.slice (some ⟨g, 0, none⟩) N N) (some (.int .i64 (f : Int))) (some (.int .i64 ((f : Int) + 1))) none).run Tryz.prog w = .ok (.slice (some ⟨g, f, none⟩) 1 (N - f)) w := by
  have h1 : (f : Int) ≤ (f : Int) + 1 := by omega
  have h2 : (f : Int) + 1 ≤ (N : Int) := by omega
  have h3 : (0 : Int) ≤ (f : Int) + 1 := by omega
  have h4 : ¬ N = f := by omega
  have h5 : ((f : Int) + 1).toNat = f + 1 := by omega
  have h6 : f + 1 - f = 1 := by omega
  have h7 : (f : Int) ≤ (N : Int) := by omega
  go_simp
def PopPP (B b o N : Nat) (v : Value) (x : Nat) (l : List Nat) (w : World) (e : Ending) (w' : World) : Prop := e = .returned (.tuple #[.pointer (some ⟨x, 0, none⟩), .bool true]) ∧ ∃ f', FQP B w' b o v N f' l ∧ Kept (blk b v) w w' ∧ FrQ b o w w'
set_option maxRecDepth 100000 in
set_option maxHeartbeats 8000000 in
theorem pop_someP {B b o N f : Nat} {v : Value} {l : List Nat} {x : Nat} (w : World) (h : FQP B w b o v N f (x :: l)) : Calls Tryz.prog 94 #[.pointer (some ⟨b, o, none⟩)] w (PopPP B b o N v x l w) := by
  have hle := h.len_le
  simp at hle
  obtain ⟨g, cur, rfl, h1, h2, h3, h4, h5, h6⟩ := h.open (by omega)
  have hlim := h.lim
  have AT := Lib.hid (show Calls Tryz.prog 68 #[.pointer (some ⟨b, o, none⟩), .int .i64 0] w (Quiet (.tuple #[.pointer (some ⟨x, 0, none⟩), .bool true]) w) from at_inP w h (i := 0) (x := x) rfl)
  have c0 := h.c0
  have c1 := h.c1
  have c2 := h.c2
  have fb1 := h.fz (o + 1)
  have fb2 := h.fz (o + 2)
  have hu : w.cell? ⟨g, f, none⟩ = some (.pointer (some ⟨x, 0, none⟩)) := by
    have := h5 0 x rfl
    rw [Nat.add_zero, Nat.mod_eq_of_lt h4] at this
    rw [cell_of_row w g _ _ _ _ h2]; exact this
  have fg : w.frozen? ⟨g, f, none⟩ = false := by simp [World.frozen?, h2]
  have hP := fun k => (h.later (below_drewN2 w k)).pop (g := g) rfl
  have hll : ((x :: l).length : Int) = (l.length : Int) + 1 := by simp
  rw [hll] at c2
  have HP := Lib.hid hP
  have PL := Lib.hid (fun W (h0 : W.cell? ⟨b, o, none⟩ = some (.slice (some ⟨g, 0, none⟩) N N)) (h1 : W.cell? ⟨b, o + 1, none⟩ = some (.int .i64 (f : Int))) => show Calls Tryz.prog 92 #[.pointer (some ⟨b, o, none⟩), .int .i64 1] W (Quiet (.int .i64 (((f + 1) % N : Nat) : Int)) W) from place_cP W h0 h1 h4 hlim 1 (by omega))
  have CL := Lib.hid (fun k ty => run_clear1P (w := w.drewN k) (g := g) (m := f) (k := N - f) ty hu fg)
  have hm1 : f + 1 - f = 1 := by omega
  have hbl := h.lt
  have hfN : (f : Int) < (N : Int) := by omega
  have hNf : ¬ N = f := by omega
  have hbg : g ≠ b := Ne.symm h6
  have hrl : (f + 1) % N < N := Nat.mod_lt _ (by omega)
  generalize (f + 1) % N = r at *
  generalize l.length = n at *
  clear hP h5 h2 h
  go_enter Tryz.func94, Tryz.ntmps94
  go_upto_region 4 with (go_at_call 68; (with_reducible refine AT.out.mono ?_); rintro e w1 ⟨rfl, m0, rfl⟩)
  have hw : IntKind.i64.wrap ((f : Int) + 1) = (f : Int) + 1 := by rw [IntKind.wrap_i64]; omega
  have hsl := fun w => run_cut1P (g := g) h4 w
  have d0 : (w.drewN m0).cell? ⟨b, o, none⟩ = _ := c0
  have d1 : (w.drewN m0).cell? ⟨b, o + 1, none⟩ = _ := c1
  have d2 : (w.drewN m0).cell? ⟨b, o + 2, none⟩ = _ := c2
  have e1 : (w.drewN m0).frozen? ⟨b, o + 1, none⟩ = false := fb1
  have e2 : (w.drewN m0).frozen? ⟨b, o + 2, none⟩ = false := fb2
  have BW : Below w.heap.size w (w.drewN m0).drew := ⟨rfl, rfl, rfl, Nat.le_refl _, fun _ _ => rfl⟩
  have CL' := CL.out (m0 + 1)
  have HP' := HP.out (m0 + 1)
  have eqW : w.drewN (m0 + 1) = (w.drewN m0).drew := rfl
  rw [eqW] at CL' HP'
  have HP2 := Lib.hid HP'
  have BW2 := Lib.hid BW
  clear HP HP' CL eqW BW c0 c1 c2 fb1 fb2 AT
  generalize w.drewN m0 = W at *
  go_still_tail 14, (by kernel_rfl)
  change wpList _ _ _ _ _ W.drew
  have e0 : W.drew.cell? ⟨b, o, none⟩ = _ := d0
  have e1' : W.drew.cell? ⟨b, o + 1, none⟩ = _ := d1
  have e2' : W.drew.cell? ⟨b, o + 2, none⟩ = _ := d2
  have f1' : W.drew.frozen? ⟨b, o + 1, none⟩ = false := e1
  have f2' : W.drew.frozen? ⟨b, o + 2, none⟩ = false := e2
  have hcl := CL' 0
  clear d0 d1 d2 e1 e2 CL' hsl hu fg
  generalize W.drew = V at *
  have PL2 := Lib.hid (PL.out (V.setCell ⟨g, f, none⟩ (.pointer none)) ((World.cell?_of_block (a := ⟨b, o, none⟩) (Below.heap_setCell V ⟨g, f, none⟩ _ b (by simpa using h6))).trans e0) ((World.cell?_of_block (a := ⟨b, o + 1, none⟩) (Below.heap_setCell V ⟨g, f, none⟩ _ b (by simpa using h6))).trans e1'))
  clear PL
  go_wp2_with (go_at_call 92; (with_reducible refine PL2.out.mono ?_); rintro e w' ⟨rfl, mm, rfl⟩)
  go_ret2
  exact ⟨rfl, r, HP2.out.later (below_drewN2 _ mm), ((((Kept.of _ BW2.out).set g _ _ (by simp [blk, Value.ownBlock])).set b _ _ (by simp [blk])).set b _ _ (by simp [blk])).later (below_drewN2 _ mm), ((((FrQ.of BW2.out hbl).setg g _ _ hbg).setb _ _ (by omega)).setb _ _ (by omega)).trans (FrQ.of (below_drewN2 _ mm) (by simp; exact Nat.lt_of_lt_of_le hbl BW2.out.size))⟩
theorem pop_noneP {B b o N f : Nat} {v : Value} (w : World) (h : FQP B w b o v N f []) : Calls Tryz.prog 94 #[.pointer (some ⟨b, o, none⟩)] w (Quiet (.tuple #[.pointer none, .bool false]) w) := by
  have AT := Lib.hid (at_outP w h (i := 0) (by simp))
  go_enter Tryz.func94, Tryz.ntmps94
  go_wp2_with (go_at_call 68; (with_reducible refine AT.out.mono ?_); rintro e w1 ⟨rfl, m0, rfl⟩)
  go_ret2
  exact ⟨rfl, m0, rfl⟩
end Go.Proofs.YtnhddnldebdmbaaGreatDoor
/- The executive in memory. -/
namespace Go.Proofs.YtnhddnldebdmbaaGreatDoor
open Go.RowKit
set_option linter.unusedVariables false
set_option linter.unusedSimpArgs false

abbrev TX : TypeId := 67
abbrev TRe : TypeId := 94
abbrev TRi : TypeId := 91
abbrev TQu : TypeId := 122
abbrev THe : TypeId := 117
abbrev TTh : TypeId := 145
abbrev TTs : TypeId := 25
/-- Numbers that lie in a row of the call's own, from some place on. -/
structure Com (B : Nat) (w : World) (v : Value) (l : List Nat) : Prop where
  ex : ∃ g off cs, v = .slice (some ⟨g, off, none⟩) l.length l.length ∧ B ≤ g ∧ w.heap[g]? = some (.cells cs TIn (0, 0)) ∧ l.length ≤ 1000 ∧ ∀ (j p : Nat), l[j]? = some p → w.cell? ⟨g, off + j, none⟩ = some (.int .i64 (p : Int))
theorem Com.kt {S : List TypeId} {B : Nat} {w w' : World} {v : Value} {l : List Nat} (h : Com B w v l) (hk : KT S w w') (hS : TIn ∉ S) : Com B w' v l := by
  obtain ⟨g, off, cs, hv, hB, hg, hl, hc⟩ := h.ex
  exact ⟨g, off, cs, hv, hB, hk.blk g cs _ hg hS, hl, fun j p hp => (hk.cell (v := .int .i64 0) hg hS).trans (hc j p hp)⟩
theorem HsI.tys {K : LK} {B : Nat} {w : World} {b c : Nat} {X : List Nat} {L : List Int} (h : HsI K B w b X c L) : ∀ k ∈ X, ∃ cs T, w.heap[k]? = some (.cells cs T (0, 0)) ∧ T ∈ [THe, TTh] := by
  obtain ⟨⟨v, l, h1, rfl, h2⟩, h3⟩ := h
  intro k hk
  simp only [blk, List.mem_cons] at hk
  rcases hk with rfl | hk
  · exact ⟨_, _, h1.is, by simp⟩
  · obtain ⟨cs, hcs⟩ := own_ty h1.row (g := k) (by simpa using hk)
    exact ⟨cs, _, hcs, by simp⟩
theorem HsI.kt {S : List TypeId} {K : LK} {B : Nat} {w0 w w' : World} {b c : Nat} {X : List Nat} {L : List Int} (h : HsI K B w b X c L) (hk : KT S w w') (hS : THe ∉ S ∧ TTh ∉ S ∧ TTs ∉ S)
    (hb : Below w0.heap.size w0 w) (hb' : Below w0.heap.size w0 w') (hl : K.lb < w0.heap.size) (hx : ∃ cs, w.heap[K.bl]? = some (.cells cs TTs (0, 0))) : HsI K B w' b X c L := by
  obtain ⟨⟨v, l, h1, h2, h3⟩, h4⟩ := h
  obtain ⟨cs, hcs⟩ := hx
  exact ⟨⟨v, l, ⟨h1.hB, hk.blk _ _ _ h1.is hS.1, hk.row h1.row hS.2.1, h1.ok, h1.few, h1.lim, ⟨h1.less.lt, h1.less.lb, Nat.le_trans h1.less.sz hk.size, h1.less.few, h1.less.cp, (hk.cell (v := .int .i64 0) hcs hS.2.2).trans h1.less.box,
    fun i p hp => ((hb'.cell (p := ⟨K.lb, K.lo + i * 7 + 6, none⟩) hl).trans (hb.cell (p := ⟨K.lb, K.lo + i * 7 + 6, none⟩) hl).symm).trans (h1.less.rd i p hp)⟩⟩, h2, h3⟩, h4⟩
theorem FQP.kt {S : List TypeId} {B b o N f : Nat} {w w' : World} {v : Value} {l : List Nat} (h : FQP B w b o v N f l) (hk : KT S w w') (hS : TQu ∉ S ∧ TRi ∉ S) : FQP B w' b o v N f l := by
  obtain ⟨cur, hc⟩ := h.row
  refine ⟨h.hB, ⟨cur, hk.blk _ _ _ hc hS.1⟩, (hk.cell (v := v) hc hS.1).trans h.c0, (hk.cell (v := v) hc hS.1).trans h.c1, (hk.cell (v := v) hc hS.1).trans h.c2, ?_, h.lim⟩
  rcases h.ring with h | ⟨g, cur, rfl, hg, hh, r⟩
  · exact .inl h
  · exact .inr ⟨g, cur, rfl, hg, hk.blk _ _ _ hh hS.2, r⟩
theorem FQP.tys {B b o N f : Nat} {w : World} {v : Value} {l : List Nat} (h : FQP B w b o v N f l) : ∀ k ∈ blk b v, ∃ cs T, w.heap[k]? = some (.cells cs T (0, 0)) ∧ T ∈ [TQu, TRi] := by
  intro k hk
  simp only [blk, List.mem_cons] at hk
  rcases hk with rfl | hk
  · obtain ⟨cur, hc⟩ := h.row
    exact ⟨_, _, hc, by simp⟩
  · rcases h.ring with ⟨rfl, _⟩ | ⟨g, cur, rfl, hg, hh, r⟩
    · simp [Value.ownBlock] at hk
    · simp [Value.ownBlock] at hk
      subst hk
      exact ⟨_, _, hh, by simp⟩
/-- What is left of a job. -/
structure Rst (w0 w : World) (b p : Nat) (k : Int) (c : List Int) : Prop where
  ge : w0.heap.size ≤ b
  is : ∃ A cc, w.heap[b]? = some (.cells #[.int .i64 (p : Int), .int .i64 k, .slice A c.length cc] TRe (0, 0)) ∧ CRow w0 A cc c
theorem Rst.kt {S : List TypeId} {w0 w w' : World} {b p : Nat} {k : Int} {c : List Int} (h : Rst w0 w b p k c) (hk : KT S w w') (hS : TRe ∉ S) : Rst w0 w' b p k c := by
  obtain ⟨A, cc, h1, h2⟩ := h.is
  exact ⟨h.ge, A, cc, hk.blk _ _ _ h1 hS, h2⟩
/-- What does not turn while it goes on. -/
structure Cfg where
  w0 : World
  R : Option Addr
  rc : Nat
  ts : List Ts
  js : List Fv
  o : List Nat
  K : LK
  bx : Nat
  hb : Nat
  gq : Nat
  Bh : Nat
structure Cok (C : Cfg) : Prop where
  row : FRow C.w0 C.R C.rc C.js
  ord : IsOrd (C.js.map (·.r)) C.o
  few : C.js.length ≤ 1000
  fewT : C.ts.length ≤ 1000
  lg : Lg C.js
  seq : Seq C.js
  dist : Dist C.ts
  t0 : ∀ i, i < C.js.length → 0 ≤ (jb C.js i).t ∧ (jb C.js i).t < C.ts.length
  bd : ∀ i, i < C.js.length → (jb C.js i).r ≤ 35184372088832 ∧ (jb C.js i).k ≤ 2147483647
  ps : C.K.ps = C.ts.map (·.p)
  lb : C.K.lb < C.w0.heap.size
  Bh : C.w0.heap.size ≤ C.Bh
  bx : C.w0.heap.size ≤ C.bx
/-- What turns. -/
structure Mv where
  m : Nat
  now : Int
  dn : List Int
  sp : List Spn
  en : List Int
  L : List Int
structure Ex (C : Cfg) (w : World) (M : Mv) (vc vs ve : Value) (rb : Nat → Nat) (rv : Nat → Value) (lf : Nat → Int × List Int) : Prop where
  bel : Below C.w0.heap.size C.w0 w
  box : w.heap[C.bx]? = some (.cells #[.slice C.R C.js.length C.rc, vc, .pointer (some ⟨C.hb, 0, none⟩), .slice (some ⟨C.gq, 0, none⟩) C.ts.length C.ts.length, .int .i64 M.now, vs, ve] TX (0, 0))
  com : Com C.w0.heap.size w vc (C.o.drop M.m)
  spn : w.ownsRow C.w0.heap.size TSp 3 vs M.sp.length (spC M.sp)
  ens : w.ownsRow C.w0.heap.size T64 1 ve C.js.length (numL M.en)
  hp : ∃ X c, HsI C.K C.Bh w C.hb X c M.L ∧ c ≤ M.m
  bl : ∃ cs, w.heap[C.K.bl]? = some (.cells cs TTs (0, 0))
  qs : ∀ τ, τ < C.ts.length → ∃ N f, FQP C.w0.heap.size w C.gq (τ * 3) (rv τ) N f ((quS C.js M.dn (C.o.take M.m) τ).map rb) ∧ N ≤ 2004
  qd : ∀ τ σ g, τ < C.ts.length → σ < C.ts.length → τ ≠ σ → (rv τ).ownBlock = some g → (rv σ).ownBlock ≠ some g
  rs : ∀ p, p ∈ C.o.take M.m → kO M.dn p < (jb C.js p).k → Rst C.w0 w (rb p) p (lf p).1 (lf p).2
  rd : ∀ p q, p ∈ C.o.take M.m → kO M.dn p < (jb C.js p).k → q ∈ C.o.take M.m → kO M.dn q < (jb C.js q).k → p ≠ q → rb p ≠ rb q
end Go.Proofs.YtnhddnldebdmbaaGreatDoor
/- The executive's small calls: quiet, first, wait. -/
namespace Go.Proofs.YtnhddnldebdmbaaGreatDoor
open Go.RowKit
set_option linter.unusedVariables false
set_option linter.unusedSimpArgs false
attribute [local go_sem ↓] Go.wp_at_zero Go.wp_at_succ
theorem wrap64_in {n : Int} (h : -9223372036854775808 ≤ n ∧ n ≤ 9223372036854775807) : wrap64 n = n := by unfold wrap64; omega
section
variable {C : Cfg} {w w' : World} {M : Mv} {vc vs ve : Value} {rb : Nat → Nat} {rv : Nat → Value} {lf : Nat → Int × List Int}
theorem Ex.cell (h : Ex C w M vc vs ve rb rv lf) (i : Nat) : w.cell? ⟨C.bx, i, none⟩ = (#[.slice C.R C.js.length C.rc, vc, .pointer (some ⟨C.hb, 0, none⟩), .slice (some ⟨C.gq, 0, none⟩) C.ts.length C.ts.length, .int .i64 M.now, vs, ve] : Array Value)[i]? := cell_of_row w C.bx i _ _ _ h.box
theorem Ex.fz (h : Ex C w M vc vs ve rb rv lf) (i : Nat) : w.frozen? ⟨C.bx, i, none⟩ = false := by simp [World.frozen?, h.box]
theorem Ex.c0 (h : Ex C w M vc vs ve rb rv lf) : w.cell? ⟨C.bx, 0, none⟩ = some (.slice C.R C.js.length C.rc) := h.cell 0
theorem Ex.c1 (h : Ex C w M vc vs ve rb rv lf) : w.cell? ⟨C.bx, 1, none⟩ = some vc := h.cell 1
theorem Ex.c2 (h : Ex C w M vc vs ve rb rv lf) : w.cell? ⟨C.bx, 2, none⟩ = some (.pointer (some ⟨C.hb, 0, none⟩)) := h.cell 2
theorem Ex.c3 (h : Ex C w M vc vs ve rb rv lf) : w.cell? ⟨C.bx, 3, none⟩ = some (.slice (some ⟨C.gq, 0, none⟩) C.ts.length C.ts.length) := h.cell 3
theorem Ex.c4 (h : Ex C w M vc vs ve rb rv lf) : w.cell? ⟨C.bx, 4, none⟩ = some (.int .i64 M.now) := h.cell 4
theorem Ex.c5 (h : Ex C w M vc vs ve rb rv lf) : w.cell? ⟨C.bx, 5, none⟩ = some vs := h.cell 5
theorem Ex.c6 (h : Ex C w M vc vs ve rb rv lf) : w.cell? ⟨C.bx, 6, none⟩ = some ve := h.cell 6
/-- All but the block itself, where only blocks of other types turn. -/
theorem Ex.later (h : Ex C w M vc vs ve rb rv lf) (hC : Cok C) (hb : Below w.heap.size w w') : Ex C w' M vc vs ve rb rv lf := by
  have k : KT [] w w' := KT.of hb
  have b' := h.bel.trans (hb.mono h.bel.size)
  refine ⟨b', k.blk _ _ _ h.box (by simp), h.com.kt k (by simp), k.row h.spn (by simp), k.row h.ens (by simp), ?_, ?_, fun τ hτ => ?_, h.qd, fun p hp hk => (h.rs p hp hk).kt k (by simp), h.rd⟩
  · obtain ⟨X, c, h1, h2⟩ := h.hp
    exact ⟨X, c, h1.later hb, h2⟩
  · obtain ⟨cs, hc⟩ := h.bl
    exact ⟨cs, k.blk _ _ _ hc (by simp)⟩
  · obtain ⟨N, f, h1, h2⟩ := h.qs τ hτ
    exact ⟨N, f, h1.kt k (by simp), h2⟩
/-- How long it stays as it is. -/
def relS (C : Cfg) (M : Mv) : Int := match C.o.drop M.m with | [] => 9223372036854775807 | p :: _ => (jb C.js p).r - M.now
theorem Cok.rel (hC : Cok C) {p : Nat} (hp : p ∈ C.o) : p < C.js.length := by have := hC.ord.mem.1 hp; simpa using this
set_option maxRecDepth 100000 in
set_option maxHeartbeats 4000000 in
theorem quiet_any (hC : Cok C) (h : Ex C w M vc vs ve rb rv lf) (hn : 0 ≤ M.now ∧ M.now ≤ 9223372036854775807) : Calls Tryz.prog 45 #[.pointer (some ⟨C.bx, 0, none⟩)] w (Quiet (.int .i64 (relS C M)) w) := by
  obtain ⟨g, off, cs, rfl, hB, hg, hl, hc⟩ := h.com.ex
  have c0 := h.c0
  have c1 := h.c1
  have c4 := h.c4
  unfold relS
  cases hd : C.o.drop M.m with
  | nil =>
    rw [hd] at c1
    simp only [List.length_nil] at c1
    clear h hc hd
    go_enter Tryz.func45, Tryz.ntmps45
    go_wp2
    go_ret
    exact ⟨rfl, 0, rfl⟩
  | cons p r =>
    simp only
    rw [hd] at c1 hl hc
    have hp : p ∈ C.o := List.mem_of_mem_drop (i := M.m) (by rw [hd]; simp)
    have hpl := hC.rel hp
    obtain ⟨jbk, jo, x, A, cc, hR, hx, hjl, hF⟩ := (hC.row.later (h.bel)).get hpl
    have hx2 := jb_get hx
    have e1 := hc 0 p rfl
    rw [Nat.add_zero] at e1
    have e2 := hF.c2
    rw [← hx2] at e2
    have hbd := hC.bd p hpl
    have hr0 := hC.lg.r0 p hpl
    have hnow := hn
    have hfew := hC.few
    have i0 : (0 : Int) ≤ (p : Int) := by omega
    have i1 : (p : Int) < (C.js.length : Int) := by omega
    have ln : (p :: r).length = r.length + 1 := rfl
    rw [ln] at c1
    have lz : ((r.length + 1 : Nat) : Int) ≠ 0 := by omega
    have lp : (0 : Int) < ((r.length + 1 : Nat) : Int) := by omega
    generalize (jb C.js p).r = rr at *
    generalize M.now = now at *
    have hw : IntKind.i64.wrap (rr - now) = rr - now := IntWalk.i64_in _ (by omega)
    rw [hR] at c0
    clear h hc hd hF hx hx2 hR hl
    go_enter Tryz.func45, Tryz.ntmps45
    go_wp2
    go_upto_region 3 with (fail)
    go_quiet (fail)
    go_wp2
    go_ret
    exact ⟨rfl, _, rfl⟩
set_option maxRecDepth 100000 in
set_option maxHeartbeats 4000000 in
theorem first_none (h : Ex C w M vc vs ve rb rv lf) (hL : M.L = []) : Calls Tryz.prog 46 #[.pointer (some ⟨C.bx, 0, none⟩)] w (Told (.pointer none) w) := by
  obtain ⟨X, c, hH, hc⟩ := h.hp
  rw [hL] at hH
  have PK := Lib.hid (hnilI hH).2
  have c2 := h.c2
  clear h hH hc hL
  go_enter Tryz.func46, Tryz.ntmps46
  go_wp2_with (go_at_call 67; (with_reducible refine PK.out.mono ?_); rintro e w1 ⟨rfl, hB1⟩)
  go_ret
  exact ⟨rfl, hB1⟩
set_option maxRecDepth 100000 in
set_option maxHeartbeats 4000000 in
theorem first_some {τ p : Nat} {r : List Int} {rest : List Nat} (hC : Cok C) (h : Ex C w M vc vs ve rb rv lf) (hL : M.L = (τ : Int) :: r) (hτ : τ < C.ts.length) (hq : quS C.js M.dn (C.o.take M.m) τ = p :: rest) :
    Calls Tryz.prog 46 #[.pointer (some ⟨C.bx, 0, none⟩)] w (Told (.pointer (some ⟨rb p, 0, none⟩)) w) := by
  obtain ⟨X, c, hH, hc⟩ := h.hp
  rw [hL] at hH
  obtain ⟨N, f, hQ, hN⟩ := h.qs τ hτ
  rw [hq] at hQ
  have PK := Lib.hid (hpeekI hH)
  have AT := Lib.hid (fun W (hB : Below w.heap.size w W) => show Calls Tryz.prog 68 #[.pointer (some ⟨C.gq, τ * 3, none⟩), .int .i64 0] W (Quiet (.tuple #[.pointer (some ⟨rb p, 0, none⟩), .bool true]) W) from at_inP W ((hQ.kt (KT.of (S := []) hB) (by simp))) (i := 0) (x := rb p) rfl)
  have c2 := h.c2
  have c3 := h.c3
  have hbx := h.bel
  have l3 := World.block_lt_of_cell? w _ c3
  have i0 : (0 : Int) ≤ (τ : Int) := by omega
  have i1 : (τ : Int) < (C.ts.length : Int) := by omega
  generalize C.ts.length = n at *
  clear h hH hc hL hQ hq
  go_enter Tryz.func46, Tryz.ntmps46
  go_upto_region 2 with (go_at_call 67; (with_reducible refine PK.out.mono ?_); rintro e w1 ⟨rfl, hB1⟩)
  have d3 := (hB1.cell (p := ⟨C.bx, 3, none⟩) l3).trans c3
  clear c2 c3
  go_wp2_with (go_at_call 68; (with_reducible refine (AT.out _ hB1).mono ?_); rintro e w2 ⟨rfl, k, rfl⟩)
  go_ret
  exact ⟨rfl, hB1.trans ((below_drewN2 w1 k).mono hB1.size)⟩
/-- Where only the block itself turns, and of that only ticks. -/
theorem Ex.wait (h : Ex C w M vc vs ve rb rv lf) (hC : Cok C) (n : Int) : Ex C (w.setCell ⟨C.bx, 4, none⟩ (.int .i64 n)) { M with now := n } vc vs ve rb rv lf := by
  have k : KT [TX] w (w.setCell ⟨C.bx, 4, none⟩ (.int .i64 n)) := KT.set h.box (by simp)
  have b' : Below C.w0.heap.size C.w0 (w.setCell ⟨C.bx, 4, none⟩ (.int .i64 n)) := below_set h.bel hC.bx h.bel.size
  refine ⟨b', heap_setCell_same _ _ 4 _ _ _ h.box, h.com.kt k (by decide), k.row h.spn (by decide), k.row h.ens (by decide), ?_, ?_, fun τ hτ => ?_, h.qd, fun p hp hk => (h.rs p hp hk).kt k (by decide), h.rd⟩
  · obtain ⟨X, c, h1, h2⟩ := h.hp
    exact ⟨X, c, h1.kt k (by decide) h.bel b' hC.lb h.bl, h2⟩
  · obtain ⟨cs, hc⟩ := h.bl
    exact ⟨cs, k.blk _ _ _ hc (by decide)⟩
  · obtain ⟨N, f, h1, h2⟩ := h.qs τ hτ
    exact ⟨N, f, h1.kt k (by decide), h2⟩
def ExP (C : Cfg) (M : Mv) (lf : Nat → Int × List Int) (e : Ending) (w' : World) : Prop := e = .returned (.tuple #[]) ∧ ∃ vc vs ve rb rv, Ex C w' M vc vs ve rb rv lf
set_option maxRecDepth 100000 in
set_option maxHeartbeats 4000000 in
theorem wait_any (hC : Cok C) (h : Ex C w M vc vs ve rb rv lf) (n : Int) (h0 : 0 ≤ M.now) (h1 : 0 ≤ n) (h2 : M.now + n ≤ 9223372036854775807) :
    Calls Tryz.prog 44 #[.pointer (some ⟨C.bx, 0, none⟩), .int .i64 n] w (ExP C { M with now := M.now + n } lf) := by
  have c4 := h.c4
  have f4 := h.fz 4
  have hw2 : wrap64 (M.now + n) = M.now + n := wrap64_in (by omega)
  have W := Lib.hid (h.wait hC (M.now + n))
  clear h
  go_enter Tryz.func44, Tryz.ntmps44
  go_wp2
  refine bodyPost_ret (results_none rfl _ _ _) rfl ?_
  exact ⟨rfl, vc, vs, ve, rb, rv, W.out⟩
end
end Go.Proofs.YtnhddnldebdmbaaGreatDoor
/- Who is released: the plain side, and what stands in memory behind it. -/
namespace Go.Proofs.YtnhddnldebdmbaaGreatDoor
open Go.RowKit
set_option linter.unusedVariables false
set_option linter.unusedSimpArgs false
section
variable {key : Int → Int}
theorem ins_mem (x y : Int) : ∀ L : List Int, y ∈ ins key x L ↔ y = x ∨ y ∈ L
  | [] => by simp [ins]
  | a :: l => by
    unfold ins
    split
    · simp
    · rw [List.mem_cons, ins_mem x y l, List.mem_cons]
      constructor
      · rintro (h | h | h) <;> simp [h]
      · rintro (h | h | h) <;> simp [h]
theorem ins_pw {x : Int} : ∀ {L : List Int}, L.Pairwise (fun a b => key a < key b) → (∀ y ∈ L, key y ≠ key x) → (ins key x L).Pairwise (fun a b => key a < key b)
  | [], _, _ => by simp [ins]
  | a :: l, h, hn => by
    have h1 := List.pairwise_cons.1 h
    unfold ins
    split
    · rename_i hlt
      refine List.pairwise_cons.2 ⟨fun y hy => ?_, h⟩
      rcases List.mem_cons.1 hy with rfl | hy
      · exact hlt
      · have := h1.1 y hy; omega
    · rename_i hlt
      have hna := hn a (by simp)
      refine List.pairwise_cons.2 ⟨fun y hy => ?_, ins_pw h1.2 (fun y hy => hn y (by simp [hy]))⟩
      rcases (ins_mem x y l).1 hy with rfl | hy
      · omega
      · exact h1.1 y hy
end
theorem key_tk {K : LK} {ts : List Ts} (hp : K.ps = ts.map (·.p)) {τ : Nat} (h : τ < ts.length) : keyK K (τ : Int) = (tk ts (τ : Int)).p := by
  have h1 : ts[τ]? = some ts[τ] := List.getElem?_eq_getElem h
  rw [tk_get h1]
  simp [keyK, hp, h1]
theorem tk_ne {ts : List Ts} (hD : Dist ts) {τ σ : Nat} (h1 : τ < ts.length) (h2 : σ < ts.length) (hne : τ ≠ σ) : (tk ts (τ : Int)).p ≠ (tk ts (σ : Int)).p := by
  have e1 : ts[τ]? = some ts[τ] := List.getElem?_eq_getElem h1
  have e2 : ts[σ]? = some ts[σ] := List.getElem?_eq_getElem h2
  rw [tk_get e1, tk_get e2]
  exact fun e => hne (hD _ _ _ _ e1 e2 e)
/-- Who is in the heap behind it. -/
def LS (C : Cfg) (M : Mv) (τ : Nat) : List Int := if quS C.js M.dn (C.o.take M.m) τ = [] then ins (keyK C.K) (τ : Int) M.L else M.L
section
variable {C : Cfg} {M : Mv}
theorem hd_pw_key {L : List Int} {dn : List Int} {l : List Nat} (hC : Cok C) (h : Hd C.ts C.js dn l L) : L.Pairwise (fun a b => keyK C.K a < keyK C.K b) := by
  refine List.Pairwise.imp_of_mem (fun {a b} ha hb hab => ?_) h.srt
  obtain ⟨σ, rfl, h1⟩ := h.nat a ha
  obtain ⟨ρ, rfl, h2⟩ := h.nat b hb
  rw [key_tk hC.ps h1, key_tk hC.ps h2]; exact hab
theorem Hd.rel {p τ : Nat} {r : List Nat} (hC : Cok C) (h : Hd C.ts C.js M.dn (C.o.take M.m) M.L) (hd : C.o.drop M.m = p :: r) (ht : (jb C.js p).t = (τ : Int)) (hk : kO M.dn p < (jb C.js p).k) (hτ : τ < C.ts.length) :
    Hd C.ts C.js M.dn (C.o.take (M.m + 1)) (LS C M τ) := by
  have hp : C.o[M.m]? = some p := by rw [← List.head?_drop, hd]; rfl
  have e := take_one hp
  rw [e]
  have q1 : quS C.js M.dn (C.o.take M.m ++ [p]) τ = quS C.js M.dn (C.o.take M.m) τ ++ [p] := by rw [quS_app, if_pos ⟨ht, hk⟩]
  have q2 : ∀ σ : Nat, σ ≠ τ → quS C.js M.dn (C.o.take M.m ++ [p]) σ = quS C.js M.dn (C.o.take M.m) σ := fun σ hσ => by
    rw [quS_app, if_neg (fun hh => hσ (by have := hh.1; rw [ht] at this; omega)), List.append_nil]
  unfold LS
  by_cases h0 : quS C.js M.dn (C.o.take M.m) τ = []
  · rw [if_pos h0]
    have hno : ∀ y ∈ M.L, keyK C.K y ≠ keyK C.K (τ : Int) := fun y hy => by
      obtain ⟨σ, rfl, h1⟩ := h.nat y hy
      rw [key_tk hC.ps h1, key_tk hC.ps hτ]
      refine tk_ne hC.dist h1 hτ (fun hh => ?_)
      subst hh
      exact (h.mem σ).1 hy h0
    refine ⟨?_, fun σ => ?_, fun x hx => ?_⟩
    · refine List.Pairwise.imp_of_mem (fun {a b} ha hb hab => ?_) (ins_pw (x := (τ : Int)) (hd_pw_key hC h) hno)
      have nat : ∀ x ∈ ins (keyK C.K) (τ : Int) M.L, ∃ τ : Nat, x = (τ : Int) ∧ τ < C.ts.length := fun x hx => by
        rcases (ins_mem _ _ _).1 hx with rfl | hx
        · exact ⟨τ, rfl, hτ⟩
        · exact h.nat x hx
      obtain ⟨σ, rfl, h1⟩ := nat a ha
      obtain ⟨ρ, rfl, h2⟩ := nat b hb
      rw [← key_tk hC.ps h1, ← key_tk hC.ps h2]; exact hab
    · rw [ins_mem]
      by_cases hσ : σ = τ
      · subst hσ; simp [q1]
      · rw [q2 σ hσ, ← h.mem σ]
        constructor
        · rintro (hh | hh)
          · omega
          · exact hh
        · exact .inr
    · rcases (ins_mem _ _ _).1 hx with rfl | hx
      · exact ⟨τ, rfl, hτ⟩
      · exact h.nat x hx
  · rw [if_neg h0]
    refine ⟨h.srt, fun σ => ?_, h.nat⟩
    by_cases hσ : σ = τ
    · subst hσ
      rw [q1, h.mem σ]
      simp [h0]
    · rw [q2 σ hσ, h.mem σ]
theorem rel_done {k : Nat} {n : Int} (hC : Cok C) (hk : k ≤ C.o.length) (lo : ∀ p ∈ C.o.take k, (jb C.js p).r ≤ n) (hi : ∀ p r, C.o.drop k = p :: r → n < (jb C.js p).r) : Rel C.js C.o k n := by
  refine ⟨hk, lo, fun q hq => ?_⟩
  cases hd : C.o.drop k with
  | nil => rw [hd] at hq; cases hq
  | cons p r =>
    have h1 := hi p r hd
    have hs := hC.ord.srt.sublist (List.drop_sublist k C.o)
    rw [hd] at hs hq
    rcases List.mem_cons.1 hq with rfl | hq
    · exact h1
    · have := (List.pairwise_cons.1 hs).1 q hq
      have hp : p < C.js.length := hC.rel (List.mem_of_mem_drop (i := k) (by rw [hd]; simp))
      have hq : q < C.js.length := hC.rel (List.mem_of_mem_drop (i := k) (by rw [hd]; simp [hq]))
      unfold Ahead at this
      rw [kO_rls hp, kO_rls hq] at this
      omega
end
/-- Another queue of the same row. -/
theorem FQP.other {B b o o' N f : Nat} {w w' : World} {v v' : Value} {l : List Nat} (h : FQP B w b o' v' N f l) (hk : Kept (blk b v) w w') (hf : FrQ b o w w') (ho : o' + 3 ≤ o ∨ o + 3 ≤ o')
    (hr : ∃ cur, w'.heap[b]? = some (Obj.cells cur TQu (0, 0))) (hring : ∀ g, v'.ownBlock = some g → v.ownBlock ≠ some g) : FQP B w' b o' v' N f l := by
  refine ⟨h.hB, hr, (hf _ (by omega)).trans h.c0, (hf _ (by omega)).trans h.c1, (hf _ (by omega)).trans h.c2, ?_, h.lim⟩
  obtain ⟨cq, hcq⟩ := h.row
  rcases h.ring with h1 | ⟨g, cur, rfl, hg, hh, r⟩
  · exact .inl h1
  · refine .inr ⟨g, cur, rfl, hg, (hk.block g (Array.getElem?_eq_some_iff.1 hh).1 ?_).trans hh, r⟩
    simp only [blk, List.mem_cons, Option.mem_toList]
    rintro (rfl | e)
    · rw [hcq] at hh
      simp only [Option.some.injEq, Obj.cells.injEq] at hh
      exact absurd hh.2.1 (by decide)
    · exact hring g rfl e
def roomUp (N n : Nat) : Nat := if n = N then 2 * N + 4 else N
theorem qpushP {B b o N f : Nat} {v : Value} {l : List Nat} (x : Nat) (w : World) (h : FQP B w b o v N f l) (hN : N ≤ 2004) : Calls Tryz.prog 66 #[.pointer (some ⟨b, o, none⟩), .pointer (some ⟨x, 0, none⟩)] w (PushPP B b o (roomUp N l.length) v (l ++ [x]) w) := by
  have hle := h.len_le
  unfold roomUp
  by_cases e : l.length = N
  · rw [if_pos e]; exact push_fullP x w h e (by omega)
  · rw [if_neg e]; exact push_roomP x w h (by omega)
section
variable {C : Cfg} {w w1 w2 w3 w5 : World} {M : Mv} {vc vs ve : Value} {rb : Nat → Nat} {rv : Nat → Value} {lf : Nat → Int × List Int}
theorem quS_len {dn : List Int} {l : List Nat} {τ : Nat} {js : List Fv} : (quS js dn l τ).length ≤ l.length := by unfold quS; exact List.length_filter_le _ _
/-- One more is released: what stands in memory behind it. -/
theorem Ex.rel {p τ N f : Nat} {r : List Nat} {v' : Value} {A : Option Addr} {cc : Nat} (hC : Cok C) (h : Ex C w M vc vs ve rb rv lf) (hd : C.o.drop M.m = p :: r) (ht : (jb C.js p).t = (τ : Int)) (hτ : τ < C.ts.length) (hk : kO M.dn p < (jb C.js p).k)
    (hlf : lf p = ((jb C.js p).k, (jb C.js p).c)) (hcr : CRow C.w0 A cc (jb C.js p).c)
    (hx1 : Ex C w M vc vs ve rb rv lf → ∃ vc', w1 = w.setCell ⟨C.bx, 1, none⟩ vc' ∧ Com C.w0.heap.size w vc' r) (hB2 : Below w1.heap.size w1 w2) (k23 : KT [THe, TTh] w2 w3) (hb3 : Below C.w0.heap.size C.w0 w3) (hH : ∃ X c, HsI C.K C.Bh w3 C.hb X c (LS C M τ) ∧ c ≤ M.m + 1)
    {l : List Nat} {N0 f0 : Nat} (hl : (quS C.js M.dn (C.o.take M.m) τ).map rb = l)
    (hQ0 : FQP C.w0.heap.size (w3.alloc (.cells #[.int .i64 (p : Int), .int .i64 (jb C.js p).k, .slice A (jb C.js p).c.length cc] TRe)) C.gq (τ * 3) (rv τ) N0 f0 l)
    (hQ : FQP C.w0.heap.size w5 C.gq (τ * 3) v' N f (l ++ [w3.heap.size])) (hN : N ≤ 2004)
    (hK : Kept (blk C.gq (rv τ)) (w3.alloc (.cells #[.int .i64 (p : Int), .int .i64 (jb C.js p).k, .slice A (jb C.js p).c.length cc] TRe)) w5) (hF : FrQ C.gq (τ * 3) (w3.alloc (.cells #[.int .i64 (p : Int), .int .i64 (jb C.js p).k, .slice A (jb C.js p).c.length cc] TRe)) w5)
    (hX : ∀ k ∈ blk C.gq v', k ∈ blk C.gq (rv τ) ∨ (w3.alloc (.cells #[.int .i64 (p : Int), .int .i64 (jb C.js p).k, .slice A (jb C.js p).c.length cc] TRe)).heap.size ≤ k) :
    ∃ vc' rb' rv', Ex C w5 { M with m := M.m + 1, L := LS C M τ } vc' vs ve rb' rv' lf := by
  obtain ⟨vc', rfl, hcom⟩ := hx1 h
  have hp : C.o[M.m]? = some p := by rw [← List.head?_drop, hd]; rfl
  have e := take_one hp
  have hd1 : C.o.drop (M.m + 1) = r := by rw [← List.drop_drop, hd]; rfl
  have hpn : p ∉ C.o.take M.m := by
    intro hm
    have := hC.ord.nodup
    rw [← List.take_append_drop M.m C.o, hd] at this
    exact (List.nodup_append.1 this).2.2 p hm p (by simp) rfl
  have q1 : quS C.js M.dn (C.o.take (M.m + 1)) τ = quS C.js M.dn (C.o.take M.m) τ ++ [p] := by rw [e, quS_app, if_pos ⟨ht, hk⟩]
  have q2 : ∀ σ : Nat, σ ≠ τ → quS C.js M.dn (C.o.take (M.m + 1)) σ = quS C.js M.dn (C.o.take M.m) σ := fun σ hσ => by
    rw [e, quS_app, if_neg (fun hh => hσ (by have := hh.1; rw [ht] at this; omega)), List.append_nil]
  have hmap : ∀ σ, (quS C.js M.dn (C.o.take M.m) σ).map (fun q => if q = p then w3.heap.size else rb q) = (quS C.js M.dn (C.o.take M.m) σ).map rb := fun σ => by
    refine List.map_congr_left fun q hq => ?_
    rw [if_neg (fun hh => hpn (by rw [← hh]; exact (quS_mem.1 hq).1))]
  have kx : KT [TX] w (w.setCell ⟨C.bx, 1, none⟩ vc') := KT.set h.box (by simp)
  have k12 : KT [] (w.setCell ⟨C.bx, 1, none⟩ vc') w2 := KT.of hB2
  have hb4 : Below w3.heap.size w3 (w3.alloc (.cells #[.int .i64 (p : Int), .int .i64 (jb C.js p).k, .slice A (jb C.js p).c.length cc] TRe)) := (Below.refl _ _).alloc (Nat.le_refl _) _
  have hnew := heap_alloc_new w3 (.cells #[.int .i64 (p : Int), .int .i64 (jb C.js p).k, .slice A (jb C.js p).c.length cc] TRe)
  generalize w3.alloc (.cells #[.int .i64 (p : Int), .int .i64 (jb C.js p).k, .slice A (jb C.js p).c.length cc] TRe) = w4 at *
  have k34 : KT [] w3 w4 := KT.of hb4
  have k45 : KT [TQu, TRi] w4 w5 := KT.kept hK hQ0.tys
  have k25 : KT [THe, TTh, TQu, TRi] w2 w5 := ((k23.mono (by simp)).trans (k34.mono (by simp))).trans (k45.mono (by simp))
  have k15 : KT [THe, TTh, TQu, TRi] (w.setCell ⟨C.bx, 1, none⟩ vc') w5 := (k12.mono (by simp)).trans k25
  have k05 : KT [TX, THe, TTh, TQu, TRi] w w5 := (kx.mono (by simp)).trans (k15.mono (by simp))
  have k04 : KT [TX, THe, TTh] w w4 := (kx.mono (by simp)).trans ((k12.mono (by simp)).trans ((k23.mono (by simp)).trans (k34.mono (by simp))))
  have b4 : Below C.w0.heap.size C.w0 w4 := hb3.trans (hb4.mono hb3.size)
  have b5 : Below C.w0.heap.size C.w0 w5 := b4.trans (hK.below b4.size (fun k hk => (hQ0.blk_ge k hk).1))
  have hbox1 : (w.setCell ⟨C.bx, 1, none⟩ vc').heap[C.bx]? = some (.cells #[.slice C.R C.js.length C.rc, vc', .pointer (some ⟨C.hb, 0, none⟩), .slice (some ⟨C.gq, 0, none⟩) C.ts.length C.ts.length, .int .i64 M.now, vs, ve] TX (0, 0)) := heap_setCell_same _ _ 1 _ _ _ h.box
  have hs34 : w3.heap.size ≤ w4.heap.size := hb4.size
  have hs45 := k45.size
  have hold : ∀ σ g, σ < C.ts.length → (rv σ).ownBlock = some g → g < w.heap.size := by
    intro σ g hσ hg
    obtain ⟨N, f, h1, h2⟩ := h.qs σ hσ
    exact (h1.blk_ge g (by simp [blk, hg])).2
  have hws : w.heap.size ≤ w3.heap.size := Nat.le_trans kx.size (Nat.le_trans k12.size k23.size)
  have hqne : ∀ g, v'.ownBlock = some g → g ≠ C.gq := by
    intro g hg he
    subst he
    obtain ⟨cq, hcq⟩ := hQ.row
    rcases hQ.ring with ⟨rfl, _⟩ | ⟨g', cur, rfl, _, hh, _⟩
    · simp [Value.ownBlock] at hg
    · simp only [Value.ownBlock, Option.some.injEq] at hg
      subst hg
      rw [hcq] at hh
      simp only [Option.some.injEq, Obj.cells.injEq] at hh
      exact absurd hh.2.1 (by decide)
  have hnewring : ∀ g, v'.ownBlock = some g → (rv τ).ownBlock = some g ∨ w.heap.size ≤ g := by
    intro g hg
    rcases hX g (by simp [blk, hg]) with hm | hm
    · simp only [blk, List.mem_cons, Option.mem_toList] at hm
      rcases hm with hm | hm
      · exact absurd hm (hqne g hg)
      · exact .inl hm
    · exact .inr (by omega)
  refine ⟨vc', fun q => if q = p then w3.heap.size else rb q, fun σ => if σ = τ then v' else rv σ, b5, k15.blk _ _ _ hbox1 (by decide), ?_, k05.row h.spn (by decide), k05.row h.ens (by decide), ?_, ?_, fun σ hσ => ?_, ?_, ?_, ?_⟩
  · rw [hd1]; exact hcom.kt k05 (by decide)
  · obtain ⟨X, c, h1, h2⟩ := hH
    obtain ⟨cs, hc⟩ := h.bl
    have hc3 := ((kx.mono (S' := [TX, THe, TTh]) (by simp)).trans ((k12.mono (by simp)).trans (k23.mono (by simp)))).blk _ _ _ hc (by decide)
    exact ⟨X, c, h1.kt ((k34.mono (S' := [TQu, TRi]) (by simp)).trans k45) (by decide) hb3 b5 hC.lb ⟨cs, hc3⟩, h2⟩
  · obtain ⟨cs, hc⟩ := h.bl
    exact ⟨cs, k05.blk _ _ _ hc (by decide)⟩
  · by_cases hσt : σ = τ
    · subst hσt
      simp only [if_true]
      refine ⟨N, f, ?_, hN⟩
      rw [q1, List.map_append, hmap, hl]
      simpa using hQ
    · simp only [if_neg hσt]
      obtain ⟨N', f', h1, h2⟩ := h.qs σ hσ
      rw [q2 σ hσt, hmap]
      refine ⟨N', f', ?_, h2⟩
      exact (h1.kt k04 (by decide)).other hK hF (by omega) hQ.row (fun g hg => h.qd σ τ g hσ hτ hσt hg)
  · intro a b g ha hb hab hg
    by_cases h1 : a = τ
    · subst h1
      simp only [if_true] at hg
      rw [if_neg (Ne.symm hab)]
      rcases hnewring g hg with h2 | h2
      · exact h.qd _ b g ha hb hab h2
      · intro h3
        have := hold b g hb h3; omega
    · rw [if_neg h1] at hg
      by_cases h2 : b = τ
      · subst h2
        rw [if_pos rfl]
        intro h3
        rcases hnewring g h3 with h4 | h4
        · exact h.qd a _ g ha hb hab hg h4
        · have := hold a g ha hg; omega
      · rw [if_neg h2]
        exact h.qd a b g ha hb hab hg
  · intro q hq hqk
    rw [e] at hq
    by_cases hqp : q = p
    · subst hqp
      rw [if_pos rfl, hlf]
      exact ⟨by have := hb3.size; omega, A, cc, k45.blk _ _ _ hnew (by decide), hcr⟩
    · rw [if_neg hqp]
      have hq' : q ∈ C.o.take M.m := by
        rcases List.mem_append.1 hq with hh | hh
        · exact hh
        · exact absurd (List.mem_singleton.1 hh) hqp
      exact (h.rs q hq' hqk).kt k05 (by decide)
  · intro q s hq hqk hs hsk hne
    rw [e] at hq hs
    have key : ∀ q, q ∈ C.o.take M.m ++ [p] → kO M.dn q < (jb C.js q).k → q ≠ p → q ∈ C.o.take M.m ∧ rb q < w.heap.size := by
      intro q hq hqk hqp
      have hq' : q ∈ C.o.take M.m := by
        rcases List.mem_append.1 hq with hh | hh
        · exact hh
        · exact absurd (List.mem_singleton.1 hh) hqp
      obtain ⟨A, cc, h1, h2⟩ := (h.rs q hq' hqk).is
      exact ⟨hq', (Array.getElem?_eq_some_iff.1 h1).1⟩
    by_cases h1 : q = p
    · subst h1
      rw [if_pos rfl, if_neg (Ne.symm hne)]
      have := (key s hs hsk (Ne.symm hne)).2
      omega
    · rw [if_neg h1]
      by_cases h2 : s = p
      · subst h2
        rw [if_pos rfl]
        have := (key q hq hqk h1).2
        omega
      · rw [if_neg h2]
        exact h.rd q s (key q hq hqk h1).1 hqk (key s hs hsk h2).1 hsk hne
end
end Go.Proofs.YtnhddnldebdmbaaGreatDoor
