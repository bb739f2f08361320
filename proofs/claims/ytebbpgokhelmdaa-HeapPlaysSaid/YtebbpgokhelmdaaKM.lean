/- A heap of the call's own: what its field for how many came holds tells nothing. -/
import Derived.Test.YtebbpgokhelmdaaHJM
namespace Go.Proofs.Ytebbpgokhelmdaa
open Go.RowKit Go.Shelf
set_option linter.unusedVariables false
attribute [local go_sem] Oper.semAt_some

structure HoM (B : Nat) (w : World) (b : Nat) (X : List Nat) (k c : Nat) (L : List It) : Prop where
  ex : ∃ v l, HBM B w b v k l ∧ blk b v = X ∧ Tells keyM l c L
  le : L.length ≤ 1000000
section
variable {B : Nat} {w w' : World} {b k c : Nat} {X : List Nat} {L : List It}
theorem HoM.kept {Y : List Nat} (h : HoM B w b X k c L) (hk : Kept Y w w') (hx : ∀ j ∈ X, j ∉ Y) : HoM B w' b X k c L := by
  obtain ⟨⟨v, l, h1, rfl, h2⟩, h3⟩ := h
  exact ⟨⟨v, l, h1.kept hk hx, rfl, h2⟩, h3⟩
theorem HoM.later (h : HoM B w b X k c L) (hb : Below w.heap.size w w') : HoM B w' b X k c L := h.kept (Kept.of [] hb) (by simp)
theorem HoM.ge (h : HoM B w b X k c L) : ∀ j ∈ X, B ≤ j ∧ j < w.heap.size := by
  obtain ⟨⟨v, l, h1, rfl, h2⟩, h3⟩ := h
  exact h1.blk_ge
theorem HoM.mem (h : HoM B w b X k c L) : b ∈ X := by
  obtain ⟨⟨v, l, h1, rfl, h2⟩, h3⟩ := h
  simp [blk]
theorem HoM.same (h : HoM B w b X k c L) (hs : ∀ j ∈ X, w'.heap[j]? = w.heap[j]?) : HoM B w' b X k c L := by
  obtain ⟨⟨v, l, h1, rfl, h2⟩, h3⟩ := h
  refine ⟨⟨v, l, ⟨h1.hB, (hs b (by simp [blk])).trans h1.is, ?_, h1.ok, h1.few, h1.lim⟩, rfl, h2⟩, h3⟩
  obtain ⟨r1, r2⟩ := h1.row
  refine ⟨r1, ?_⟩
  rcases r2 with r2 | ⟨g, cap, cur, hv, hg, hh, r⟩
  · exact .inl r2
  · subst hv
    exact .inr ⟨g, cap, cur, rfl, hg, (hs g (by simp [blk, Value.ownBlock])).trans hh, r⟩
theorem hpopO {x : It} (h : HoM B w b X k c (x :: L)) : Calls Try.prog 30 #[.pointer (some ⟨b, 0, none⟩)] w fun e w' => e = .returned (.tuple #[.agg #[.int .i64 x.k, .int .i64 x.w], .bool true]) ∧ HoM B w' b X k c L ∧ Kept X w w' := by
  obtain ⟨⟨v, l, h1, rfl, h2⟩, h3⟩ := h
  have hl := h2.length
  obtain ⟨p, hp⟩ : ∃ p, l[0]? = some p := ⟨l[0]'(by rw [hl]; simp), List.getElem?_eq_getElem _⟩
  obtain ⟨r, hr⟩ := h2.head hp
  injection hr with e1 e2
  subst e1
  refine (pop_someM w h1 h2.hp hp (by rw [hl]; exact h3)).mono ?_
  rintro e w' ⟨rfl, v', l', hP, hH, hB, hK, hb⟩
  exact ⟨rfl, ⟨⟨v', l', hB, hb, h2.pop hp hP hH⟩, by simp at h3; omega⟩, hK⟩
theorem hnilO (h : HoM B w b X k c []) : Calls Try.prog 30 #[.pointer (some ⟨b, 0, none⟩)] w (Told (.tuple #[.agg #[.int .i64 0, .int .i64 0], .bool false]) w) := by
  obtain ⟨⟨v, l, h1, rfl, h2⟩, h3⟩ := h
  have hl : l = [] := List.eq_nil_of_length_eq_zero h2.length
  subst hl
  exact pop_noneM w h1
end
/-- What the iterator holds on to. -/
def DHo (B b k c Bn : Nat) (X : List Nat) (r : List It) (W : World) : Prop := HoM B W b X k c r ∧ Boxed W Bn 33 (.pointer (some ⟨b, 0, none⟩))
theorem DHo.same {B b k c Bn : Nat} {X : List Nat} {r : List It} {W W' : World} (h : DHo B b k c Bn X r W) (hs : SameB (Bn :: X) W W') : DHo B b k c Bn X r W' :=
  ⟨h.1.same (fun k hk => hs k (by simp [hk])), (hs Bn (by simp)).trans h.2⟩
set_option maxRecDepth 100000 in
set_option maxHeartbeats 4000000 in
theorem drain_seqO {B b k c Bn : Nat} {X : List Nat} (L : List It) (n : Nat) (hn1 : 1 ≤ n) (hBn : Bn ∉ X) : SeqD valM n 44 #[.pointer (some ⟨Bn, 0, none⟩)] (Bn :: X) (DHo B b k c Bn X) L := by
  intro l J Jx W hH hJY hY hJxY hJ
  refine callsIn_of_wp Try.func44 rfl trivial ?_ rfl
  simp only [Try.ntmps44, List.size_toArray, List.length_cons, List.length_nil, Nat.reduceAdd, Nat.reduceSub, Array.replicate_succ, Array.replicate_zero, List.push_toArray, List.append_toArray, List.nil_append, List.cons_append]
  gi_wp2
  gi_loopg [4] (L.length + 1) (fun m s4 wr => ∃ (pre r : List It), r.length < m ∧ Hid (L = pre ++ r) ∧ Hid (J pre wr) ∧ Hid (DHo B b k c Bn X r wr))
  case atStart => exact ⟨[], L, by omega, Lib.hid rfl, Lib.hid hJ, Lib.hid hH⟩
  case round =>
    obtain ⟨pre, r, hm, hL, hJ1, hD⟩ := hrel
    clear hJ hH
    have b1 := Boxed.cell hD.out.2
    cases r with
    | nil =>
      have PN := Lib.hid (hnilO hD.out.1)
      gi_wp2_with (refine ⟨trivial, ?_⟩; gi_at_call 30; refine (callsIn_wide.2 PN.out).mono ?_; rintro e w1 ⟨rfl, hB1⟩; have hB1 := hB1.alloc hB1.size (.cells #[.int .i64 0, .int .i64 0] 31))
      refine ⟨(fun f hf => (by cases hf)), ?_⟩
      gi_wp2
      refine bodyPost_ret (results_none rfl _ _ _) rfl ?_
      refine ⟨⟨_, rfl⟩, .inl ⟨?_, hD.out.same (fun k hk => hB1.block k ?_)⟩⟩
      · have e := hL.out
        rw [List.append_nil] at e
        rw [e]
        exact hJY _ _ _ hJ1.out (Kept.of _ hB1)
      · rcases List.mem_cons.1 hk with rfl | hk
        · exact (Array.getElem?_eq_some_iff.1 hD.out.2).1
        · exact (hD.out.1.ge k hk).2
    | cons x r =>
      have PP := Lib.hid (hpopO hD.out.1)
      have BX := hD.out.2
      have hbn : Bn < wr.heap.size := (Array.getElem?_eq_some_iff.1 BX).1
      have hXl := fun k hk => (hD.out.1.ge k hk).2
      gi_wp2_with (refine ⟨trivial, ?_⟩; gi_at_call 30; refine (callsIn_wide.2 PP.out).mono ?_; rintro e w1 ⟨rfl, hH1, hK1⟩; have hKY : Kept (Bn :: X) wr w1 := (hK1.mono (fun k hk => List.mem_cons_of_mem _ hk)); have hB1 : Boxed w1 Bn 33 (.pointer (some ⟨b, 0, none⟩)) := ((hK1.block Bn hbn hBn).trans BX); have hb3 : Below w1.heap.size w1 (w1.alloc (.cells #[.int .i64 x.k, .int .i64 x.w] 31)) := ((Below.refl _ _).alloc (Nat.le_refl _) _); have hJ2 := hJY _ _ _ hJ1.out (hKY.later hb3); have hD2 : DHo B b k c Bn X r (w1.alloc (.cells #[.int .i64 x.k, .int .i64 x.w] 31)) := ⟨hH1.later hb3, (hb3.block Bn (Array.getElem?_eq_some_iff.1 hB1).1).trans hB1⟩; obtain ⟨fn, tmps, assign, body, hy, hR⟩ := hY pre x r _ hJ2 hD2 hL.out; simp only [valM] at hy)
      refine hR.mono ?_
      rintro e W3 (⟨rfl, hJ3, hS3⟩ | ⟨rfl, hJx3, hS3⟩)
      · have hD3 := Lib.hid (hD2.same hS3)
        have HJ3 := Lib.hid hJ3
        have HL3 : Hid (L = (pre ++ [x]) ++ r) := Lib.hid (by rw [hL.out]; simp)
        clear hJ3 hS3 hD2 hJ2 hy hR
        gi_wp2
        gi_roundg (r.length + 1)
        case measure => simp at hm; omega
        case rel => exact ⟨pre ++ [x], r, Nat.lt_succ_self _, HL3, HJ3, hD3⟩
      · gi_wp2
        refine bodyPost_ret (results_none rfl _ _ _) rfl ?_
        exact ⟨⟨_, rfl⟩, .inr ⟨pre, x, r, hL.out, hJx3, hD2.same hS3⟩⟩
end Go.Proofs.Ytebbpgokhelmdaa
