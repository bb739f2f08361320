/- A heap's Drain. -/
import Derived.Test.YtebbpgokhelmdaaHHM
import Derived.Test.YtebbpgokhelmdaaHI
import Derived.Sort.LoopGhostIn
namespace Go.Proofs.Ytebbpgokhelmdaa
open Go.RowKit Go.Shelf
set_option linter.unusedVariables false
attribute [local go_sem] Oper.semAt_some

def valM (x : It) : Value := .agg #[.int .i64 x.k, .int .i64 x.w]
theorem drain_anyM (p : Option Addr) (w : World) :
    Calls Try.prog 34 #[.pointer p] w fun e w' => e = .returned (.func (.func 44) #[] #[.pointer (some ⟨w.heap.size, 0, none⟩)]) ∧ w' = w.alloc (.cells #[.pointer p] 33) := by
  have hmf : ∀ (fn : Fn) (first cap : Array Value) (w : World), (Instr.makeFunc fn first cap).run Try.prog w = .ok (.func fn first cap) w := fun _ _ _ _ => rfl
  go_enter Try.func34, Try.ntmps34
  go_wp2
  go_ret
  exact ⟨rfl, rfl⟩
theorem HsM.mem {B : Nat} {w : World} {b c : Nat} {X : List Nat} {L : List It} (h : HsM B w b X c L) : b ∈ X := by
  obtain ⟨⟨v, l, h1, rfl, h2⟩, h3⟩ := h
  simp [blk]
theorem HsM.same {B : Nat} {w w' : World} {b c : Nat} {X : List Nat} {L : List It} (h : HsM B w b X c L) (hs : ∀ k ∈ X, w'.heap[k]? = w.heap[k]?) : HsM B w' b X c L := by
  obtain ⟨⟨v, l, h1, rfl, h2⟩, h3⟩ := h
  refine ⟨⟨v, l, ⟨h1.hB, (hs b (by simp [blk])).trans h1.is, ?_, h1.ok, h1.few, h1.lim⟩, rfl, h2⟩, h3⟩
  obtain ⟨r1, r2⟩ := h1.row
  refine ⟨r1, ?_⟩
  rcases r2 with r2 | ⟨g, cap, cur, hv, hg, hh, r⟩
  · exact .inl r2
  · subst hv
    exact .inr ⟨g, cap, cur, rfl, hg, (hs g (by simp [blk, Value.ownBlock])).trans hh, r⟩
/-- What the iterator holds on to. -/
def DHM (B b c Bn : Nat) (X : List Nat) (r : List It) (W : World) : Prop := HsM B W b X c r ∧ Boxed W Bn 33 (.pointer (some ⟨b, 0, none⟩))
theorem DHM.same {B b c Bn : Nat} {X : List Nat} {r : List It} {W W' : World} (h : DHM B b c Bn X r W) (hs : SameB (Bn :: X) W W') : DHM B b c Bn X r W' :=
  ⟨h.1.same (fun k hk => hs k (by simp [hk])), (hs Bn (by simp)).trans h.2⟩
set_option maxRecDepth 100000 in
set_option maxHeartbeats 4000000 in
theorem drain_seqM {B b c Bn : Nat} {X : List Nat} (L : List It) (n : Nat) (hn1 : 1 ≤ n) (hBn : Bn ∉ X) : SeqD valM n 44 #[.pointer (some ⟨Bn, 0, none⟩)] (Bn :: X) (DHM B b c Bn X) L := by
  intro l J Jx W hH hJY hY hJxY hJ
  refine callsIn_of_wp Try.func44 rfl trivial ?_ rfl
  simp only [Try.ntmps44, List.size_toArray, List.length_cons, List.length_nil, Nat.reduceAdd, Nat.reduceSub, Array.replicate_succ, Array.replicate_zero, List.push_toArray, List.append_toArray, List.nil_append, List.cons_append]
  gi_wp2
  gi_loopg [4] (L.length + 1) (fun m s4 wr => ∃ (pre r : List It), r.length < m ∧ Hid (L = pre ++ r) ∧ Hid (J pre wr) ∧ Hid (DHM B b c Bn X r wr))
  case atStart => exact ⟨[], L, by omega, Lib.hid rfl, Lib.hid hJ, Lib.hid hH⟩
  case round =>
    obtain ⟨pre, r, hm, hL, hJ1, hD⟩ := hrel
    clear hJ hH
    have b1 := Boxed.cell hD.out.2
    cases r with
    | nil =>
      have PN := Lib.hid (hnilM hD.out.1).1
      gi_wp2_with (refine ⟨trivial, ?_⟩; gi_at_call 30; refine (callsIn_wide.2 PN.out).mono ?_; rintro e w1 ⟨rfl, hB1⟩; have hB1 := hB1.alloc hB1.size (.cells #[.int .i64 0, .int .i64 0] 31))
      refine ⟨(fun f hf => (by cases hf)), ?_⟩
      gi_wp2
      refine bodyPost_ret (results_none rfl _ _ _) rfl ?_
      refine ⟨⟨_, rfl⟩, .inl ⟨?_, hD.out.same (fun k hk => hB1.block k ?_)⟩⟩
      · have e := hL.out
        rw [List.append_nil] at e
        rw [e]
        exact hJY _ _ _ hJ1.out (Kept.of _ hB1)
      · rcases List.mem_cons.1 hk with rfl | hk
        · exact (Array.getElem?_eq_some_iff.1 hD.out.2).1
        · exact (hD.out.1.ge k hk).2
    | cons x r =>
      have PP := Lib.hid (hpopM hD.out.1)
      have BX := hD.out.2
      have hbn : Bn < wr.heap.size := (Array.getElem?_eq_some_iff.1 BX).1
      have hXl := fun k hk => (hD.out.1.ge k hk).2
      gi_wp2_with (refine ⟨trivial, ?_⟩; gi_at_call 30; refine (callsIn_wide.2 PP.out).mono ?_; rintro e w1 ⟨rfl, hH1, hK1⟩; have hKY : Kept (Bn :: X) wr w1 := (hK1.mono (fun k hk => List.mem_cons_of_mem _ hk)); have hB1 : Boxed w1 Bn 33 (.pointer (some ⟨b, 0, none⟩)) := ((hK1.block Bn hbn hBn).trans BX); have hb3 : Below w1.heap.size w1 (w1.alloc (.cells #[.int .i64 x.k, .int .i64 x.w] 31)) := ((Below.refl _ _).alloc (Nat.le_refl _) _); have hJ2 := hJY _ _ _ hJ1.out (hKY.later hb3); have hD2 : DHM B b c Bn X r (w1.alloc (.cells #[.int .i64 x.k, .int .i64 x.w] 31)) := ⟨hH1.later hb3, (hb3.block Bn (Array.getElem?_eq_some_iff.1 hB1).1).trans hB1⟩; obtain ⟨fn, tmps, assign, body, hy, hR⟩ := hY pre x r _ hJ2 hD2 hL.out; simp only [valM] at hy)
      refine hR.mono ?_
      rintro e W3 (⟨rfl, hJ3, hS3⟩ | ⟨rfl, hJx3, hS3⟩)
      · have hD3 := Lib.hid (hD2.same hS3)
        have HJ3 := Lib.hid hJ3
        have HL3 : Hid (L = (pre ++ [x]) ++ r) := Lib.hid (by rw [hL.out]; simp)
        clear hJ3 hS3 hD2 hJ2 hy hR
        gi_wp2
        gi_roundg (r.length + 1)
        case measure => simp at hm; omega
        case rel => exact ⟨pre ++ [x], r, Nat.lt_succ_self _, HL3, HJ3, hD3⟩
      · gi_wp2
        refine bodyPost_ret (results_none rfl _ _ _) rfl ?_
        exact ⟨⟨_, rfl⟩, .inr ⟨pre, x, r, hL.out, hJx3, hD2.same hS3⟩⟩
end Go.Proofs.Ytebbpgokhelmdaa
