/- An act that takes out. -/
import Derived.Test.YtebbpgokhelmdaaDo1
namespace Go.Proofs.Ytebbpgokhelmdaa
open Go.RowKit Go.Shelf
set_option linter.unusedVariables false
set_option linter.unusedSimpArgs false
attribute [local go_sem] Oper.semAt_some
set_option maxRecDepth 100000 in
set_option maxHeartbeats 4000000 in
theorem does_pop {w0 w : World} {B b bm c : Nat} {X Y : List Nat} {L : List It} (kind key which : Int) (h : Bz w0 w B b bm X c L Y L []) (hk : in64 kind) (hy : in64 key) (hw : in64 which) (hL : L.length ≤ 190) (hc : c ≤ 500) (hso : L.Pairwise (fun a b => a.k ≤ b.k))
    (hr : restI kind 5 = 3) : Calls Try.prog 13 #[.pointer (some ⟨b, 0, none⟩), .pointer (some ⟨bm, 0, none⟩), .agg #[.int .i64 kind, .int .i64 key], .int .i64 which] w (Goes w0 B b bm c L.length) := by
  have R1 := Lib.hid (fun W => rest_any kind 5 W hk (by omega) (by omega))
  obtain ⟨hr0, hr1⟩ := restI_bd kind 5 (by omega) (by omega)
  have hz := does_boxes kind key h
  have hsz := h.h.b.size
  have hlt := h.h.m.lt
  have HSO := Lib.hid hso
  have HLE := Lib.hid hL
  clear h hso hL
  generalize restI kind 5 = r at *
  subst hr
  refine (callsIn_wide (n := 9)).1 ?_
  refine callsIn_of_wp_marks Try.func13 rfl trivial ?_ rfl
  simp only [Try.ntmps13, List.size_toArray, List.length_cons, List.length_nil, Nat.reduceAdd, Nat.reduceSub, Array.replicate_succ, Array.replicate_zero, List.push_toArray, List.append_toArray, List.nil_append, List.cons_append]
  refine wpIn_wide.2 ?_
  go_upto_region 1 with (fail)
  generalize ((w.alloc (.cells #[.pointer (some ⟨bm, 0, none⟩)] 26)).alloc (.cells #[.int .i64 kind, .int .i64 key] 38)).alloc (.cells #[.bool false] 4) = W at *
  generalize hP : w.heap.size = P at hz hsz hlt ⊢
  have d5 := hz.at (k0 := P) (cs := #[.pointer (some ⟨bm, 0, none⟩)]) (t := 26) (by simp) 0
  have d60 := hz.at (k0 := P + 1) (cs := #[.int .i64 kind, .int .i64 key]) (t := 38) (by simp) 0
  have d61 := hz.at (k0 := P + 1) (cs := #[.int .i64 kind, .int .i64 key]) (t := 38) (by simp) 1
  obtain ⟨A, cap, c0', hcap, hmx, -, -⟩ := hz.h.m.ex
  have c0 := cell_of_row W bm 0 _ _ _ c0'
  simp at c0 d5 d60 d61
  have HZ := Lib.hid hz
  unfold maxLen at hmx
  clear hz c0' hP
  cases L with
  | nil => 
    have hd : decide (0 < ([] : List It).length) = false := by simp
    have hd2 : decide ((0 : Int) < ((([] : List It).length : Nat) : Int)) = false := by simp
    have PH := Lib.hid (HZ.out.nilH)
    clear HZ
    go_upto_region 12 with (first
      | (go_at_call 9; with_reducible refine (R1.out _).mono ?_; rintro e w1 ⟨rfl, rfl⟩)
      | (go_at_call 30; refine PH.out.mono ?_; rintro e w2 ⟨rfl, hz2⟩))
    have hz3 := hz2.add #[.int .i64 0, .int .i64 0] 31
    generalize hQ : w2.heap.size = Q at *
    generalize w2.alloc (.cells #[.int .i64 0, .int .i64 0] 31) = W1 at *
    clear hQ hz2
    have e5 := hz3.at (k0 := P) (cs := #[.pointer (some ⟨bm, 0, none⟩)]) (t := 26) (by simp) 0
    have i0 := hz3.at (k0 := Q) (cs := #[.int .i64 0, .int .i64 0]) (t := 31) (by simp) 0
    have i1 := hz3.at (k0 := Q) (cs := #[.int .i64 0, .int .i64 0]) (t := 31) (by simp) 1
    simp at e5 i0 i1
    have PR := Lib.hid ((hz3.later (below_drew W1)).nilR)
    clear hz3
    go_cut [] from 47 to 55 (fun wc => Bz w0 wc B b bm X c [] Y [] [(P + 1 + 1, .cells #[.bool true] 4 (0, 0))])
    case first =>
      refine wp_region_noPanic ?_
      go_region_with (go_at_call 33; refine PR.out.mono ?_; rintro e w3 ⟨rfl, hz4⟩; have f8 := hz4.fz (k0 := P + 1 + 1) (cs := #[.bool false]) (t := 4) (by simp) 0; have g8 := hz4.at (k0 := P + 1 + 1) (cs := #[.bool false]) (t := 4) (by simp) 0; have j0 := hz4.at (k0 := Q) (cs := #[.int .i64 0, .int .i64 0]) (t := 31) (by simp) 0; have j1 := hz4.at (k0 := Q) (cs := #[.int .i64 0, .int .i64 0]) (t := 31) (by simp) 1; simp at g8 j0 j1; have HZ4 := Lib.hid hz4; clear hz4)
      all_goals
        refine NoPanic.normal ?_
        go_wp2_with fail
        go_meet
        case rel => exact (HZ4.out.sub (K' := [(P + 1 + 1, .cells #[.bool false] 4 (0, 0))]) (by simp)).set1 (by omega) (by simp) (.bool true)
    case rest =>
      go_wp2
      have hc4 := hcut.at (k0 := P + 1 + 1) (cs := #[.bool true]) (t := 4) (by simp) 0
      simp at hc4
      exact ⟨.bool true, by simp [results, Try.f13, go_sem, hc4], rfl, _, _, c, _, by omega, by simp, by simp, hcut.h⟩
  | cons x L' => 
    have hd : decide (0 < (x :: L').length) = true := by simp
    have hd2 : decide ((0 : Int) < (((x :: L').length : Nat) : Int)) = true := by simp
    have PH := Lib.hid (HZ.out.popH)
    clear HZ
    go_upto_region 12 with (first
      | (go_at_call 9; with_reducible refine (R1.out _).mono ?_; rintro e w1 ⟨rfl, rfl⟩)
      | (go_at_call 30; refine PH.out.mono ?_; rintro e w2 ⟨rfl, hz2⟩))
    have hz3 := hz2.add #[.int .i64 x.k, .int .i64 x.w] 31
    generalize hQ : w2.heap.size = Q at *
    generalize w2.alloc (.cells #[.int .i64 x.k, .int .i64 x.w] 31) = W1 at *
    clear hQ hz2
    have e5 := hz3.at (k0 := P) (cs := #[.pointer (some ⟨bm, 0, none⟩)]) (t := 26) (by simp) 0
    have i0 := hz3.at (k0 := Q) (cs := #[.int .i64 x.k, .int .i64 x.w]) (t := 31) (by simp) 0
    have i1 := hz3.at (k0 := Q) (cs := #[.int .i64 x.k, .int .i64 x.w]) (t := 31) (by simp) 1
    simp at e5 i0 i1
    have PR := Lib.hid ((hz3.later (below_drew W1)).popR)
    clear hz3
    go_cut [] from 47 to 55 (fun wc => Bz w0 wc B b bm X c L' Y L' [(P + 1 + 1, .cells #[.bool true] 4 (0, 0))])
    case first =>
      refine wp_region_noPanic ?_
      go_region_with (go_at_call 33; refine PR.out.mono ?_; rintro e w3 ⟨rfl, hz4⟩; have f8 := hz4.fz (k0 := P + 1 + 1) (cs := #[.bool false]) (t := 4) (by simp) 0; have g8 := hz4.at (k0 := P + 1 + 1) (cs := #[.bool false]) (t := 4) (by simp) 0; have j0 := hz4.at (k0 := Q) (cs := #[.int .i64 x.k, .int .i64 x.w]) (t := 31) (by simp) 0; have j1 := hz4.at (k0 := Q) (cs := #[.int .i64 x.k, .int .i64 x.w]) (t := 31) (by simp) 1; simp at g8 j0 j1; have HZ4 := Lib.hid hz4; clear hz4)
      all_goals
        refine NoPanic.normal ?_
        go_wp2_with fail
        go_meet
        case rel => exact (HZ4.out.sub (K' := [(P + 1 + 1, .cells #[.bool false] 4 (0, 0))]) (by simp)).set1 (by omega) (by simp) (.bool true)
    case rest =>
      go_wp2
      have hc4 := hcut.at (k0 := P + 1 + 1) (cs := #[.bool true]) (t := 4) (by simp) 0
      simp at hc4
      exact ⟨.bool true, by simp [results, Try.f13, go_sem, hc4], rfl, _, _, c, _, by omega, by simp; omega, (List.pairwise_cons.1 HSO.out).2, hcut.h⟩
end Go.Proofs.Ytebbpgokhelmdaa
