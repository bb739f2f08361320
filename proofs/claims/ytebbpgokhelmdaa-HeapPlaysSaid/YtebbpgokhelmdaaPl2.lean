/- HeapPlays. -/
import Derived.Test.YtebbpgokhelmdaaPl1
import Derived.Deep.CutBlock
namespace Go.Proofs.Ytebbpgokhelmdaa
open Go.RowKit Go.Shelf
set_option linter.unusedVariables false
set_option linter.unusedSimpArgs false
attribute [local go_sem] Oper.semAt_some
theorem peek_both {B b c : Nat} {w : World} {X : List Nat} {L : List It} (h : HsM B w b X c L) : Calls Try.prog 15 #[.pointer (some ⟨b, 0, none⟩)] w (Told (.tuple #[.agg #[.int .i64 (L.headD ⟨0, 0⟩).k, .int .i64 (L.headD ⟨0, 0⟩).w], .bool (decide (0 < L.length))]) w) := by
  cases L with
  | nil => exact (hnilM h).2
  | cons x L => exact hpeekM h
structure Pl (w wr : World) (B1 b : Nat) (X : List Nat) (c : Nat) (L : List It) (Y : List Nat) (N : Nat) : Prop where
  h : BM w wr B1 b B1 X c L Y L
  c : c ≤ N
  n : L.length ≤ N
  s : L.Pairwise (fun a b => a.k ≤ b.k)
section
variable {w wr w' : World} {B1 b c N bs : Nat} {X Y Z Z' : List Nat} {L L' : List It}
theorem Pl.later (h : Pl w wr B1 b X c L Y N) (hb : Below wr.heap.size wr w') : Pl w w' B1 b X c L Y N := ⟨h.h.later hb, h.c, h.n, h.s⟩
theorem Pl.seen (h : Pl w wr B1 b X c L Y N) (hk : Kept Z wr w') (hZ : ∀ k ∈ Z, k ∉ X ∧ k ∉ Y ∧ w.heap.size ≤ k) : Pl w w' B1 b X c L Y N :=
  ⟨⟨h.h.h.kept hk (fun k hx hz => (hZ k hz).1 hx), h.h.m.kept hk (fun k hx hz => (hZ k hz).2.1 hx), h.h.dis, h.h.b.trans (hk.below h.h.b.size (fun k hz => (hZ k hz).2.2)), h.h.le⟩, h.c, h.n, h.s⟩
/-- The document's heap, as it is read. -/
theorem Pl.doc (h : Pl w wr B1 b X c L Y N) : ∃ A cap, wr.cell? ⟨B1, 0, none⟩ = some (.slice A L.length cap) ∧ L.length ≤ cap ∧ cap ≤ maxLen ∧ RowOfM wr A L := by
  obtain ⟨A, cap, c0', h1, h2, h3, -⟩ := h.h.m.ex
  have c0 := cell_of_row wr B1 0 _ _ _ c0'
  simp at c0
  exact ⟨A, cap, c0, h1, h2, h3⟩
theorem SeenB.read {W : World} (h : SeenB bs W bs Z L) : ∃ A cap, W.cell? ⟨bs, 0, none⟩ = some (.slice A L.length cap) ∧ L.length ≤ cap ∧ cap ≤ maxLen ∧ (∀ (i : Nat) (x : It), L[i]? = some x → ∃ g, A = some ⟨g, 0, none⟩ ∧ W.cell? ⟨g, i * 2, none⟩ = some (.int .i64 x.k) ∧ W.cell? ⟨g, i * 2 + 1, none⟩ = some (.int .i64 x.w)) := by
  obtain ⟨v, h1, h2, -⟩ := h.ex
  have c0 := cell_of_row W bs 0 _ _ _ h1
  simp at c0
  obtain ⟨A, cap, rfl, h3, h4⟩ := own_len h2
  refine ⟨A, cap, c0, h3, h4, fun i x hx => ?_⟩
  have hi := (List.getElem?_eq_some_iff.1 hx).1
  obtain ⟨g, cap', e, -, -⟩ := own_form h2 (by omega)
  cases e
  obtain ⟨g0, g1⟩ := itC_get hx
  exact ⟨g, rfl, own_cell h2 rfl g0, own_cell h2 rfl g1⟩
end
set_option maxRecDepth 100000 in
set_option maxHeartbeats 4000000 in
theorem hplays_walk (A : Option Addr) (n cap : Nat) (z : List Int) (A1 : Option Addr) (n1 cap1 : Nat) (w : World) (hr : IntRow w A n cap z) (ha : ActRow w A1 n1) (hn1 : n1 ≤ maxLen) : Calls Try.prog 3 #[.slice A n cap, .slice A1 n1 cap1] w (OkB w) := by
  obtain ⟨hR, hn, h1, h2⟩ := hr.row
  have RR := Lib.hid hR
  have AR := Lib.hid ha
  clear hR hr ha
  have AW := Lib.hid awake_any
  unfold maxLen at hn1
  go_enter Try.func3, Try.ntmps3
  go_upto_block 0 with (first
    | (go_at_call 8; (with_reducible refine (AW.out _).mono ?_); rintro e w1 ⟨rfl, hB1⟩))
  obtain ⟨f, hf⟩ : ∃ f : Nat → Int, f = fun j => restI ((z.take n).getD j 0) 6 := ⟨_, rfl⟩
  have hB2 : Below w.heap.size w (w1.alloc (.cells #[.slice none 0 0] 28)) := hB1.alloc hB1.size _
  have hP0 : P1 w w1.heap.size f 0 (.slice none 0 0) (w1.alloc (.cells #[.slice none 0 0] 28)) :=
    ⟨⟨[w1.heap.size], ⟨⟨none, 0, heap_alloc_new _ _, Nat.le_refl _, by unfold maxLen; omega, fun i x hx => by simp [its, allInM] at hx, .inl ⟨rfl, rfl, rfl⟩⟩, Nat.le_refl _⟩, fun g hg => by simp [Value.ownBlock] at hg⟩, ⟨rfl, .inl ⟨rfl, rfl⟩⟩, hB2, hB1.size⟩
  have hBw := hB1.size
  clear hB1 hB2
  generalize w1.alloc (.cells #[.slice none 0 0] 28) = W at *
  generalize w1.heap.size = B1 at *
  have HP0 := Lib.hid hP0
  have HF := Lib.hid hf
  have HN := Lib.hid hn
  clear hP0 hf hn
  go_cut [6, 8, 9] from 20 to 44 (fun s6 s8 s9 wc => ∃ m, m ≤ 12 ∧ P1 w B1 f m s6 wc)
  case first =>
    go_wp2_with fail
    go_loopw [6, 8, 9] (fun v6 i s9 wr => ∃ (k : Nat) (v : Value), v = v6 ∧ k ≤ 12 ∧ i = .int .i64 k ∧ Hid (k ≤ n) ∧ Hid (P1 w B1 f k v wr)) (fun v6 i s9 _ => 12 - (intOf i).toNat)
    case atStart => exact ⟨0, _, rfl, by omega, rfl, Lib.hid (by omega), HP0⟩
    case round =>
      obtain ⟨k, v6, rfl, hk, rfl, hkn, hP⟩ := hrel
      by_cases hlt : k < n
      · by_cases hlt2 : k < 12
        · have hi1 : (k : Int) < (n : Int) := by omega
          have hi2 : (k : Int) < 12 := by omega
          have hk0 : (0 : Int) ≤ (k : Int) := by omega
          obtain ⟨x, hx⟩ : ∃ x, (z.take n)[k]? = some x := ⟨(z.take n)[k]'(by rw [HN.out]; exact hlt), List.getElem?_eq_getElem _⟩
          obtain ⟨rb, ro, rfl, hrl, hox, x0⟩ := RR.out.later hP.out.b k x hx
          have hfk : f k = restI x 6 := by rw [HF.out]; simp [List.getD_eq_getElem?_getD, hx]
          have R1 := Lib.hid (fun W => rest_any x 6 W hox (by omega) (by omega))
          obtain ⟨g0, g1⟩ := restI_bd x 6 (by omega) (by omega)
          obtain ⟨q, hq⟩ : ∃ q, restI x 6 = q := ⟨_, rfl⟩
          rw [hq] at R1 g0 g1 hfk
          obtain ⟨y, hy⟩ : ∃ y, -1 - (k : Int) = y := ⟨_, rfl⟩
          have hwr : IntKind.i64.wrap (-1 - (k : Int)) = y := by rw [IntKind.wrap_i64]; omega
          have HX := Lib.hid (show okM ⟨f k, -1 - (k : Int)⟩ from ⟨by rw [hfk]; unfold in64; simp; omega, by unfold in64; simp; omega⟩)
          have HFK := Lib.hid hfk
          have HY := Lib.hid hy
          clear hq hy hfk hx hox
          go_upto_region 8 with (go_at_call 9; (with_reducible refine (R1.out _).mono ?_); rintro e w2 ⟨rfl, rfl⟩)
          have b1 : Below wr.heap.size wr (wr.alloc (.cells #[.int .i64 q, .int .i64 y] 31)) := (Below.refl _ _).alloc (Nat.le_refl _) _
          have hP1 := hP.out.later b1
          have hp9 : (wr.alloc (.cells #[.int .i64 q, .int .i64 y] 31)).heap[wr.heap.size]? = some (.cells #[.int .i64 q, .int .i64 y] 31 (0, 0)) := heap_alloc_new _ _
          have hown := hP.out.row.lt
          generalize wr.heap.size = p9 at *
          generalize wr.alloc (.cells #[.int .i64 q, .int .i64 y] 31) = W1 at *
          have i0 := cell_of_row W1 p9 0 _ _ _ hp9
          have i1 := cell_of_row W1 p9 1 _ _ _ hp9
          simp at i0 i1
          have hpl := (Array.getElem?_eq_some_iff.1 hp9).1
          have b2 : Below W1.heap.size W1 (W1.alloc (.cells #[.int .i64 q, .int .i64 y] 31)) := (Below.refl _ _).alloc (Nat.le_refl _) _
          have hP2 := Lib.hid (hP1.later b2)
          have hp9' := Lib.hid ((b2.block p9 hpl).trans hp9)
          have hBl := hP1.b.size
          have HOL := Lib.hid hown
          have HBB := Lib.hid (show B1 ≤ W1.heap.size from by obtain ⟨Y, m1, -⟩ := hP1.ex; exact Nat.le_of_lt m1.lt)
          clear hP hP1 hp9 b1 b2 hown
          go_wp2_with (first
            | (refine wpList_appN rfl _ _ rfl B1 v6 k (itC (its f k)) rfl hP2.out.row ⟨W1.heap.size, 0, none⟩ [.int .i64 q, .int .i64 y] rfl rfl (it_new W1 ⟨q, y⟩) (by simp [Value.oneCell']) (by omega) (by have := HBB.out; simp; omega) ?_
               intro v2 w2 ho2 hg2 hor2
               have j := ((kept_grown hg2 (X := v6.ownBlock.toList) (fun k hk => by simp [hk])).block p9 (by simp; omega) (fun hm => by have := HOL.out p9 (by simpa using hm); omega)).trans hp9'.out
               have j0 := cell_of_row w2 p9 0 _ _ _ j
               have j1 := cell_of_row w2 p9 1 _ _ _ j
               simp at j0 j1
               have PB := hP2.out.app (v' := v2) (w' := w2) (by rw [HFK.out, HY.out]; exact ho2) hg2 hor2
               have PP := PB.push hBw HX.out (by omega)
               rw [HFK.out, HY.out] at PP
               have PPH := Lib.hid PP
               clear PP PB ho2 hg2 hor2 j)
            | (go_at_call 10; refine PPH.out.mono ?_; rintro e w3 ⟨rfl, hP3⟩; have HP3 := Lib.hid hP3; clear hP3))
          all_goals go_roundw
          case rel => exact ⟨k + 1, _, rfl, by omega, by go_num, Lib.hid (by omega), HP3⟩
          case measure => simp [intOf] <;> omega
        · have hi1 : (k : Int) < (n : Int) := by omega
          have hi2 : ¬ (k : Int) < 12 := by omega
          go_wp2
          go_meet
          case rel => exact ⟨k, hk, hP.out⟩
      · have hi1 : ¬ (k : Int) < (n : Int) := by omega
        go_wp2
        go_meet
        case rel => exact ⟨k, hk, hP.out⟩
  case rest =>
    obtain ⟨m, hm, hP⟩ := hcut
    have HP := Lib.hid hP
    have hokm : ∀ x ∈ its f m, okM x := by
      intro x hx
      simp only [its, List.mem_map, List.mem_range] at hx
      obtain ⟨j, hj, rfl⟩ := hx
      rw [HF.out]
      obtain ⟨g0, g1⟩ := restI_bd ((z.take n).getD j 0) 6 (by omega) (by omega)
      exact ⟨by unfold in64; simp only; omega, by unfold in64; simp only; omega⟩
    obtain ⟨A6, cap6, rfl, hc61, hc62⟩ := own_len hP.row
    have NW := Lib.hid (HP.out.new hokm (by omega) rfl hc61 hc62)
    clear hP HP0 RR HN hokm HF
    go_upto_block 2 with (go_at_call 11; refine NW.out.mono ?_; rintro e w2 ⟨rfl, X0, Y0, hBM⟩)
    have hPl : Pl w w2 B1 wc.heap.size X0 m (allInM (its f m)) Y0 12 := ⟨hBM, hm, by rw [allIts_len]; exact hm, allIts_sort _ _⟩
    have HPl := Lib.hid hPl
    clear NW HP hBM hPl
    generalize wc.heap.size = b at *
    generalize allInM (its f m) = L0 at *
    go_wp2_with fail
    go_loopw [4, 11, 12, 13, 14, 15, 16] (fun s4 i s12 s13 s14 s15 s16 wr => ∃ (k : Nat) (X : List Nat) (c : Nat) (L : List It) (Y : List Nat), k ≤ 60 ∧ i = .int .i64 k ∧ Hid (k ≤ n1) ∧ Hid (Pl w wr B1 b X c L Y (12 + k))) (fun s4 i s12 s13 s14 s15 s16 _ => 60 - (intOf i).toNat)
    case atStart => exact ⟨0, X0, m, L0, Y0, by omega, rfl, Lib.hid (by omega), HPl⟩
    case round =>
      obtain ⟨k, X, c, L, Y, hk, rfl, hkn, hP⟩ := hrel
      clear HPl
      by_cases hlt : k < n1
      · by_cases hlt2 : k < 60
        · have hi1 : (k : Int) < (n1 : Int) := by omega
          have hi2 : (k : Int) < 60 := by omega
          have hk0 : (0 : Int) ≤ (k : Int) := by omega
          obtain ⟨ab, ao, kd, ky, rfl, hal, hkd, hky, a0, a1⟩ := AR.out.later hP.out.h.b k hlt
          have DO := Lib.hid (does_any kd ky k hP.out.h hkd hky (by unfold in64; omega) (by have := hP.out.n; omega) (by have := hP.out.c; omega) hP.out.s)
          have hcc := Lib.hid hP.out.c
          have hnn := Lib.hid hP.out.n
          go_upto_region 15 with (go_at_call 13; refine DO.out.mono ?_; rintro e w3 ⟨rfl, X2, Y2, c2, L2, hc2, hL2, hs2, hBM2⟩)
          have hP2 : Pl w w3 B1 b X2 c2 L2 Y2 (12 + (k + 1)) := ⟨hBM2, by have := hcc.out; omega, by have := hnn.out; omega, hs2⟩
          clear DO hP hBM2 hs2 hcc hnn hc2 hL2 a0 a1
          obtain ⟨Ad, capd, cd, hd1, hd2, hRd⟩ := hP2.doc
          unfold maxLen at hd2
          have LN := Lib.hid (fun k => show Calls Try.prog 14 #[.pointer (some ⟨b, 0, none⟩)] (w3.drewN k) fun e w' => e = .returned (.int .i64 (L2.length : Int)) ∧ w' = w3.drewN k from (hlenM ((hP2.later (below_drewN' w3 k)).h.h)).mono fun e w' h => ⟨h.1, h.2.symm⟩)
          have HP2 := Lib.hid hP2
          clear hP2 hRd
          go_quiet ((go_at_call 14; refine Calls.quiet_of_same (LN.out _)))
          have hP3 := HP2.out.later (below_drewN' w3 nq)
          clear HP2 LN cd hd1 hd2
          generalize w3.drewN nq = w4 at *
          have PK := Lib.hid (peek_both hP3.h.h)
          obtain ⟨xh, hxh⟩ : ∃ xh, L2.headD ⟨0, 0⟩ = xh := ⟨_, rfl⟩
          obtain ⟨ib, hib⟩ : ∃ ib, decide (0 < L2.length) = ib := ⟨_, rfl⟩
          obtain ⟨nn, hnn⟩ : ∃ nn, L2.length = nn := ⟨_, rfl⟩
          rw [hxh, hib] at PK
          have HIB := Lib.hid hib
          have HNN := Lib.hid hnn
          clear hib hnn
          have HXH := Lib.hid hxh
          have HP3 := Lib.hid hP3
          clear hxh hP3
          go_upto_region 18 with (go_at_call 15; refine PK.out.mono ?_; rintro e w5 ⟨rfl, hb5⟩)
          have b6 : Below w5.heap.size w5 (w5.alloc (.cells #[.int .i64 xh.k, .int .i64 xh.w] 31)) := (Below.refl _ _).alloc (Nat.le_refl _) _
          have hP4 := (HP3.out.later hb5).later b6
          have hx6 : (w5.alloc (.cells #[.int .i64 xh.k, .int .i64 xh.w] 31)).heap[w5.heap.size]? = some (.cells #[.int .i64 xh.k, .int .i64 xh.w] 31 (0, 0)) := heap_alloc_new _ _
          clear HP3 PK hb5 b6
          generalize w5.heap.size = p13 at *
          generalize w5.alloc (.cells #[.int .i64 xh.k, .int .i64 xh.w] 31) = W6 at *
          have i0 := cell_of_row W6 p13 0 _ _ _ hx6
          have i1 := cell_of_row W6 p13 1 _ _ _ hx6
          simp at i0 i1
          obtain ⟨Ad, capd, cd, hd1, hd2, hRd⟩ := hP4.doc
          unfold maxLen at hd2
          rw [HNN.out] at cd hd1
          have HRd := Lib.hid hRd
          have HP4 := Lib.hid hP4
          clear hRd hP4 hx6
          go_cut [102] from 47 to 143 (fun s102 wx => s102 = .bool false ∧ ∃ nq, wx = W6.drewN nq)
          case first =>
            cases L2 with
            | nil =>
              obtain rfl : ib = false := by have := HIB.out; simpa using this.symm
              obtain rfl : nn = 0 := HNN.out.symm
              go_quiet (fail)
              go_wp2_with fail
              go_meet
              case rel => exact ⟨rfl, _, rfl⟩
            | cons x L3 =>
              obtain rfl : ib = true := by have := HIB.out; simpa using this.symm
              have hn1' : (0 : Int) < (nn : Int) := by have := HNN.out; simp at this; omega
              have hn2' : 0 < nn := by omega
              have hn3' : decide ((0 : Int) < (nn : Int)) = true := by simp; omega
              have hn4' : decide (0 < nn) = true := by simp; omega
              obtain rfl : x = xh := HXH.out
              obtain ⟨rb, ro, rfl, hrl, hox, x0, x1⟩ := HRd.out 0 x rfl
              simp at x0 x1
              clear hox
              go_quiet (fail)
              go_wp2_with fail
              go_meet
              case rel => exact ⟨rfl, _, rfl⟩
          case rest =>
            obtain ⟨rfl, nq2, rfl⟩ := hcut
            have hP5 := HP4.out.later (below_drewN' W6 nq2)
            clear HP4 HRd cd hd1 hd2 i0 i1 HXH
            generalize W6.drewN nq2 = W7 at *
            have hbs := Lib.hid (fun k hk => (hP5.h.h.ge k hk).2)
            have hbs2 := Lib.hid (fun k hk => (hP5.h.m.ge k hk).2)
            have hbs3 := hP5.h.b.size
            have HP5 := Lib.hid hP5
            clear hP5
            go_upto_region 21 with (fail)
            have b8 : Below W7.heap.size W7 (W7.alloc (.cells #[.slice none 0 0] 44)) := (Below.refl _ _).alloc (Nat.le_refl _) _
            have hP6 := HP5.out.later b8
            have hS8 : SeenB W7.heap.size (W7.alloc (.cells #[.slice none 0 0] 44)) W7.heap.size [W7.heap.size] [] := ⟨⟨.slice none 0 0, heap_alloc_new _ _, ⟨rfl, .inl ⟨rfl, rfl⟩⟩, rfl⟩, Nat.le_refl _⟩
            have hZX : ∀ k ∈ [W7.heap.size], k ∉ X2 ∧ k ∉ Y2 ∧ w.heap.size ≤ k := fun k hk => by
              simp at hk
              subst hk
              exact ⟨fun hm => by have := hbs.out _ hm; omega, fun hm => by have := hbs2.out _ hm; omega, hbs3⟩
            have hls : W7.heap.size ≤ (W7.alloc (.cells #[.slice none 0 0] 44)).heap.size := b8.size
            clear b8 HP5
            generalize W7.heap.size = bs at *
            generalize W7.alloc (.cells #[.slice none 0 0] 44) = W8 at *
            have EC := Lib.hid (each_any W8 hP6.h.h hS8 (fun k hk => (hZX k hk).1) hls (by have := hP6.n; omega))
            have HP6 := Lib.hid hP6
            have HZX := Lib.hid hZX
            clear hP6 hS8 hZX
            have hmf : ∀ (fn : Fn) (first cap : Array Value) (w : World), (Instr.makeFunc fn first cap).run Try.prog w = .ok (.func fn first cap) w := fun _ _ _ _ => rfl
            go_upto_region 22 with (go_at_call 16; refine EC.out.mono ?_; rintro e w9 ⟨rfl, Z9, hS9, hk9, hz9⟩)
            have hP7 := HP6.out.seen hk9 HZX.out
            obtain ⟨Ad, capd, cd, hd1, hd2, -⟩ := hP7.doc
            obtain ⟨As, caps, cs, hs1, hs2, -⟩ := hS9.read
            unfold maxLen at hd2 hs2
            have HP7 := Lib.hid hP7
            have HS9 := Lib.hid hS9
            clear hmf EC HP6 hP7 hS9 hk9 hz9
            rw [HNN.out] at cd hd1 cs hs1
            go_quiet (fail)
            have hP8 := HP7.out.later (below_drewN' w9 nq)
            have hS8 := HS9.out.later (below_drewN' w9 nq)
            clear HP7 HS9 cd hd1 hd2 cs hs1 hs2
            generalize w9.drewN nq = V at *
            have HP8 := Lib.hid hP8
            have HS8 := Lib.hid hS8
            clear hP8 hS8
            go_wp2_with fail
            go_loopw [4, 16] (fun s4 j wr => ∃ i : Nat, i ≤ nn ∧ j = .int .i64 i ∧ Hid (Below V.heap.size V wr)) (fun s4 j _ => nn - (intOf j).toNat)
            case atStart => exact ⟨0, by omega, rfl, Lib.hid (Below.refl _ _)⟩
            case round =>
              obtain ⟨i, hi, rfl, hb⟩ := hrel
              have hP9 := HP8.out.later hb.out
              have hS9 := HS8.out.later hb.out
              have hn72 := hP9.n
              rw [HNN.out] at hn72
              obtain ⟨Ad, capd, cd, hd1, hd2, hRd⟩ := hP9.doc
              obtain ⟨As, caps, cs, hs1, hs2, hRs⟩ := hS9.read
              unfold maxLen at hd2 hs2
              rw [HNN.out] at cd hd1 cs hs1
              by_cases hin : i < nn
              · have hj1 : (i : Int) < (nn : Int) := by omega
                have hj0 : (0 : Int) ≤ (i : Int) := by omega
                obtain ⟨x, hx⟩ : ∃ x, L2[i]? = some x := ⟨L2[i]'(by rw [HNN.out]; exact hin), List.getElem?_eq_getElem _⟩
                obtain ⟨g, rfl, y0, y1⟩ := hRs i x hx
                obtain ⟨rb, ro, rfl, hrl, hox, x0, x1⟩ := hRd i x hx
                clear hRs hRd hx hox hP9 hS9
                go_upto_region 27 with (fail)
                go_quiet (fail)
                have hb2 := Lib.hid (hb.out.trans ((below_drewN' wr nq).mono hb.out.size))
                clear cd cs y0 y1 x0 x1 hb
                generalize wr.drewN nq = wr2 at *
                go_wp2
                go_roundw
                case rel => exact ⟨i + 1, by omega, by go_num, hb2⟩
                case measure => simp [intOf] <;> omega
              · have hj1 : ¬ (i : Int) < (nn : Int) := by omega
                have HPf := Lib.hid hP9
                clear hRs hRd hP9 hS9
                go_wp2
                go_roundw
                case rel => exact ⟨k + 1, X2, c2, L2, Y2, by omega, by go_num, Lib.hid (by omega), HPf⟩
                case measure => simp [intOf] <;> omega
        · have hi1 : (k : Int) < (n1 : Int) := by omega
          have hi2 : ¬ (k : Int) < 60 := by omega
          have HB := Lib.hid hP.out.h.b
          go_wp2
          go_ret
          exact ⟨rfl, HB.out⟩
      · have hi1 : ¬ (k : Int) < (n1 : Int) := by omega
        have HB := Lib.hid hP.out.h.b
        go_wp2
        go_ret
        exact ⟨rfl, HB.out⟩
end Go.Proofs.Ytebbpgokhelmdaa
