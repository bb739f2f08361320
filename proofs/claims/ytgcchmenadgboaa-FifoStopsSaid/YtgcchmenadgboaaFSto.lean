/- FifoStops' walk. -/
import Derived.Test.YtgcchmenadgboaaFSt
namespace Go.Proofs.Ytgcchmenadgboaa
open Go.RowKit Go.Shelf
set_option linter.unusedVariables false
set_option linter.unusedSimpArgs false
attribute [local go_sem] Oper.semAt_some
theorem below_box {W W' : World} {c : Nat} {t : TypeId} {v : Value} (h : Boxed W c t v) (hb : Below W.heap.size W W') : Boxed W' c t v := (hb.block _ h.lt).trans h
set_option maxRecDepth 100000 in
set_option maxHeartbeats 8000000 in
theorem fstops_walk (A : Option Addr) (n0 cap : Nat) (z : List Int) (many pops : Int) (w : World) (hr : IntRow w A n0 cap z) (hm : in64 many) (hp : in64 pops) : Calls Try.prog 6 #[.slice A n0 cap, .int .i64 many, .int .i64 pops] w (OkB w) := by
  obtain ⟨hR, h1, h2, -⟩ := hr.row
  clear hr
  have AW := Lib.hid awake_any
  have hfn := run_eql_seq
  have HM := Lib.hid hm
  have HP := Lib.hid hp
  generalize z.take n0 = zs at *
  have A2 : Below w.heap.size w ((w.alloc (.cells #[.slice A n0 cap] 22)).alloc (.cells #[.bool false] 4)) := (((Below.refl _ w).alloc (Nat.le_refl _) _).alloc (by simp) _)
  have A3 : Boxed ((w.alloc (.cells #[.slice A n0 cap] 22)).alloc (.cells #[.bool false] 4)) w.heap.size 22 (.slice A n0 cap) := Boxed.alloc (Boxed.new _ _ _) _
  have A6 : Boxed ((w.alloc (.cells #[.slice A n0 cap] 22)).alloc (.cells #[.bool false] 4)) (w.heap.size + 1) 4 (.bool false) := by
    have := Boxed.new (w.alloc (.cells #[.slice A n0 cap] 22)) 4 (.bool false)
    rwa [World.size_alloc] at this
  have H2 := Lib.hid A2
  have H3 := Lib.hid A3
  have H6 := Lib.hid A6
  clear A2 A3 A6 hm hp
  refine (callsIn_wide (n := 9)).1 ?_
  refine callsIn_of_wp_marks Try.func6 rfl trivial ?_ rfl
  simp only [Try.ntmps6, List.size_toArray, List.length_cons, List.length_nil, Nat.reduceAdd, Nat.reduceSub, Array.replicate_succ, Array.replicate_zero, List.push_toArray, List.append_toArray, List.nil_append, List.cons_append]
  refine wpIn_wide.2 ?_
  rcases Nat.lt_or_ge 30 n0 with hc | hc
  · have hci : (30 : Int) < (n0 : Int) := by omega
    have hci2 : (30 : Int) ≤ (cap : Int) := by omega
    obtain ⟨m, xs, hm30, hmc, RX⟩ : ∃ (m : Nat) (xs : List Int), m = 30 ∧ m ≤ cap ∧ Hid (RowOI w A m cap xs) := ⟨30, zs.take 30, rfl, by omega, Lib.hid (hR.cut (by omega))⟩
    clear hR
    go_upto_region 4 with (go_at_call 8; (with_reducible refine (AW.out _).mono ?_); rintro e w1 ⟨rfl, hB1⟩; have X3 := below_box H3.out hB1; have X6 := below_box H6.out hB1; have B1 := H2.out.trans (hB1.mono H2.out.size); have c3 := X3.cell; have f3 := X3.frozen)
    obtain ⟨W3, hW3, X3', X6', B3⟩ : ∃ W3, w1.setCell ⟨w.heap.size, 0, none⟩ (.slice A 30 cap) = W3 ∧ Boxed W3 w.heap.size 22 (.slice A m cap) ∧ Boxed W3 (w.heap.size + 1) 4 (.bool false) ∧ Below w.heap.size w W3 := ⟨_, rfl, by rw [hm30]; exact Boxed.set _ X3, (Below.heap_setCell _ _ _ _ (by simp)).trans X6, B1.setCell (Nat.le_refl _) _⟩
    rw [hW3]
    have hm30' : m ≤ 30 := by omega
    clear hW3 X3 X6 B1 c3 f3 hB1 hci hci2 hm30 H2 H3 H6
    have c3 := X3'.cell
    have NW := Lib.hid (qnewI W3 (RX.out.later B3) (by omega))
    have R1 := Lib.hid (fun W => rest_any pops ((m : Int) + 1) W HP.out (by omega) (by omega))
    obtain ⟨hp0, hp1⟩ := restI_bd pops ((m : Int) + 1) (by omega) (by omega)
    have R2 := Lib.hid (fun W => rest_any many 32 W HM.out (by omega) (by omega))
    obtain ⟨hk0, hk1⟩ := restI_bd many 32 (by omega) (by omega)
    generalize restI pops ((m : Int) + 1) = n at *
    generalize restI many 32 = k at *
    obtain ⟨n, rfl⟩ : ∃ n' : Nat, n = (n' : Int) := ⟨n.toNat, by omega⟩
    obtain ⟨k, rfl⟩ : ∃ k' : Nat, k = (k' : Int) := ⟨k.toNat, by omega⟩
    go_upto_region 6 with (first
      | (go_at_call 9; (with_reducible refine NW.out.mono ?_); rintro e w4 ⟨rfl, ⟨X, hQ⟩, hB4⟩; have X3'' := below_box X3' hB4; have c3' := X3''.cell)
      | (go_at_call 11; (with_reducible refine (R1.out _).mono ?_); rintro e w5 ⟨rfl, rfl⟩))
    have hXb : ∀ j ∈ X, W3.heap.size ≤ j ∧ j < w4.heap.size := fun j hj => hQ.ge j hj
    have hl6 := X6'.lt
    have S0 : St w W3.heap.size W3.heap.size m X xs [(w.heap.size, 22, .slice A m cap), (w.heap.size + 1, 4, .bool false)] w4 := by
      refine ⟨hQ, fun p hp => ?_, fun p hp hx => ?_, B3.trans (hB4.mono B3.size), B3.size, fun p hp => ?_⟩
      · simp at hp
        rcases hp with rfl | rfl
        · exact X3''
        · exact below_box X6' hB4
      · have := hXb _ hx
        simp at hp
        rcases hp with rfl | rfl <;> simp at this <;> omega
      · simp at hp
        rcases hp with rfl | rfl <;> simp
    have S1 := S0.new 3 (.int .i64 (n : Int))
    obtain ⟨W5, hW5, S2⟩ : ∃ W5, w4.alloc (.cells #[.int .i64 (n : Int)] 3) = W5 ∧ Hid (St w W3.heap.size W3.heap.size m X xs [(w4.heap.size, 3, .int .i64 (n : Int)), (w.heap.size, 22, .slice A m cap), (w.heap.size + 1, 4, .bool false)] W5) := ⟨_, rfl, Lib.hid S1⟩
    rw [hW5]
    have hb9 : W3.heap.size < w4.heap.size := (hQ.ge _ hQ.mem).2
    have HL := Lib.hid (show xs.length = m from RX.out.len)
    clear hW5 S0 S1 hQ hB4 X3'' X3' X6' c3 c3' NW R1 hXb
    generalize W3.heap.size = b at *
    generalize w4.heap.size = bn at *
    go_wp2
    go_loopw [10] (fun i wr => ∃ (j : Nat), j ≤ n ∧ i = .int .i64 j ∧ Hid (St w b b m X (xs.drop j) [(bn, 3, .int .i64 (n : Int)), (w.heap.size, 22, .slice A m cap), (w.heap.size + 1, 4, .bool false)] wr)) (fun i _ => n - (intOf i).toNat)
    case atStart => exact ⟨0, by omega, rfl, S2⟩
    case round =>
      obtain ⟨j, hj, rfl, hS⟩ := hrel
      clear S2
      have c9 := (hS.out.bx _ (by simp : (bn, 3, .int .i64 (n : Int)) ∈ _)).cell
      dsimp only at c9
      by_cases hlt : j < n
      · obtain ⟨x, hx⟩ : ∃ x, xs[j]? = some x := ⟨xs[j]'(by rw [HL.out]; omega), List.getElem?_eq_getElem _⟩
        have hd : xs.drop j = x :: xs.drop (j + 1) := by
          have h2 := (List.getElem?_eq_some_iff.1 hx).2
          rw [← h2]; exact List.drop_eq_getElem_cons _
        have PO := Lib.hid (show Calls Try.prog 13 #[.pointer (some ⟨b, 0, none⟩)] wr (StP (.tuple #[.int .i64 x, .bool true]) w b b m X (xs.drop (j + 1)) [(bn, 3, .int .i64 (n : Int)), (w.heap.size, 22, .slice A m cap), (w.heap.size + 1, 4, .bool false)] wr) from by
          have h := hS.out
          rw [hd] at h
          exact st_pop h)
        have hi1 : (j : Int) < (n : Int) := by omega
        clear hx hd
        go_wp2_with (go_at_call 13; (with_reducible refine PO.out.mono ?_); rintro e w6 ⟨rfl, h6, -⟩)
        go_roundw
        case rel => exact ⟨j + 1, by omega, by go_num, Lib.hid h6⟩
        case measure => simp [intOf]; omega
      · obtain rfl : j = n := by omega
        obtain ⟨L, hL⟩ : ∃ L, xs.drop j = L := ⟨_, rfl⟩
        have hLl : L.length = m - j := by rw [← hL, List.length_drop, HL.out]
        have hLx : ∀ i, L[i]? = xs[i + j]? := fun i => by rw [← hL, List.getElem?_drop, Nat.add_comm]
        rw [hL] at hS
        have HLL := Lib.hid hLl
        have HLX := Lib.hid hLx
        clear hL hLl hLx
        go_upto_block 2 with (first
          | (go_at_call 22; refine (all_any _ _).mono ?_; rintro e w' ⟨rfl, rfl⟩)
          | (go_at_call 11; (with_reducible refine (R2.out _).mono ?_); rintro e w5 ⟨rfl, rfl⟩))
        go_wp2
        have hT := ((hS.out.new 24 (.pointer (some ⟨b, 0, none⟩))).new 3 (.int .i64 (k : Int))).new 3 (.int .i64 ((0 : Nat) : Int))
        simp only [World.size_alloc] at hT
        have hnb : bn < wr.heap.size := (hS.out.bx _ (by simp : (bn, 3, .int .i64 (j : Int)) ∈ _)).lt
        have hge := hS.out.b.size
        obtain ⟨W6, hW6, S6⟩ : ∃ W6, ((wr.alloc (.cells #[.pointer (some ⟨b, 0, none⟩)] 24)).alloc (.cells #[.int .i64 (k : Int)] 3)).alloc (.cells #[.int .i64 0] 3) = W6 ∧ Hid (St w b b m X L [(wr.heap.size + 1 + 1, 3, .int .i64 ((0 : Nat) : Int)), (wr.heap.size + 1, 3, .int .i64 (k : Int)), (wr.heap.size, 24, .pointer (some ⟨b, 0, none⟩)), (bn, 3, .int .i64 (j : Int)), (w.heap.size, 22, .slice A m cap), (w.heap.size + 1, 4, .bool false)] W6) := ⟨_, rfl, Lib.hid hT⟩
        simp only [hW6]
        have hlt6 := (S6.out.bx _ List.mem_cons_self).lt
        have hge6 := S6.out.b.size
        dsimp only at hlt6
        clear hW6 hT hS c9 R2 hlt
        generalize wr.heap.size = bq at *
        refine (wpIn_wide (n := 9)).1 ?_
        refine wpIn_named fun fr hfr => ?_
        refine rangeA (vals := fun x : Int × Nat => #[.int .i64 (x.2 : Int), .int .i64 x.1]) (gf := 33) (lb := #[.pointer (some ⟨bq, 0, none⟩)]) (by rw [hfr]; rfl) (enters_of Try.func33 (by kernel_rfl) rfl)
          (st_all (9 - 1) (by omega) [bq + 1 + 1] S6.out (by rw [HLL.out]; omega) (by simp) (by simp; omega)) (Below.refl _ _) (fun x => rfl)
          (fun pre V => St w b b m X L [(bq + 1 + 1, 3, .int .i64 (pre.length : Int)), (bq + 1, 3, .int .i64 (k : Int)), (bq, 24, .pointer (some ⟨b, 0, none⟩)), (bn, 3, .int .i64 (j : Int)), (w.heap.size, 22, .slice A m cap), (w.heap.size + 1, 4, .bool false)] V ∧ pre.length ≤ k)
          (fun c pre V => c = .exit 2 ∧ pre.length = k + 1 ∧ St w b b m X L [(bq + 1 + 1, 3, .int .i64 (k : Int)), (bq + 1, 3, .int .i64 (k : Int)), (bq, 24, .pointer (some ⟨b, 0, none⟩)), (bn, 3, .int .i64 (j : Int)), (w.heap.size, 22, .slice A m cap), (w.heap.size + 1, 4, .bool false)] V)
          (fun pre X Y row h hg hr => ⟨h.1.own hg hr hge6, h.2⟩) (fun c s X Y row h hg hr => ⟨h.1, h.2.1, h.2.2.own hg hr hge6⟩) ⟨S6.out, Nat.zero_le _⟩
          (fun x => { tmps := (((fr.tmps.setIfInBounds 44 (.int .i64 (x.2 : Int))).setIfInBounds 45 (.int .i64 x.1)).setIfInBounds 14 (.int .i64 (x.2 : Int))).setIfInBounds 15 (.int .i64 x.1), defers := [] })
          ?assign ?body ?done ?stop
        case assign =>
          intro l2 x V K hK
          subst hfr
          gi_wp2
          exact hK
        case body =>
          rintro l2 pre ⟨x, i⟩ r V ⟨hS, hle⟩ hL
          subst hfr
          obtain ⟨hx2, hx1, hlp⟩ := prs_at hL
          dsimp only at hx2 hx1
          subst hx2
          rw [HLL.out] at hlp
          rw [HLX.out] at hx1
          have cg := (hS.bx _ (by simp : (bq + 1 + 1, 3, .int .i64 (pre.length : Int)) ∈ _)).cell
          have fg := (hS.bx _ (by simp : (bq + 1 + 1, 3, .int .i64 (pre.length : Int)) ∈ _)).frozen
          have ck := (hS.bx _ (by simp : (bq + 1, 3, .int .i64 (k : Int)) ∈ _)).cell
          have cn := (hS.bx _ (by simp : (bn, 3, .int .i64 (j : Int)) ∈ _)).cell
          have cl := (hS.bx _ (by simp : (w.heap.size, 22, .slice A m cap) ∈ _)).cell
          dsimp only at cg fg ck cn cl
          obtain ⟨rb, ro, rfl, -, cx⟩ := (RX.out.later hS.b).at hx1
          have hSet := Lib.hid (fun u => hS.set (bs' := [(bq + 1 + 1, 3, u), (bq + 1, 3, .int .i64 (k : Int)), (bq, 24, .pointer (some ⟨b, 0, none⟩)), (bn, 3, .int .i64 (j : Int)), (w.heap.size, 22, .slice (some ⟨rb, ro, none⟩) m cap), (w.heap.size + 1, 4, .bool false)]) u (by simp : (bq + 1 + 1, 3, .int .i64 (pre.length : Int)) ∈ _) (by
            intro p hp
            simp at hp
            rcases hp with rfl | rfl | rfl | rfl | rfl | rfl
            · exact .inl rfl
            all_goals exact .inr ⟨by simp, by simp <;> omega⟩))
          obtain ⟨q, hq⟩ : ∃ q, pre.length = q := ⟨_, rfl⟩
          obtain ⟨s, hs⟩ : ∃ s, q + j = s := ⟨_, rfl⟩
          have hqn : (q : Int) + (j : Int) = (s : Int) := by omega
          have hLN := Lib.hid (show (pre ++ [(x, pre.length)]).length = q + 1 by simp [hq])
          have HSS := Lib.hid hS
          rw [hq] at cg hle hlp cx
          simp only [hq]
          rw [hq] at hLN HSS
          rw [hs] at cx
          have hq30 : (q : Int) ≤ 30 := by omega
          have hj30 : (j : Int) ≤ 30 := by omega
          have hm31 : (m : Int) ≤ 30 := by omega
          simp only [List.setIfInBounds_toArray, List.set_cons_succ, List.set_cons_zero]
          clear hS hL hx1
          by_cases hqk : q = k
          · subst hqk
            clear hSet
            gi_wp2
            exact ⟨KeepsFrom.refl _ _, rfl, hLN.out, HSS.out⟩
          · have hqk1 : ((q : Int) == (k : Int)) = false := by simp; omega
            have hqk2 : ¬ ((q : Int) = (k : Int)) := by omega
            have hge2 : ¬ ((m : Int) ≤ (s : Int)) := by omega
            have hge3 : (s : Int) < (m : Int) := by omega
            have hge4 : (0 : Int) ≤ (s : Int) := by omega
            clear hq hs
            gi_wp2
            refine ⟨(KeepsOthers.setCell _ _ _).from _, KeepC.kept ((Kept.refl _ _).set _ _ _ (by simp)), ?_, by rw [hLN.out]; omega⟩
            rw [hLN.out, Int.natCast_succ]
            exact hSet.out _
        case done =>
          rintro D V hD ⟨hS, hle⟩ hK
          subst hfr
          dsimp only
          rw [prs_len, HLL.out] at hS hle
          obtain ⟨G, hG⟩ : ∃ G, m - j = G := ⟨_, rfl⟩
          rw [hG] at hS hle
          have hGm : min (k : Int) ((m : Int) - (j : Int)) = (G : Int) := by omega
          have hGk : G ≤ 30 := by omega
          clear hG hle
          gi_wp2
          go_wp2
          have hT7 := hS.new 3 (.int .i64 ((0 : Nat) : Int))
          have hgV := (hS.bx _ List.mem_cons_self).lt
          have hKV := (Array.getElem?_eq_some_iff.1 hK).1
          dsimp only at hgV
          obtain ⟨W7, hW7, S7, hK7⟩ : ∃ W7, V.alloc (.cells #[.int .i64 0] 3) = W7 ∧ Hid (St w b b m X L [(V.heap.size, 3, .int .i64 ((0 : Nat) : Int)), (bq + 1 + 1, 3, .int .i64 (G : Int)), (bq + 1, 3, .int .i64 (k : Int)), (bq, 24, .pointer (some ⟨b, 0, none⟩)), (bn, 3, .int .i64 (j : Int)), (w.heap.size, 22, .slice A m cap), (w.heap.size + 1, 4, .bool false)] W7) ∧ W7.heap[D]? = some (.deferred (some [])) := ⟨_, rfl, Lib.hid hT7, (Below.heap_alloc _ _ _ hKV).trans hK⟩
          simp only [hW7]
          have hlt7 := (S7.out.bx _ List.mem_cons_self).lt
          have hge7 := S7.out.b.size
          have hDl := (Array.getElem?_eq_some_iff.1 hK7).1
          dsimp only at hlt7
          clear hW7 hT7 hS hK S6
          generalize V.heap.size = ba at *
          refine (wpIn_wide (n := 9)).1 ?_
          refine wpIn_named fun fr2 hfr2 => ?_
          refine rangeA (vals := fun x : Int × Nat => #[.int .i64 (x.2 : Int), .int .i64 x.1]) (gf := 33) (lb := #[.pointer (some ⟨bq, 0, none⟩)]) (by rw [hfr2]; rfl) (enters_of Try.func33 (by kernel_rfl) rfl)
            (st_all (9 - 1) (by omega) [ba] S7.out (by rw [HLL.out]; omega) (by simp) (by simp; omega)) (Below.refl _ _) (fun x => rfl)
            (fun pre V => St w b b m X L [(ba, 3, .int .i64 (pre.length : Int)), (bq + 1 + 1, 3, .int .i64 (G : Int)), (bq + 1, 3, .int .i64 (k : Int)), (bq, 24, .pointer (some ⟨b, 0, none⟩)), (bn, 3, .int .i64 (j : Int)), (w.heap.size, 22, .slice A m cap), (w.heap.size + 1, 4, .bool false)] V ∧ V.heap[D]? = some (.deferred (some [])))
            (fun c pre V => False)
            (fun pre X Y row h hg hr => ⟨h.1.own hg hr hge7, (hg.block D (Array.getElem?_eq_some_iff.1 h.2).1 (fun e => by have := (hr D e.symm).1; omega)).trans h.2⟩) (fun c s X Y row h hg hr => h) ⟨S7.out, hK7⟩
            (fun x => { tmps := (fr2.tmps.setIfInBounds 73 (.int .i64 (x.2 : Int))).setIfInBounds 74 (.int .i64 x.1), defers := [] })
            ?assign2 ?body2 ?done2 ?stop2
          case assign2 =>
            intro l2 x V K hK
            subst hfr2
            gi_wp2
            exact hK
          case body2 =>
            rintro l2 pre ⟨x, i⟩ r V ⟨hS, hKD⟩ hL
            subst hfr2
            obtain ⟨-, -, hlp⟩ := prs_at hL
            rw [HLL.out] at hlp
            have ca := (hS.bx _ (by simp : (ba, 3, .int .i64 (pre.length : Int)) ∈ _)).cell
            have fa := (hS.bx _ (by simp : (ba, 3, .int .i64 (pre.length : Int)) ∈ _)).frozen
            dsimp only at ca fa
            have hSet := Lib.hid (fun u => hS.set (bs' := [(ba, 3, u), (bq + 1 + 1, 3, .int .i64 (G : Int)), (bq + 1, 3, .int .i64 (k : Int)), (bq, 24, .pointer (some ⟨b, 0, none⟩)), (bn, 3, .int .i64 (j : Int)), (w.heap.size, 22, .slice A m cap), (w.heap.size + 1, 4, .bool false)]) u (by simp : (ba, 3, .int .i64 (pre.length : Int)) ∈ _) (by
              intro p hp
              simp at hp
              rcases hp with rfl | rfl | rfl | rfl | rfl | rfl | rfl
              · exact .inl rfl
              all_goals exact .inr ⟨by simp, by simp <;> omega⟩))
            obtain ⟨q, hq⟩ : ∃ q, pre.length = q := ⟨_, rfl⟩
            have hLN := Lib.hid (show (pre ++ [(x, i)]).length = q + 1 by simp [hq])
            rw [hq] at ca hlp
            have hq30 : (q : Int) ≤ 30 := by omega
            have HKD := Lib.hid hKD
            simp only [List.setIfInBounds_toArray, List.set_cons_succ, List.set_cons_zero]
            clear hS hL hKD
            gi_wp2
            refine ⟨(KeepsOthers.setCell _ _ _).from _, KeepC.kept ((Kept.refl _ _).set _ _ _ (by simp)), ?_, ?_⟩
            · rw [hLN.out, Int.natCast_succ]
              exact hSet.out _
            · rw [Below.heap_setCell _ _ _ _ (by simp; omega)]
              exact HKD.out
          case done2 =>
            rintro D2 V hD2 ⟨hS, hKD⟩ hK2
            subst hfr2
            dsimp only
            rw [prs_len, HLL.out] at hS
            obtain ⟨R, hR⟩ : ∃ R, m - j = R := ⟨_, rfl⟩
            have hmj : (m : Int) - (j : Int) = (R : Int) := by omega
            have hR30 : (R : Int) ≤ 30 := by omega
            have hwr : IntKind.i64.wrap (R : Int) = (R : Int) := by rw [IntKind.wrap_i64]; omega
            have hm30i : (m : Int) ≤ 30 := by omega
            have hj30i : (j : Int) ≤ 30 := by omega
            rw [hR] at hS
            rw [hmj] at hGm
            have LN2 := Lib.hid (show Calls Try.prog 20 #[.pointer (some ⟨b, 0, none⟩)] V.drew fun e w' => e = .returned (.int .i64 (R : Int)) ∧ w' = V.drew from (st_len (n := (R : Int)) (hS.later (below_drew V)) (by rw [HLL.out, hR])).mono (fun e w' h => ⟨h.1, h.2.symm⟩))
            have c13 := (hS.bx _ (by simp : (bq + 1 + 1, 3, .int .i64 (G : Int)) ∈ _)).cell
            have c12 := (hS.bx _ (by simp : (bq + 1, 3, .int .i64 (k : Int)) ∈ _)).cell
            have c3 := (hS.bx _ (by simp : (w.heap.size, 22, .slice A m cap) ∈ _)).cell
            have c9 := (hS.bx _ (by simp : (bn, 3, .int .i64 (j : Int)) ∈ _)).cell
            have c16 := (hS.bx _ (by simp : (ba, 3, .int .i64 (R : Int)) ∈ _)).cell
            have c6 := (hS.bx _ (by simp : (w.heap.size + 1, 4, .bool false) ∈ _)).cell
            have f6 := (hS.bx _ (by simp : (w.heap.size + 1, 4, .bool false) ∈ _)).frozen
            have x6 := Lib.hid (show Boxed V (w.heap.size + 1) 4 (.bool false) from hS.bx _ (by simp : (w.heap.size + 1, 4, .bool false) ∈ _))
            have HB := Lib.hid hS.b
            have HK1 := Lib.hid hKD
            have HK2 := Lib.hid hK2
            dsimp only at c13 c12 c3 c9 c16 c6 f6
            clear hS hKD hK2 hR S7 hK7
            go_wp2
            go_still_tail 25, (by kernel_rfl)
            still_call LN2.out
            repeat still_step
            refine wpStill_nil ?_
            change wpList _ _ _ _ _ V.drew
            have c6' : V.drew.cell? ⟨w.heap.size + 1, 0, none⟩ = _ := c6
            have f6' : V.drew.frozen? ⟨w.heap.size + 1, 0, none⟩ = false := f6
            have hb9 : Boxed (V.drew.setCell ⟨w.heap.size + 1, 0, none⟩ (.bool true)) (w.heap.size + 1) 4 (.bool true) := Boxed.set (.bool true) (show Boxed V.drew (w.heap.size + 1) 4 (.bool false) from x6.out)
            have hB9 : Below w.heap.size w (V.drew.setCell ⟨w.heap.size + 1, 0, none⟩ (.bool true)) := (show Below w.heap.size w V.drew from ⟨HB.out.os, HB.out.tape, HB.out.output, HB.out.size, HB.out.block⟩).setCell (by simp) _
            have hk1 : (V.drew.setCell ⟨w.heap.size + 1, 0, none⟩ (.bool true)).heap[D]? = some (.deferred (some [])) := by
              rw [Below.heap_setCell _ _ _ _ (by simp; omega)]; exact HK1.out
            have hk2 : (V.drew.setCell ⟨w.heap.size + 1, 0, none⟩ (.bool true)).heap[D2]? = some (.deferred (some [])) := by
              rw [Below.heap_setCell _ _ _ _ (by simp; omega)]; exact HK2.out
            clear c6 f6 x6 HB HK1 HK2 c13 c12 c3 c9 c16 LN2
            generalize hV2 : V.drew = V2 at *
            go_wp2
            generalize V2.setCell ⟨w.heap.size + 1, 0, none⟩ (.bool true) = V9 at *
            have hk3 : (V9.putObj D2 (.deferred none)).heap[D]? = some (.deferred (some [])) := (World.putObj_heap_other (by omega)).trans hk1
            refine ⟨by simp, .inl ⟨_, _, rfl, run_takeDeferred hk2, ⟨by simp, .inl ⟨_, _, rfl, run_takeDeferred hk3, ?_⟩⟩⟩⟩
            have hc : ((V9.putObj D2 (.deferred none)).putObj D (.deferred none)).cell? ⟨w.heap.size + 1, 0, none⟩ = some (.bool true) := by
              rw [← hb9.cell]; simp [World.cell?, World.putObj_heap_other (show w.heap.size + 1 ≠ D by omega), World.putObj_heap_other (show w.heap.size + 1 ≠ D2 by omega)]
            exact ⟨.bool true, by simp [results, Try.f6, go_sem, hc], rfl, (hB9.trans (belowK_b (w := w) (Nat.le_refl _) V9 D2 _ _ (by omega) hk2 rfl rfl)).trans (belowK_b (w := w) (Nat.le_refl _) _ D _ _ (by omega) hk3 rfl rfl)⟩
          case stop2 =>
            rintro D2 c pre x r V hD2 hL h hK2
            exact h.elim
        case stop =>
          rintro D c pre x r V hD hL ⟨rfl, hlen, hS⟩ hK
          subst hfr
          dsimp only
          obtain ⟨G, hG⟩ : ∃ G, k = G := ⟨_, rfl⟩
          have hlL := congrArg List.length hL
          rw [prs_len, HLL.out] at hlL
          simp at hlL hlen
          have hGm : min (k : Int) ((m : Int) - (j : Int)) = (G : Int) := by omega
          have hGk : G ≤ 30 := by omega
          have hS : St w b b m X L [(bq + 1 + 1, 3, .int .i64 (G : Int)), (bq + 1, 3, .int .i64 (k : Int)), (bq, 24, .pointer (some ⟨b, 0, none⟩)), (bn, 3, .int .i64 (j : Int)), (w.heap.size, 22, .slice A m cap), (w.heap.size + 1, 4, .bool false)] V := by rw [← hG]; exact hS
          clear hG hL hlL hlen
          gi_wp2
          go_wp2
          have hT7 := hS.new 3 (.int .i64 ((0 : Nat) : Int))
          have hgV := (hS.bx _ List.mem_cons_self).lt
          have hKV := (Array.getElem?_eq_some_iff.1 hK).1
          dsimp only at hgV
          obtain ⟨W7, hW7, S7, hK7⟩ : ∃ W7, V.alloc (.cells #[.int .i64 0] 3) = W7 ∧ Hid (St w b b m X L [(V.heap.size, 3, .int .i64 ((0 : Nat) : Int)), (bq + 1 + 1, 3, .int .i64 (G : Int)), (bq + 1, 3, .int .i64 (k : Int)), (bq, 24, .pointer (some ⟨b, 0, none⟩)), (bn, 3, .int .i64 (j : Int)), (w.heap.size, 22, .slice A m cap), (w.heap.size + 1, 4, .bool false)] W7) ∧ W7.heap[D]? = some (.deferred (some [])) := ⟨_, rfl, Lib.hid hT7, (Below.heap_alloc _ _ _ hKV).trans hK⟩
          simp only [hW7]
          have hlt7 := (S7.out.bx _ List.mem_cons_self).lt
          have hge7 := S7.out.b.size
          have hDl := (Array.getElem?_eq_some_iff.1 hK7).1
          dsimp only at hlt7
          clear hW7 hT7 hS hK S6
          generalize V.heap.size = ba at *
          refine (wpIn_wide (n := 9)).1 ?_
          refine wpIn_named fun fr2 hfr2 => ?_
          refine rangeA (vals := fun x : Int × Nat => #[.int .i64 (x.2 : Int), .int .i64 x.1]) (gf := 33) (lb := #[.pointer (some ⟨bq, 0, none⟩)]) (by rw [hfr2]; rfl) (enters_of Try.func33 (by kernel_rfl) rfl)
            (st_all (9 - 1) (by omega) [ba] S7.out (by rw [HLL.out]; omega) (by simp) (by simp; omega)) (Below.refl _ _) (fun x => rfl)
            (fun pre V => St w b b m X L [(ba, 3, .int .i64 (pre.length : Int)), (bq + 1 + 1, 3, .int .i64 (G : Int)), (bq + 1, 3, .int .i64 (k : Int)), (bq, 24, .pointer (some ⟨b, 0, none⟩)), (bn, 3, .int .i64 (j : Int)), (w.heap.size, 22, .slice A m cap), (w.heap.size + 1, 4, .bool false)] V ∧ V.heap[D]? = some (.deferred (some [])))
            (fun c pre V => False)
            (fun pre X Y row h hg hr => ⟨h.1.own hg hr hge7, (hg.block D (Array.getElem?_eq_some_iff.1 h.2).1 (fun e => by have := (hr D e.symm).1; omega)).trans h.2⟩) (fun c s X Y row h hg hr => h) ⟨S7.out, hK7⟩
            (fun x => { tmps := (fr2.tmps.setIfInBounds 73 (.int .i64 (x.2 : Int))).setIfInBounds 74 (.int .i64 x.1), defers := [] })
            ?assign2 ?body2 ?done2 ?stop2
          case assign2 =>
            intro l2 x V K hK
            subst hfr2
            gi_wp2
            exact hK
          case body2 =>
            rintro l2 pre ⟨x, i⟩ r V ⟨hS, hKD⟩ hL
            subst hfr2
            obtain ⟨-, -, hlp⟩ := prs_at hL
            rw [HLL.out] at hlp
            have ca := (hS.bx _ (by simp : (ba, 3, .int .i64 (pre.length : Int)) ∈ _)).cell
            have fa := (hS.bx _ (by simp : (ba, 3, .int .i64 (pre.length : Int)) ∈ _)).frozen
            dsimp only at ca fa
            have hSet := Lib.hid (fun u => hS.set (bs' := [(ba, 3, u), (bq + 1 + 1, 3, .int .i64 (G : Int)), (bq + 1, 3, .int .i64 (k : Int)), (bq, 24, .pointer (some ⟨b, 0, none⟩)), (bn, 3, .int .i64 (j : Int)), (w.heap.size, 22, .slice A m cap), (w.heap.size + 1, 4, .bool false)]) u (by simp : (ba, 3, .int .i64 (pre.length : Int)) ∈ _) (by
              intro p hp
              simp at hp
              rcases hp with rfl | rfl | rfl | rfl | rfl | rfl | rfl
              · exact .inl rfl
              all_goals exact .inr ⟨by simp, by simp <;> omega⟩))
            obtain ⟨q, hq⟩ : ∃ q, pre.length = q := ⟨_, rfl⟩
            have hLN := Lib.hid (show (pre ++ [(x, i)]).length = q + 1 by simp [hq])
            rw [hq] at ca hlp
            have hq30 : (q : Int) ≤ 30 := by omega
            have HKD := Lib.hid hKD
            simp only [List.setIfInBounds_toArray, List.set_cons_succ, List.set_cons_zero]
            clear hS hL hKD
            gi_wp2
            refine ⟨(KeepsOthers.setCell _ _ _).from _, KeepC.kept ((Kept.refl _ _).set _ _ _ (by simp)), ?_, ?_⟩
            · rw [hLN.out, Int.natCast_succ]
              exact hSet.out _
            · rw [Below.heap_setCell _ _ _ _ (by simp; omega)]
              exact HKD.out
          case done2 =>
            rintro D2 V hD2 ⟨hS, hKD⟩ hK2
            subst hfr2
            dsimp only
            rw [prs_len, HLL.out] at hS
            obtain ⟨R, hR⟩ : ∃ R, m - j = R := ⟨_, rfl⟩
            have hmj : (m : Int) - (j : Int) = (R : Int) := by omega
            have hR30 : (R : Int) ≤ 30 := by omega
            have hwr : IntKind.i64.wrap (R : Int) = (R : Int) := by rw [IntKind.wrap_i64]; omega
            have hm30i : (m : Int) ≤ 30 := by omega
            have hj30i : (j : Int) ≤ 30 := by omega
            rw [hR] at hS
            rw [hmj] at hGm
            have LN2 := Lib.hid (show Calls Try.prog 20 #[.pointer (some ⟨b, 0, none⟩)] V.drew fun e w' => e = .returned (.int .i64 (R : Int)) ∧ w' = V.drew from (st_len (n := (R : Int)) (hS.later (below_drew V)) (by rw [HLL.out, hR])).mono (fun e w' h => ⟨h.1, h.2.symm⟩))
            have c13 := (hS.bx _ (by simp : (bq + 1 + 1, 3, .int .i64 (G : Int)) ∈ _)).cell
            have c12 := (hS.bx _ (by simp : (bq + 1, 3, .int .i64 (k : Int)) ∈ _)).cell
            have c3 := (hS.bx _ (by simp : (w.heap.size, 22, .slice A m cap) ∈ _)).cell
            have c9 := (hS.bx _ (by simp : (bn, 3, .int .i64 (j : Int)) ∈ _)).cell
            have c16 := (hS.bx _ (by simp : (ba, 3, .int .i64 (R : Int)) ∈ _)).cell
            have c6 := (hS.bx _ (by simp : (w.heap.size + 1, 4, .bool false) ∈ _)).cell
            have f6 := (hS.bx _ (by simp : (w.heap.size + 1, 4, .bool false) ∈ _)).frozen
            have x6 := Lib.hid (show Boxed V (w.heap.size + 1) 4 (.bool false) from hS.bx _ (by simp : (w.heap.size + 1, 4, .bool false) ∈ _))
            have HB := Lib.hid hS.b
            have HK1 := Lib.hid hKD
            have HK2 := Lib.hid hK2
            dsimp only at c13 c12 c3 c9 c16 c6 f6
            clear hS hKD hK2 hR S7 hK7
            go_wp2
            go_still_tail 25, (by kernel_rfl)
            still_call LN2.out
            repeat still_step
            refine wpStill_nil ?_
            change wpList _ _ _ _ _ V.drew
            have c6' : V.drew.cell? ⟨w.heap.size + 1, 0, none⟩ = _ := c6
            have f6' : V.drew.frozen? ⟨w.heap.size + 1, 0, none⟩ = false := f6
            have hb9 : Boxed (V.drew.setCell ⟨w.heap.size + 1, 0, none⟩ (.bool true)) (w.heap.size + 1) 4 (.bool true) := Boxed.set (.bool true) (show Boxed V.drew (w.heap.size + 1) 4 (.bool false) from x6.out)
            have hB9 : Below w.heap.size w (V.drew.setCell ⟨w.heap.size + 1, 0, none⟩ (.bool true)) := (show Below w.heap.size w V.drew from ⟨HB.out.os, HB.out.tape, HB.out.output, HB.out.size, HB.out.block⟩).setCell (by simp) _
            have hk1 : (V.drew.setCell ⟨w.heap.size + 1, 0, none⟩ (.bool true)).heap[D]? = some (.deferred (some [])) := by
              rw [Below.heap_setCell _ _ _ _ (by simp; omega)]; exact HK1.out
            have hk2 : (V.drew.setCell ⟨w.heap.size + 1, 0, none⟩ (.bool true)).heap[D2]? = some (.deferred (some [])) := by
              rw [Below.heap_setCell _ _ _ _ (by simp; omega)]; exact HK2.out
            clear c6 f6 x6 HB HK1 HK2 c13 c12 c3 c9 c16 LN2
            generalize hV2 : V.drew = V2 at *
            go_wp2
            generalize V2.setCell ⟨w.heap.size + 1, 0, none⟩ (.bool true) = V9 at *
            have hk3 : (V9.putObj D2 (.deferred none)).heap[D]? = some (.deferred (some [])) := (World.putObj_heap_other (by omega)).trans hk1
            refine ⟨by simp, .inl ⟨_, _, rfl, run_takeDeferred hk2, ⟨by simp, .inl ⟨_, _, rfl, run_takeDeferred hk3, ?_⟩⟩⟩⟩
            have hc : ((V9.putObj D2 (.deferred none)).putObj D (.deferred none)).cell? ⟨w.heap.size + 1, 0, none⟩ = some (.bool true) := by
              rw [← hb9.cell]; simp [World.cell?, World.putObj_heap_other (show w.heap.size + 1 ≠ D by omega), World.putObj_heap_other (show w.heap.size + 1 ≠ D2 by omega)]
            exact ⟨.bool true, by simp [results, Try.f6, go_sem, hc], rfl, (hB9.trans (belowK_b (w := w) (Nat.le_refl _) V9 D2 _ _ (by omega) hk2 rfl rfl)).trans (belowK_b (w := w) (Nat.le_refl _) _ D _ _ (by omega) hk3 rfl rfl)⟩
          case stop2 =>
            rintro D2 c pre x r V hD2 hL h hK2
            exact h.elim
  · have hci : ¬ ((30 : Int) < (n0 : Int)) := by omega
    have hci2 : (n0 : Int) ≤ 30 := by omega
    obtain ⟨m, xs, hm30, hmc, RX⟩ : ∃ (m : Nat) (xs : List Int), m = n0 ∧ m ≤ cap ∧ Hid (RowOI w A m cap xs) := ⟨n0, zs, rfl, by omega, Lib.hid hR⟩
    clear hR
    go_upto_region 4 with (go_at_call 8; (with_reducible refine (AW.out _).mono ?_); rintro e w1 ⟨rfl, hB1⟩; have X3 := below_box H3.out hB1; have X6 := below_box H6.out hB1; have B1 := H2.out.trans (hB1.mono H2.out.size); have c3 := X3.cell; have f3 := X3.frozen)
    obtain ⟨W3, hW3, X3', X6', B3⟩ : ∃ W3, w1 = W3 ∧ Boxed W3 w.heap.size 22 (.slice A m cap) ∧ Boxed W3 (w.heap.size + 1) 4 (.bool false) ∧ Below w.heap.size w W3 := ⟨_, rfl, by rw [hm30]; exact X3, X6, B1⟩
    rw [hW3]
    have hm30' : m ≤ 30 := by omega
    clear hW3 X3 X6 B1 c3 f3 hB1 hci hci2 hm30 H2 H3 H6
    have c3 := X3'.cell
    have NW := Lib.hid (qnewI W3 (RX.out.later B3) (by omega))
    have R1 := Lib.hid (fun W => rest_any pops ((m : Int) + 1) W HP.out (by omega) (by omega))
    obtain ⟨hp0, hp1⟩ := restI_bd pops ((m : Int) + 1) (by omega) (by omega)
    have R2 := Lib.hid (fun W => rest_any many 32 W HM.out (by omega) (by omega))
    obtain ⟨hk0, hk1⟩ := restI_bd many 32 (by omega) (by omega)
    generalize restI pops ((m : Int) + 1) = n at *
    generalize restI many 32 = k at *
    obtain ⟨n, rfl⟩ : ∃ n' : Nat, n = (n' : Int) := ⟨n.toNat, by omega⟩
    obtain ⟨k, rfl⟩ : ∃ k' : Nat, k = (k' : Int) := ⟨k.toNat, by omega⟩
    go_upto_region 6 with (first
      | (go_at_call 9; (with_reducible refine NW.out.mono ?_); rintro e w4 ⟨rfl, ⟨X, hQ⟩, hB4⟩; have X3'' := below_box X3' hB4; have c3' := X3''.cell)
      | (go_at_call 11; (with_reducible refine (R1.out _).mono ?_); rintro e w5 ⟨rfl, rfl⟩))
    have hXb : ∀ j ∈ X, W3.heap.size ≤ j ∧ j < w4.heap.size := fun j hj => hQ.ge j hj
    have hl6 := X6'.lt
    have S0 : St w W3.heap.size W3.heap.size m X xs [(w.heap.size, 22, .slice A m cap), (w.heap.size + 1, 4, .bool false)] w4 := by
      refine ⟨hQ, fun p hp => ?_, fun p hp hx => ?_, B3.trans (hB4.mono B3.size), B3.size, fun p hp => ?_⟩
      · simp at hp
        rcases hp with rfl | rfl
        · exact X3''
        · exact below_box X6' hB4
      · have := hXb _ hx
        simp at hp
        rcases hp with rfl | rfl <;> simp at this <;> omega
      · simp at hp
        rcases hp with rfl | rfl <;> simp
    have S1 := S0.new 3 (.int .i64 (n : Int))
    obtain ⟨W5, hW5, S2⟩ : ∃ W5, w4.alloc (.cells #[.int .i64 (n : Int)] 3) = W5 ∧ Hid (St w W3.heap.size W3.heap.size m X xs [(w4.heap.size, 3, .int .i64 (n : Int)), (w.heap.size, 22, .slice A m cap), (w.heap.size + 1, 4, .bool false)] W5) := ⟨_, rfl, Lib.hid S1⟩
    rw [hW5]
    have hb9 : W3.heap.size < w4.heap.size := (hQ.ge _ hQ.mem).2
    have HL := Lib.hid (show xs.length = m from RX.out.len)
    clear hW5 S0 S1 hQ hB4 X3'' X3' X6' c3 c3' NW R1 hXb
    generalize W3.heap.size = b at *
    generalize w4.heap.size = bn at *
    go_wp2
    go_loopw [10] (fun i wr => ∃ (j : Nat), j ≤ n ∧ i = .int .i64 j ∧ Hid (St w b b m X (xs.drop j) [(bn, 3, .int .i64 (n : Int)), (w.heap.size, 22, .slice A m cap), (w.heap.size + 1, 4, .bool false)] wr)) (fun i _ => n - (intOf i).toNat)
    case atStart => exact ⟨0, by omega, rfl, S2⟩
    case round =>
      obtain ⟨j, hj, rfl, hS⟩ := hrel
      clear S2
      have c9 := (hS.out.bx _ (by simp : (bn, 3, .int .i64 (n : Int)) ∈ _)).cell
      dsimp only at c9
      by_cases hlt : j < n
      · obtain ⟨x, hx⟩ : ∃ x, xs[j]? = some x := ⟨xs[j]'(by rw [HL.out]; omega), List.getElem?_eq_getElem _⟩
        have hd : xs.drop j = x :: xs.drop (j + 1) := by
          have h2 := (List.getElem?_eq_some_iff.1 hx).2
          rw [← h2]; exact List.drop_eq_getElem_cons _
        have PO := Lib.hid (show Calls Try.prog 13 #[.pointer (some ⟨b, 0, none⟩)] wr (StP (.tuple #[.int .i64 x, .bool true]) w b b m X (xs.drop (j + 1)) [(bn, 3, .int .i64 (n : Int)), (w.heap.size, 22, .slice A m cap), (w.heap.size + 1, 4, .bool false)] wr) from by
          have h := hS.out
          rw [hd] at h
          exact st_pop h)
        have hi1 : (j : Int) < (n : Int) := by omega
        clear hx hd
        go_wp2_with (go_at_call 13; (with_reducible refine PO.out.mono ?_); rintro e w6 ⟨rfl, h6, -⟩)
        go_roundw
        case rel => exact ⟨j + 1, by omega, by go_num, Lib.hid h6⟩
        case measure => simp [intOf]; omega
      · obtain rfl : j = n := by omega
        obtain ⟨L, hL⟩ : ∃ L, xs.drop j = L := ⟨_, rfl⟩
        have hLl : L.length = m - j := by rw [← hL, List.length_drop, HL.out]
        have hLx : ∀ i, L[i]? = xs[i + j]? := fun i => by rw [← hL, List.getElem?_drop, Nat.add_comm]
        rw [hL] at hS
        have HLL := Lib.hid hLl
        have HLX := Lib.hid hLx
        clear hL hLl hLx
        go_upto_block 2 with (first
          | (go_at_call 22; refine (all_any _ _).mono ?_; rintro e w' ⟨rfl, rfl⟩)
          | (go_at_call 11; (with_reducible refine (R2.out _).mono ?_); rintro e w5 ⟨rfl, rfl⟩))
        go_wp2
        have hT := ((hS.out.new 24 (.pointer (some ⟨b, 0, none⟩))).new 3 (.int .i64 (k : Int))).new 3 (.int .i64 ((0 : Nat) : Int))
        simp only [World.size_alloc] at hT
        have hnb : bn < wr.heap.size := (hS.out.bx _ (by simp : (bn, 3, .int .i64 (j : Int)) ∈ _)).lt
        have hge := hS.out.b.size
        obtain ⟨W6, hW6, S6⟩ : ∃ W6, ((wr.alloc (.cells #[.pointer (some ⟨b, 0, none⟩)] 24)).alloc (.cells #[.int .i64 (k : Int)] 3)).alloc (.cells #[.int .i64 0] 3) = W6 ∧ Hid (St w b b m X L [(wr.heap.size + 1 + 1, 3, .int .i64 ((0 : Nat) : Int)), (wr.heap.size + 1, 3, .int .i64 (k : Int)), (wr.heap.size, 24, .pointer (some ⟨b, 0, none⟩)), (bn, 3, .int .i64 (j : Int)), (w.heap.size, 22, .slice A m cap), (w.heap.size + 1, 4, .bool false)] W6) := ⟨_, rfl, Lib.hid hT⟩
        simp only [hW6]
        have hlt6 := (S6.out.bx _ List.mem_cons_self).lt
        have hge6 := S6.out.b.size
        dsimp only at hlt6
        clear hW6 hT hS c9 R2 hlt
        generalize wr.heap.size = bq at *
        refine (wpIn_wide (n := 9)).1 ?_
        refine wpIn_named fun fr hfr => ?_
        refine rangeA (vals := fun x : Int × Nat => #[.int .i64 (x.2 : Int), .int .i64 x.1]) (gf := 33) (lb := #[.pointer (some ⟨bq, 0, none⟩)]) (by rw [hfr]; rfl) (enters_of Try.func33 (by kernel_rfl) rfl)
          (st_all (9 - 1) (by omega) [bq + 1 + 1] S6.out (by rw [HLL.out]; omega) (by simp) (by simp; omega)) (Below.refl _ _) (fun x => rfl)
          (fun pre V => St w b b m X L [(bq + 1 + 1, 3, .int .i64 (pre.length : Int)), (bq + 1, 3, .int .i64 (k : Int)), (bq, 24, .pointer (some ⟨b, 0, none⟩)), (bn, 3, .int .i64 (j : Int)), (w.heap.size, 22, .slice A m cap), (w.heap.size + 1, 4, .bool false)] V ∧ pre.length ≤ k)
          (fun c pre V => c = .exit 2 ∧ pre.length = k + 1 ∧ St w b b m X L [(bq + 1 + 1, 3, .int .i64 (k : Int)), (bq + 1, 3, .int .i64 (k : Int)), (bq, 24, .pointer (some ⟨b, 0, none⟩)), (bn, 3, .int .i64 (j : Int)), (w.heap.size, 22, .slice A m cap), (w.heap.size + 1, 4, .bool false)] V)
          (fun pre X Y row h hg hr => ⟨h.1.own hg hr hge6, h.2⟩) (fun c s X Y row h hg hr => ⟨h.1, h.2.1, h.2.2.own hg hr hge6⟩) ⟨S6.out, Nat.zero_le _⟩
          (fun x => { tmps := (((fr.tmps.setIfInBounds 44 (.int .i64 (x.2 : Int))).setIfInBounds 45 (.int .i64 x.1)).setIfInBounds 14 (.int .i64 (x.2 : Int))).setIfInBounds 15 (.int .i64 x.1), defers := [] })
          ?assign ?body ?done ?stop
        case assign =>
          intro l2 x V K hK
          subst hfr
          gi_wp2
          exact hK
        case body =>
          rintro l2 pre ⟨x, i⟩ r V ⟨hS, hle⟩ hL
          subst hfr
          obtain ⟨hx2, hx1, hlp⟩ := prs_at hL
          dsimp only at hx2 hx1
          subst hx2
          rw [HLL.out] at hlp
          rw [HLX.out] at hx1
          have cg := (hS.bx _ (by simp : (bq + 1 + 1, 3, .int .i64 (pre.length : Int)) ∈ _)).cell
          have fg := (hS.bx _ (by simp : (bq + 1 + 1, 3, .int .i64 (pre.length : Int)) ∈ _)).frozen
          have ck := (hS.bx _ (by simp : (bq + 1, 3, .int .i64 (k : Int)) ∈ _)).cell
          have cn := (hS.bx _ (by simp : (bn, 3, .int .i64 (j : Int)) ∈ _)).cell
          have cl := (hS.bx _ (by simp : (w.heap.size, 22, .slice A m cap) ∈ _)).cell
          dsimp only at cg fg ck cn cl
          obtain ⟨rb, ro, rfl, -, cx⟩ := (RX.out.later hS.b).at hx1
          have hSet := Lib.hid (fun u => hS.set (bs' := [(bq + 1 + 1, 3, u), (bq + 1, 3, .int .i64 (k : Int)), (bq, 24, .pointer (some ⟨b, 0, none⟩)), (bn, 3, .int .i64 (j : Int)), (w.heap.size, 22, .slice (some ⟨rb, ro, none⟩) m cap), (w.heap.size + 1, 4, .bool false)]) u (by simp : (bq + 1 + 1, 3, .int .i64 (pre.length : Int)) ∈ _) (by
            intro p hp
            simp at hp
            rcases hp with rfl | rfl | rfl | rfl | rfl | rfl
            · exact .inl rfl
            all_goals exact .inr ⟨by simp, by simp <;> omega⟩))
          obtain ⟨q, hq⟩ : ∃ q, pre.length = q := ⟨_, rfl⟩
          obtain ⟨s, hs⟩ : ∃ s, q + j = s := ⟨_, rfl⟩
          have hqn : (q : Int) + (j : Int) = (s : Int) := by omega
          have hLN := Lib.hid (show (pre ++ [(x, pre.length)]).length = q + 1 by simp [hq])
          have HSS := Lib.hid hS
          rw [hq] at cg hle hlp cx
          simp only [hq]
          rw [hq] at hLN HSS
          rw [hs] at cx
          have hq30 : (q : Int) ≤ 30 := by omega
          have hj30 : (j : Int) ≤ 30 := by omega
          have hm31 : (m : Int) ≤ 30 := by omega
          simp only [List.setIfInBounds_toArray, List.set_cons_succ, List.set_cons_zero]
          clear hS hL hx1
          by_cases hqk : q = k
          · subst hqk
            clear hSet
            gi_wp2
            exact ⟨KeepsFrom.refl _ _, rfl, hLN.out, HSS.out⟩
          · have hqk1 : ((q : Int) == (k : Int)) = false := by simp; omega
            have hqk2 : ¬ ((q : Int) = (k : Int)) := by omega
            have hge2 : ¬ ((m : Int) ≤ (s : Int)) := by omega
            have hge3 : (s : Int) < (m : Int) := by omega
            have hge4 : (0 : Int) ≤ (s : Int) := by omega
            clear hq hs
            gi_wp2
            refine ⟨(KeepsOthers.setCell _ _ _).from _, KeepC.kept ((Kept.refl _ _).set _ _ _ (by simp)), ?_, by rw [hLN.out]; omega⟩
            rw [hLN.out, Int.natCast_succ]
            exact hSet.out _
        case done =>
          rintro D V hD ⟨hS, hle⟩ hK
          subst hfr
          dsimp only
          rw [prs_len, HLL.out] at hS hle
          obtain ⟨G, hG⟩ : ∃ G, m - j = G := ⟨_, rfl⟩
          rw [hG] at hS hle
          have hGm : min (k : Int) ((m : Int) - (j : Int)) = (G : Int) := by omega
          have hGk : G ≤ 30 := by omega
          clear hG hle
          gi_wp2
          go_wp2
          have hT7 := hS.new 3 (.int .i64 ((0 : Nat) : Int))
          have hgV := (hS.bx _ List.mem_cons_self).lt
          have hKV := (Array.getElem?_eq_some_iff.1 hK).1
          dsimp only at hgV
          obtain ⟨W7, hW7, S7, hK7⟩ : ∃ W7, V.alloc (.cells #[.int .i64 0] 3) = W7 ∧ Hid (St w b b m X L [(V.heap.size, 3, .int .i64 ((0 : Nat) : Int)), (bq + 1 + 1, 3, .int .i64 (G : Int)), (bq + 1, 3, .int .i64 (k : Int)), (bq, 24, .pointer (some ⟨b, 0, none⟩)), (bn, 3, .int .i64 (j : Int)), (w.heap.size, 22, .slice A m cap), (w.heap.size + 1, 4, .bool false)] W7) ∧ W7.heap[D]? = some (.deferred (some [])) := ⟨_, rfl, Lib.hid hT7, (Below.heap_alloc _ _ _ hKV).trans hK⟩
          simp only [hW7]
          have hlt7 := (S7.out.bx _ List.mem_cons_self).lt
          have hge7 := S7.out.b.size
          have hDl := (Array.getElem?_eq_some_iff.1 hK7).1
          dsimp only at hlt7
          clear hW7 hT7 hS hK S6
          generalize V.heap.size = ba at *
          refine (wpIn_wide (n := 9)).1 ?_
          refine wpIn_named fun fr2 hfr2 => ?_
          refine rangeA (vals := fun x : Int × Nat => #[.int .i64 (x.2 : Int), .int .i64 x.1]) (gf := 33) (lb := #[.pointer (some ⟨bq, 0, none⟩)]) (by rw [hfr2]; rfl) (enters_of Try.func33 (by kernel_rfl) rfl)
            (st_all (9 - 1) (by omega) [ba] S7.out (by rw [HLL.out]; omega) (by simp) (by simp; omega)) (Below.refl _ _) (fun x => rfl)
            (fun pre V => St w b b m X L [(ba, 3, .int .i64 (pre.length : Int)), (bq + 1 + 1, 3, .int .i64 (G : Int)), (bq + 1, 3, .int .i64 (k : Int)), (bq, 24, .pointer (some ⟨b, 0, none⟩)), (bn, 3, .int .i64 (j : Int)), (w.heap.size, 22, .slice A m cap), (w.heap.size + 1, 4, .bool false)] V ∧ V.heap[D]? = some (.deferred (some [])))
            (fun c pre V => False)
            (fun pre X Y row h hg hr => ⟨h.1.own hg hr hge7, (hg.block D (Array.getElem?_eq_some_iff.1 h.2).1 (fun e => by have := (hr D e.symm).1; omega)).trans h.2⟩) (fun c s X Y row h hg hr => h) ⟨S7.out, hK7⟩
            (fun x => { tmps := (fr2.tmps.setIfInBounds 73 (.int .i64 (x.2 : Int))).setIfInBounds 74 (.int .i64 x.1), defers := [] })
            ?assign2 ?body2 ?done2 ?stop2
          case assign2 =>
            intro l2 x V K hK
            subst hfr2
            gi_wp2
            exact hK
          case body2 =>
            rintro l2 pre ⟨x, i⟩ r V ⟨hS, hKD⟩ hL
            subst hfr2
            obtain ⟨-, -, hlp⟩ := prs_at hL
            rw [HLL.out] at hlp
            have ca := (hS.bx _ (by simp : (ba, 3, .int .i64 (pre.length : Int)) ∈ _)).cell
            have fa := (hS.bx _ (by simp : (ba, 3, .int .i64 (pre.length : Int)) ∈ _)).frozen
            dsimp only at ca fa
            have hSet := Lib.hid (fun u => hS.set (bs' := [(ba, 3, u), (bq + 1 + 1, 3, .int .i64 (G : Int)), (bq + 1, 3, .int .i64 (k : Int)), (bq, 24, .pointer (some ⟨b, 0, none⟩)), (bn, 3, .int .i64 (j : Int)), (w.heap.size, 22, .slice A m cap), (w.heap.size + 1, 4, .bool false)]) u (by simp : (ba, 3, .int .i64 (pre.length : Int)) ∈ _) (by
              intro p hp
              simp at hp
              rcases hp with rfl | rfl | rfl | rfl | rfl | rfl | rfl
              · exact .inl rfl
              all_goals exact .inr ⟨by simp, by simp <;> omega⟩))
            obtain ⟨q, hq⟩ : ∃ q, pre.length = q := ⟨_, rfl⟩
            have hLN := Lib.hid (show (pre ++ [(x, i)]).length = q + 1 by simp [hq])
            rw [hq] at ca hlp
            have hq30 : (q : Int) ≤ 30 := by omega
            have HKD := Lib.hid hKD
            simp only [List.setIfInBounds_toArray, List.set_cons_succ, List.set_cons_zero]
            clear hS hL hKD
            gi_wp2
            refine ⟨(KeepsOthers.setCell _ _ _).from _, KeepC.kept ((Kept.refl _ _).set _ _ _ (by simp)), ?_, ?_⟩
            · rw [hLN.out, Int.natCast_succ]
              exact hSet.out _
            · rw [Below.heap_setCell _ _ _ _ (by simp; omega)]
              exact HKD.out
          case done2 =>
            rintro D2 V hD2 ⟨hS, hKD⟩ hK2
            subst hfr2
            dsimp only
            rw [prs_len, HLL.out] at hS
            obtain ⟨R, hR⟩ : ∃ R, m - j = R := ⟨_, rfl⟩
            have hmj : (m : Int) - (j : Int) = (R : Int) := by omega
            have hR30 : (R : Int) ≤ 30 := by omega
            have hwr : IntKind.i64.wrap (R : Int) = (R : Int) := by rw [IntKind.wrap_i64]; omega
            have hm30i : (m : Int) ≤ 30 := by omega
            have hj30i : (j : Int) ≤ 30 := by omega
            rw [hR] at hS
            rw [hmj] at hGm
            have LN2 := Lib.hid (show Calls Try.prog 20 #[.pointer (some ⟨b, 0, none⟩)] V.drew fun e w' => e = .returned (.int .i64 (R : Int)) ∧ w' = V.drew from (st_len (n := (R : Int)) (hS.later (below_drew V)) (by rw [HLL.out, hR])).mono (fun e w' h => ⟨h.1, h.2.symm⟩))
            have c13 := (hS.bx _ (by simp : (bq + 1 + 1, 3, .int .i64 (G : Int)) ∈ _)).cell
            have c12 := (hS.bx _ (by simp : (bq + 1, 3, .int .i64 (k : Int)) ∈ _)).cell
            have c3 := (hS.bx _ (by simp : (w.heap.size, 22, .slice A m cap) ∈ _)).cell
            have c9 := (hS.bx _ (by simp : (bn, 3, .int .i64 (j : Int)) ∈ _)).cell
            have c16 := (hS.bx _ (by simp : (ba, 3, .int .i64 (R : Int)) ∈ _)).cell
            have c6 := (hS.bx _ (by simp : (w.heap.size + 1, 4, .bool false) ∈ _)).cell
            have f6 := (hS.bx _ (by simp : (w.heap.size + 1, 4, .bool false) ∈ _)).frozen
            have x6 := Lib.hid (show Boxed V (w.heap.size + 1) 4 (.bool false) from hS.bx _ (by simp : (w.heap.size + 1, 4, .bool false) ∈ _))
            have HB := Lib.hid hS.b
            have HK1 := Lib.hid hKD
            have HK2 := Lib.hid hK2
            dsimp only at c13 c12 c3 c9 c16 c6 f6
            clear hS hKD hK2 hR S7 hK7
            go_wp2
            go_still_tail 25, (by kernel_rfl)
            still_call LN2.out
            repeat still_step
            refine wpStill_nil ?_
            change wpList _ _ _ _ _ V.drew
            have c6' : V.drew.cell? ⟨w.heap.size + 1, 0, none⟩ = _ := c6
            have f6' : V.drew.frozen? ⟨w.heap.size + 1, 0, none⟩ = false := f6
            have hb9 : Boxed (V.drew.setCell ⟨w.heap.size + 1, 0, none⟩ (.bool true)) (w.heap.size + 1) 4 (.bool true) := Boxed.set (.bool true) (show Boxed V.drew (w.heap.size + 1) 4 (.bool false) from x6.out)
            have hB9 : Below w.heap.size w (V.drew.setCell ⟨w.heap.size + 1, 0, none⟩ (.bool true)) := (show Below w.heap.size w V.drew from ⟨HB.out.os, HB.out.tape, HB.out.output, HB.out.size, HB.out.block⟩).setCell (by simp) _
            have hk1 : (V.drew.setCell ⟨w.heap.size + 1, 0, none⟩ (.bool true)).heap[D]? = some (.deferred (some [])) := by
              rw [Below.heap_setCell _ _ _ _ (by simp; omega)]; exact HK1.out
            have hk2 : (V.drew.setCell ⟨w.heap.size + 1, 0, none⟩ (.bool true)).heap[D2]? = some (.deferred (some [])) := by
              rw [Below.heap_setCell _ _ _ _ (by simp; omega)]; exact HK2.out
            clear c6 f6 x6 HB HK1 HK2 c13 c12 c3 c9 c16 LN2
            generalize hV2 : V.drew = V2 at *
            go_wp2
            generalize V2.setCell ⟨w.heap.size + 1, 0, none⟩ (.bool true) = V9 at *
            have hk3 : (V9.putObj D2 (.deferred none)).heap[D]? = some (.deferred (some [])) := (World.putObj_heap_other (by omega)).trans hk1
            refine ⟨by simp, .inl ⟨_, _, rfl, run_takeDeferred hk2, ⟨by simp, .inl ⟨_, _, rfl, run_takeDeferred hk3, ?_⟩⟩⟩⟩
            have hc : ((V9.putObj D2 (.deferred none)).putObj D (.deferred none)).cell? ⟨w.heap.size + 1, 0, none⟩ = some (.bool true) := by
              rw [← hb9.cell]; simp [World.cell?, World.putObj_heap_other (show w.heap.size + 1 ≠ D by omega), World.putObj_heap_other (show w.heap.size + 1 ≠ D2 by omega)]
            exact ⟨.bool true, by simp [results, Try.f6, go_sem, hc], rfl, (hB9.trans (belowK_b (w := w) (Nat.le_refl _) V9 D2 _ _ (by omega) hk2 rfl rfl)).trans (belowK_b (w := w) (Nat.le_refl _) _ D _ _ (by omega) hk3 rfl rfl)⟩
          case stop2 =>
            rintro D2 c pre x r V hD2 hL h hK2
            exact h.elim
        case stop =>
          rintro D c pre x r V hD hL ⟨rfl, hlen, hS⟩ hK
          subst hfr
          dsimp only
          obtain ⟨G, hG⟩ : ∃ G, k = G := ⟨_, rfl⟩
          have hlL := congrArg List.length hL
          rw [prs_len, HLL.out] at hlL
          simp at hlL hlen
          have hGm : min (k : Int) ((m : Int) - (j : Int)) = (G : Int) := by omega
          have hGk : G ≤ 30 := by omega
          have hS : St w b b m X L [(bq + 1 + 1, 3, .int .i64 (G : Int)), (bq + 1, 3, .int .i64 (k : Int)), (bq, 24, .pointer (some ⟨b, 0, none⟩)), (bn, 3, .int .i64 (j : Int)), (w.heap.size, 22, .slice A m cap), (w.heap.size + 1, 4, .bool false)] V := by rw [← hG]; exact hS
          clear hG hL hlL hlen
          gi_wp2
          go_wp2
          have hT7 := hS.new 3 (.int .i64 ((0 : Nat) : Int))
          have hgV := (hS.bx _ List.mem_cons_self).lt
          have hKV := (Array.getElem?_eq_some_iff.1 hK).1
          dsimp only at hgV
          obtain ⟨W7, hW7, S7, hK7⟩ : ∃ W7, V.alloc (.cells #[.int .i64 0] 3) = W7 ∧ Hid (St w b b m X L [(V.heap.size, 3, .int .i64 ((0 : Nat) : Int)), (bq + 1 + 1, 3, .int .i64 (G : Int)), (bq + 1, 3, .int .i64 (k : Int)), (bq, 24, .pointer (some ⟨b, 0, none⟩)), (bn, 3, .int .i64 (j : Int)), (w.heap.size, 22, .slice A m cap), (w.heap.size + 1, 4, .bool false)] W7) ∧ W7.heap[D]? = some (.deferred (some [])) := ⟨_, rfl, Lib.hid hT7, (Below.heap_alloc _ _ _ hKV).trans hK⟩
          simp only [hW7]
          have hlt7 := (S7.out.bx _ List.mem_cons_self).lt
          have hge7 := S7.out.b.size
          have hDl := (Array.getElem?_eq_some_iff.1 hK7).1
          dsimp only at hlt7
          clear hW7 hT7 hS hK S6
          generalize V.heap.size = ba at *
          refine (wpIn_wide (n := 9)).1 ?_
          refine wpIn_named fun fr2 hfr2 => ?_
          refine rangeA (vals := fun x : Int × Nat => #[.int .i64 (x.2 : Int), .int .i64 x.1]) (gf := 33) (lb := #[.pointer (some ⟨bq, 0, none⟩)]) (by rw [hfr2]; rfl) (enters_of Try.func33 (by kernel_rfl) rfl)
            (st_all (9 - 1) (by omega) [ba] S7.out (by rw [HLL.out]; omega) (by simp) (by simp; omega)) (Below.refl _ _) (fun x => rfl)
            (fun pre V => St w b b m X L [(ba, 3, .int .i64 (pre.length : Int)), (bq + 1 + 1, 3, .int .i64 (G : Int)), (bq + 1, 3, .int .i64 (k : Int)), (bq, 24, .pointer (some ⟨b, 0, none⟩)), (bn, 3, .int .i64 (j : Int)), (w.heap.size, 22, .slice A m cap), (w.heap.size + 1, 4, .bool false)] V ∧ V.heap[D]? = some (.deferred (some [])))
            (fun c pre V => False)
            (fun pre X Y row h hg hr => ⟨h.1.own hg hr hge7, (hg.block D (Array.getElem?_eq_some_iff.1 h.2).1 (fun e => by have := (hr D e.symm).1; omega)).trans h.2⟩) (fun c s X Y row h hg hr => h) ⟨S7.out, hK7⟩
            (fun x => { tmps := (fr2.tmps.setIfInBounds 73 (.int .i64 (x.2 : Int))).setIfInBounds 74 (.int .i64 x.1), defers := [] })
            ?assign2 ?body2 ?done2 ?stop2
          case assign2 =>
            intro l2 x V K hK
            subst hfr2
            gi_wp2
            exact hK
          case body2 =>
            rintro l2 pre ⟨x, i⟩ r V ⟨hS, hKD⟩ hL
            subst hfr2
            obtain ⟨-, -, hlp⟩ := prs_at hL
            rw [HLL.out] at hlp
            have ca := (hS.bx _ (by simp : (ba, 3, .int .i64 (pre.length : Int)) ∈ _)).cell
            have fa := (hS.bx _ (by simp : (ba, 3, .int .i64 (pre.length : Int)) ∈ _)).frozen
            dsimp only at ca fa
            have hSet := Lib.hid (fun u => hS.set (bs' := [(ba, 3, u), (bq + 1 + 1, 3, .int .i64 (G : Int)), (bq + 1, 3, .int .i64 (k : Int)), (bq, 24, .pointer (some ⟨b, 0, none⟩)), (bn, 3, .int .i64 (j : Int)), (w.heap.size, 22, .slice A m cap), (w.heap.size + 1, 4, .bool false)]) u (by simp : (ba, 3, .int .i64 (pre.length : Int)) ∈ _) (by
              intro p hp
              simp at hp
              rcases hp with rfl | rfl | rfl | rfl | rfl | rfl | rfl
              · exact .inl rfl
              all_goals exact .inr ⟨by simp, by simp <;> omega⟩))
            obtain ⟨q, hq⟩ : ∃ q, pre.length = q := ⟨_, rfl⟩
            have hLN := Lib.hid (show (pre ++ [(x, i)]).length = q + 1 by simp [hq])
            rw [hq] at ca hlp
            have hq30 : (q : Int) ≤ 30 := by omega
            have HKD := Lib.hid hKD
            simp only [List.setIfInBounds_toArray, List.set_cons_succ, List.set_cons_zero]
            clear hS hL hKD
            gi_wp2
            refine ⟨(KeepsOthers.setCell _ _ _).from _, KeepC.kept ((Kept.refl _ _).set _ _ _ (by simp)), ?_, ?_⟩
            · rw [hLN.out, Int.natCast_succ]
              exact hSet.out _
            · rw [Below.heap_setCell _ _ _ _ (by simp; omega)]
              exact HKD.out
          case done2 =>
            rintro D2 V hD2 ⟨hS, hKD⟩ hK2
            subst hfr2
            dsimp only
            rw [prs_len, HLL.out] at hS
            obtain ⟨R, hR⟩ : ∃ R, m - j = R := ⟨_, rfl⟩
            have hmj : (m : Int) - (j : Int) = (R : Int) := by omega
            have hR30 : (R : Int) ≤ 30 := by omega
            have hwr : IntKind.i64.wrap (R : Int) = (R : Int) := by rw [IntKind.wrap_i64]; omega
            have hm30i : (m : Int) ≤ 30 := by omega
            have hj30i : (j : Int) ≤ 30 := by omega
            rw [hR] at hS
            rw [hmj] at hGm
            have LN2 := Lib.hid (show Calls Try.prog 20 #[.pointer (some ⟨b, 0, none⟩)] V.drew fun e w' => e = .returned (.int .i64 (R : Int)) ∧ w' = V.drew from (st_len (n := (R : Int)) (hS.later (below_drew V)) (by rw [HLL.out, hR])).mono (fun e w' h => ⟨h.1, h.2.symm⟩))
            have c13 := (hS.bx _ (by simp : (bq + 1 + 1, 3, .int .i64 (G : Int)) ∈ _)).cell
            have c12 := (hS.bx _ (by simp : (bq + 1, 3, .int .i64 (k : Int)) ∈ _)).cell
            have c3 := (hS.bx _ (by simp : (w.heap.size, 22, .slice A m cap) ∈ _)).cell
            have c9 := (hS.bx _ (by simp : (bn, 3, .int .i64 (j : Int)) ∈ _)).cell
            have c16 := (hS.bx _ (by simp : (ba, 3, .int .i64 (R : Int)) ∈ _)).cell
            have c6 := (hS.bx _ (by simp : (w.heap.size + 1, 4, .bool false) ∈ _)).cell
            have f6 := (hS.bx _ (by simp : (w.heap.size + 1, 4, .bool false) ∈ _)).frozen
            have x6 := Lib.hid (show Boxed V (w.heap.size + 1) 4 (.bool false) from hS.bx _ (by simp : (w.heap.size + 1, 4, .bool false) ∈ _))
            have HB := Lib.hid hS.b
            have HK1 := Lib.hid hKD
            have HK2 := Lib.hid hK2
            dsimp only at c13 c12 c3 c9 c16 c6 f6
            clear hS hKD hK2 hR S7 hK7
            go_wp2
            go_still_tail 25, (by kernel_rfl)
            still_call LN2.out
            repeat still_step
            refine wpStill_nil ?_
            change wpList _ _ _ _ _ V.drew
            have c6' : V.drew.cell? ⟨w.heap.size + 1, 0, none⟩ = _ := c6
            have f6' : V.drew.frozen? ⟨w.heap.size + 1, 0, none⟩ = false := f6
            have hb9 : Boxed (V.drew.setCell ⟨w.heap.size + 1, 0, none⟩ (.bool true)) (w.heap.size + 1) 4 (.bool true) := Boxed.set (.bool true) (show Boxed V.drew (w.heap.size + 1) 4 (.bool false) from x6.out)
            have hB9 : Below w.heap.size w (V.drew.setCell ⟨w.heap.size + 1, 0, none⟩ (.bool true)) := (show Below w.heap.size w V.drew from ⟨HB.out.os, HB.out.tape, HB.out.output, HB.out.size, HB.out.block⟩).setCell (by simp) _
            have hk1 : (V.drew.setCell ⟨w.heap.size + 1, 0, none⟩ (.bool true)).heap[D]? = some (.deferred (some [])) := by
              rw [Below.heap_setCell _ _ _ _ (by simp; omega)]; exact HK1.out
            have hk2 : (V.drew.setCell ⟨w.heap.size + 1, 0, none⟩ (.bool true)).heap[D2]? = some (.deferred (some [])) := by
              rw [Below.heap_setCell _ _ _ _ (by simp; omega)]; exact HK2.out
            clear c6 f6 x6 HB HK1 HK2 c13 c12 c3 c9 c16 LN2
            generalize hV2 : V.drew = V2 at *
            go_wp2
            generalize V2.setCell ⟨w.heap.size + 1, 0, none⟩ (.bool true) = V9 at *
            have hk3 : (V9.putObj D2 (.deferred none)).heap[D]? = some (.deferred (some [])) := (World.putObj_heap_other (by omega)).trans hk1
            refine ⟨by simp, .inl ⟨_, _, rfl, run_takeDeferred hk2, ⟨by simp, .inl ⟨_, _, rfl, run_takeDeferred hk3, ?_⟩⟩⟩⟩
            have hc : ((V9.putObj D2 (.deferred none)).putObj D (.deferred none)).cell? ⟨w.heap.size + 1, 0, none⟩ = some (.bool true) := by
              rw [← hb9.cell]; simp [World.cell?, World.putObj_heap_other (show w.heap.size + 1 ≠ D by omega), World.putObj_heap_other (show w.heap.size + 1 ≠ D2 by omega)]
            exact ⟨.bool true, by simp [results, Try.f6, go_sem, hc], rfl, (hB9.trans (belowK_b (w := w) (Nat.le_refl _) V9 D2 _ _ (by omega) hk2 rfl rfl)).trans (belowK_b (w := w) (Nat.le_refl _) _ D _ _ (by omega) hk3 rfl rfl)⟩
          case stop2 =>
            rintro D2 c pre x r V hD2 hL h hK2
            exact h.elim
end Go.Proofs.Ytgcchmenadgboaa
