/- HeapSorts. -/
import Derived.Test.YtebbpgokhelmdaaBth
import Derived.RegionTactic
import Derived.ChangeAlike
import Derived.RegionIn
namespace Go.Proofs.Ytebbpgokhelmdaa
open Go.RowKit Go.Shelf
set_option linter.unusedVariables false
set_option linter.unusedSimpArgs false
attribute [local go_sem] Oper.semAt_some
theorem wpIn_named {F : Fence} {n : Nat} {P : Program} {c : Code} {Q : Exit → Act → World → Prop} {a : Act} {w : World} (h : ∀ a', a' = a → Code.wpIn F n P c Q a' w) : Code.wpIn F n P c Q a w := h a rfl
set_option maxRecDepth 100000 in
set_option maxHeartbeats 8000000 in
theorem hsorts_walk (A : Option Addr) (n cap : Nat) (z : List Int) (A' : Option Addr) (n' cap' : Nat) (z' : List ByteArray) (w : World) (hr : IntRow w A n cap z) (hr' : StrRow w A' n' cap' z') : Calls Try.prog 4 #[.slice A n cap, .slice A' n' cap'] w (OkB w) := by
  obtain ⟨hR, hn, h1, h2⟩ := hr.row
  obtain ⟨hR', hn', h1', h2'⟩ := hr'.row
  clear hr hr'
  have AW := Lib.hid awake_any
  have NS := Lib.hid (fun W => new_anyS (A := none) (n := 0) (cap := 0) (xs := []) W (fun i x hx => by simp at hx) rfl (by omega) (by omega) (by omega))
  have hfn := Lib.hid run_eql_seqI
  generalize z.take n = zs at *
  generalize z'.take n' = ss at *
  refine (callsIn_wide (n := 9)).1 ?_
  refine callsIn_of_wp_marks Try.func4 rfl trivial ?_ rfl
  simp only [Try.ntmps4, List.size_toArray, List.length_cons, List.length_nil, Nat.reduceAdd, Nat.reduceSub, Array.replicate_succ, Array.replicate_zero, List.push_toArray, List.append_toArray, List.nil_append, List.cons_append]
  rcases Nat.lt_or_ge 60 n with hc | hc
  · have hci : (60 : Int) < (n : Int) := by omega
    have hci2 : (60 : Int) ≤ (n : Int) := by omega
    obtain ⟨xs, RX, HX⟩ : ∃ xs, Hid (RowOfI w A xs) ∧ Hid (xs.length = 60) := ⟨zs.take 60, Lib.hid (hR.take 60), Lib.hid (by rw [List.length_take, hn]; omega)⟩
    clear hR hn zs
    have hN6 : 60 ≤ 60 := Nat.le_refl _
    have hNc : 60 ≤ cap := by omega
    rcases Nat.lt_or_ge 60 n' with hd | hd
    · have hdi : (60 : Int) < (n' : Int) := by omega
      have hdi2 : (60 : Int) ≤ (n' : Int) := by omega
      obtain ⟨ys, RY, HY⟩ : ∃ ys, Hid (RowOfS w A' ys) ∧ Hid (ys.length = 60) := ⟨ss.take 60, Lib.hid (hR'.take 60), Lib.hid (by rw [List.length_take, hn']; omega)⟩
      clear hR' hn' ss
      gi_wp2_with (first
        | (refine ⟨trivial, ?_⟩; gi_at_call 8; refine (callsIn_wide.2 (AW.out _)).mono ?_; rintro e w1 ⟨rfl, hB1⟩)
        | (refine ⟨trivial, ?_⟩; gi_at_call 18; refine (callsIn_wide.2 (new_anyI (xs := xs) _ (RX.out.later hB1) HX.out (by omega) (by omega) (by omega))).mono ?_; rintro e w2 ⟨X, rfl, hH2, hB2⟩)
        | (refine ⟨trivial, ?_⟩; gi_at_call 20; refine (callsIn_wide.2 (NS.out _)).mono ?_; rintro e w3 ⟨X', rfl, hH3, hB3⟩))
      have hS0 : Both w w1.heap.size w2.heap.size w3 X 60 (allInI xs) X' 0 (allInS (ys.take 0)) :=
        ⟨hH2.later hB3, hH3, (hB1.trans (hB2.mono hB1.size)).trans (hB3.mono (hB1.trans (hB2.mono hB1.size)).size), fun k hk => (hH2.ge k hk).2, hB1.size, hB2.size⟩
      have HS0 := Lib.hid hS0
      clear hH2 hH3 hB1 hB2 hB3 hS0 NS hfn
      generalize w1.heap.size = B1 at *
      generalize w2.heap.size = B2 at *
      gi_loopw [8] (fun i wr => ∃ (k : Nat) (X' : List Nat), k ≤ 60 ∧ i = .int .i64 k ∧ Hid (Both w B1 B2 wr X 60 (allInI xs) X' k (allInS (ys.take k)))) (fun i _ => 60 - (intOf i).toNat)
      case atStart => exact ⟨0, X', Nat.zero_le _, rfl, HS0⟩
      case round =>
        obtain ⟨k, X2, hk, rfl, hS⟩ := hrel
        clear HS0
        have hk0 : (0 : Int) ≤ (k : Int) := by omega
        by_cases hlt : k < 60
        · have hi1 : (k : Int) < (60 : Int) := by omega
          obtain ⟨y, hy⟩ : ∃ y, ys[k]? = some y := ⟨ys[k]'(by rw [HY.out]; exact hlt), List.getElem?_eq_getElem _⟩
          obtain ⟨rb, ro, rfl, hrl, hoy, y0⟩ := RY.out.later hS.out.b k y hy
          have PU := hS.out.push hoy (by omega)
          rw [← allIn_snocS, ← take_one hy] at PU
          have PU := Lib.hid PU
          clear hy hoy
          gi_wp2_with (refine ⟨trivial, ?_⟩; gi_at_call 22; refine (callsIn_wide.2 PU.out).mono ?_; rintro e w4 ⟨rfl, X4, hS4⟩)
          have HS4 := Lib.hid hS4
          clear hS4 PU
          go_roundw
          case rel => exact ⟨k + 1, X4, by omega, by go_num, HS4⟩
          case measure => simp [intOf] <;> omega
        · have hkM : k = 60 := by omega
          have HS1 : Hid (Both w B1 B2 wr X 60 (allInI xs) X2 60 (allInS ys)) := Lib.hid (by have := hS.out; rw [hkM, List.take_of_length_le (by rw [HY.out]; exact Nat.le_refl _)] at this; exact this)
          have hi1 : ¬ ((k : Int) < (60 : Int)) := by omega
          clear hkM hS
          gi_wp2
          gi_loopw [9, 10] (fun many last wr => ∃ (p r : List Int) (pl : Nat) (la : Int), many = .int .i64 (pl : Int) ∧ last = .int .i64 la ∧ Hid (p.length = pl) ∧ Hid (allInI xs = p ++ r) ∧ Hid (p ≠ [] → ∀ y ∈ r, la ≤ y) ∧ Hid (Both w B1 B2 wr X 60 r X2 60 (allInS ys))) (fun many _ _ => 60 - (intOf many).toNat)
          case atStart => exact ⟨[], allInI xs, 0, 0, rfl, rfl, Lib.hid rfl, Lib.hid rfl, Lib.hid (fun h => absurd rfl h), HS1⟩
          case round =>
            obtain ⟨p, r, pl, la, rfl, rfl, hpl, hpr, hla, hS⟩ := hrel
            clear HS1
            have hlen : p.length + r.length = 60 := by
              have := (allIn_sortedI xs).2.length_eq
              rw [hpr.out, HX.out, List.length_append] at this
              exact this
            have hpl0 : (0 : Int) ≤ (pl : Int) := by omega
            cases r with
            | nil =>
              have HL := Lib.hid (len_isI hS.out.i (n := 0) rfl)
              have hplN := Lib.hid (show pl = 60 by have := hpl.out; simp at hlen; omega)
              clear hlen
              gi_wp2_with (refine ⟨trivial, ?_⟩; gi_at_call 23; refine (callsIn_wide.2 HL.out).mono ?_; rintro e w4 ⟨rfl, rfl⟩)
              have hb2 := Lib.hid (Nat.le_trans hS.out.le hS.out.le2)
              have hs3 : Sm w B2 wr.heap.size (wr.alloc (.cells #[.int .i64 0] 3)) X2 60 (allInS ys) (wrap64 (xs.take 0).sum) :=
                ⟨hS.out.s.later ((Below.refl _ _).alloc (Nat.le_refl _) _), hS.out.b.alloc hS.out.b.size _, (by have := Boxed.new wr 3 (.int .i64 0); simpa [wrap64] using this), fun k hk => (hS.out.s.ge k hk).2, hb2.out⟩
              have HS3 := Lib.hid hs3
              have hplE := hplN.out
              clear hs3 hS hpr hla hpl HL hplN hb2
              generalize wr.alloc (.cells #[.int .i64 0] 3) = w5 at *
              generalize wr.heap.size = nb at *
              gi_loopw [14] (fun i wr => ∃ (k : Nat), k ≤ 60 ∧ i = .int .i64 (k : Int) ∧ Hid (Sm w B2 nb wr X2 60 (allInS ys) (wrap64 (xs.take k).sum))) (fun i _ => 60 - (intOf i).toNat)
              case atStart => exact ⟨0, Nat.zero_le _, rfl, HS3⟩
              case round =>
                obtain ⟨k, hk, rfl, hS⟩ := hrel
                clear HS3
                have hk0 : (0 : Int) ≤ (k : Int) := by omega
                have c0 := hS.out.box.cell
                have f0 := hS.out.box.frozen
                by_cases hlt : k < 60
                · have hi1 : (k : Int) < (60 : Int) := by omega
                  obtain ⟨y, hy⟩ : ∃ y, xs[k]? = some y := ⟨xs[k]'(by rw [HX.out]; exact hlt), List.getElem?_eq_getElem _⟩
                  obtain ⟨rb, ro, rfl, hrl, hoy, y0⟩ := RX.out.later hS.out.b k y hy
                  have HT := Lib.hid (show wrap64 (wrap64 (xs.take k).sum + y) = wrap64 (xs.take (k + 1)).sum by rw [wrap_add, take_one hy]; simp)
                  have HSet := Lib.hid (fun u => hS.out.set u)
                  clear hy hoy
                  generalize wrap64 (xs.take k).sum = v at *
                  gi_wp2
                  gi_region
                  all_goals gi_wp2
                  all_goals go_roundw
                  case rel => exact ⟨k + 1, by omega, by go_num, Lib.hid (by rw [← HT.out]; exact (HSet.out _).later (below_drew _))⟩
                  case measure => simp [intOf] <;> omega
                · have hkN : k = 60 := by omega
                  have hi1 : ¬ ((k : Int) < (60 : Int)) := by omega
                  have HS1 : Hid (Sm w B2 nb wr X2 60 (allInS ys) (wrap64 xs.sum)) := Lib.hid (by have := hS.out; rw [hkN, List.take_of_length_le (by rw [HX.out]; exact Nat.le_refl _)] at this; exact this)
                  have hB := hS.out.b
                  clear hkN hS
                  gi_wp2_with (first
                    | (refine ⟨trivial, ?_⟩; gi_at_call 18; refine (callsIn_wide.2 (new_anyI (xs := xs) _ (RX.out.later hB) HX.out (by omega) (by omega) (by omega))).mono ?_; rintro e w6 ⟨X6, rfl, hH6, hB6⟩)
                    | (refine ⟨trivial, ?_⟩; gi_at_call 26; refine (callsIn_wide.2 (drain_anyI _ _)).mono ?_; rintro e w7 ⟨rfl, rfl⟩; have hfn := run_eql_seqI))
                  clear hfn
                  have hs1 := HS1.out.box.lt
                  obtain ⟨W2, hW2, L2, H2, hbl, hb1⟩ : ∃ W2, w6.alloc (.cells #[.pointer (some ⟨wr.heap.size, 0, none⟩)] 48) = W2 ∧ Sm w B2 nb W2 X2 60 (allInS ys) (wrap64 xs.sum) ∧ DHI wr.heap.size wr.heap.size 60 w6.heap.size X6 (allInI xs) W2 ∧ wr.heap.size < w6.heap.size ∧ w6.heap.size < W2.heap.size ∧ (∀ k ∈ X6, wr.heap.size ≤ k ∧ k < w6.heap.size) := by
                    have hbb : Below w6.heap.size w6 (w6.alloc (.cells #[.pointer (some ⟨wr.heap.size, 0, none⟩)] 48)) := (Below.refl _ _).alloc (Nat.le_refl _) _
                    refine ⟨_, rfl, (HS1.out.later hB6).later hbb, ⟨hH6.later hbb, Boxed.new _ _ _⟩, (hH6.ge _ hH6.mem).2, by simp, fun k hk => hH6.ge k hk⟩
                  rw [hW2]
                  obtain ⟨hb0, hb1⟩ := hb1
                  clear hW2 hH6 hB6 HS1 hB c0 f0
                  generalize w6.heap.size = bn at *
                  generalize wr.heap.size = b6 at *
                  refine wpIn_named fun fr hfr => ?_
                  refine rangeD valI (gf := 38) (lb := #[.pointer (some ⟨bn, 0, none⟩)]) (by rw [hfr]; rfl) (enters_of Try.func38 (by kernel_rfl) rfl)
                    (drain_seqI (allInI xs) (9 - 1) (by omega) (fun hm => by have := (hb1 _ hm).2; omega)) rfl H2 (fun r W W' h hs => h.same hs)
                    (fun k hk => by rcases List.mem_cons.1 hk with rfl | hk; omega; have := (hb1 k hk).2; omega)
                    (fun pre V => Sm w B2 nb V X2 60 (allInS ys) (wrap64 (xs.sum - pre.sum))) (fun _ _ _ => False)
                    (fun pre X Y row h hg hr => h.own hg hr (by have := h.ge; omega) (by omega)) (fun _ _ _ _ _ h _ _ => h)
                    (fun pre W1 W2 h hk => h.kept hk (fun k hk => by rcases List.mem_cons.1 hk with rfl | hk; omega; have := (hb1 k hk).1; omega))
                    (fun _ _ _ _ h _ => h) (by simpa using L2)
                    (fun x a' V => a' = { tmps := (fr.tmps.setIfInBounds 99 (.int .i64 x)).setIfInBounds 16 (.int .i64 x), defers := [] })
                    (fun x a' _ X Y row h _ _ => h)
                    ?assign ?body ?done ?stop
                  case assign =>
                    intro l2 pre x V K hI hK
                    subst hfr
                    gi_wp2
                    exact hK _ _ (KeepsFrom.refl _ _) (SameB.refl _ _) hI rfl
                  case body =>
                    rintro l2 pre x r a' V hS rfl hL
                    subst hfr
                    have c0 := hS.box.cell
                    have f0 := hS.box.frozen
                    have HSet := Lib.hid (fun u => hS.set u)
                    have HT := Lib.hid (show wrap64 (wrap64 (xs.sum - pre.sum) - x) = wrap64 (xs.sum - (pre ++ [x]).sum) by rw [wrap_sub]; congr 1; simp; omega)
                    generalize wrap64 (xs.sum - pre.sum) = v at *
                    simp only [List.setIfInBounds_toArray, List.set_cons_succ, List.set_cons_zero]
                    gi_wp2
                    refine ⟨(KeepsOthers.setCell _ _ _).from _, fun k hk => Below.heap_setCell _ _ _ _ (fun e => ?_), by show Sm _ _ _ _ _ _ _ (wrap64 (xs.sum - (pre ++ [x]).sum)); rw [← HT.out]; exact HSet.out _⟩
                    rcases List.mem_cons.1 hk with rfl | hk
                    · simp at e; omega
                    · have := (hb1 _ hk).1; simp at e; omega
                  case done =>
                    rintro D V hD hS hH0 hK
                    subst hfr
                    dsimp only
                    have hz : wrap64 (xs.sum - (allInI xs).sum) = 0 := by rw [perm_sum (allIn_sortedI xs).2]; simp [wrap64]
                    rw [hz] at hS
                    have HS5 := Lib.hid hS
                    have HK5 := Lib.hid hK
                    have hnD : nb < D := by omega
                    clear hS hK L2 H2 hH0 hz
                    gi_wp2
                    gi_loopw [17, 18] (fun size cnt wr => ∃ (p r : List ByteArray) (pl sz : Nat), size = .int .i64 (sz : Int) ∧ cnt = .int .i64 (pl : Int) ∧ Hid (p.length = pl) ∧ Hid (allInS ys = p ++ r) ∧ Hid (∀ y ∈ r, (sz : Int) ≤ keyS y) ∧ Hid (Sm w B2 nb wr X2 60 r 0) ∧ Hid (wr.heap[D]? = some (.deferred (some [])))) (fun _ cnt _ => 60 - (intOf cnt).toNat)
                    case atStart => exact ⟨[], allInS ys, 0, 0, rfl, rfl, Lib.hid rfl, Lib.hid rfl, Lib.hid (fun y _ => by unfold keyS; omega), HS5, HK5⟩
                    case round =>
                      obtain ⟨p, r, pl, sz, rfl, rfl, hpl, hpr, hsz, hS, hK⟩ := hrel
                      clear HS5 HK5
                      have hlen : p.length + r.length = 60 := by
                        have := (allIn_sortedS ys).2.length_eq
                        rw [hpr.out, HY.out, List.length_append] at this
                        exact this
                      have hpl0 : (0 : Int) ≤ (pl : Int) := by omega
                      have hplM : (pl : Int) ≤ (60 : Int) := by have := hpl.out; omega
                      cases r with
                      | nil =>
                        have HL := Lib.hid (len_isS hS.out.s (n := 0) rfl)
                        have hplE : pl = 60 := by have := hpl.out; simp at hlen; omega
                        have c0 := hS.out.box.cell
                        clear hlen hplM
                        gi_wp2_with (refine ⟨trivial, ?_⟩; gi_at_call 27; refine (callsIn_wide.2 HL.out).mono ?_; rintro e w4 ⟨rfl, rfl⟩)
                        refine ⟨by simp, .inl ⟨_, _, rfl, run_takeDeferred hK.out, ?_⟩⟩
                        exact ⟨.bool true, by simp [results, Try.f4, go_sem], rfl, hS.out.b.trans (belowK_b (w := w) (Nat.le_refl _) wr D _ _ (by have := hS.out.ge; omega) hK.out rfl rfl)⟩
                      | cons x r =>
                        have hr0 : (0 : Int) < (r.length : Int) + 1 := by omega
                        have HL := Lib.hid (len_isS hS.out.s (n := (r.length : Int) + 1) (by simp))
                        have hrl : (r.length : Int) ≤ 60 := by simp at hlen; omega
                        have hplN : (pl : Int) < (60 : Int) := by have := hpl.out; simp at hlen; omega
                        have PP := Lib.hid hS.out.pop
                        have hle : Hid (∀ y ∈ r, (x.size : Int) ≤ keyS y) := Lib.hid (by
                          have := (allIn_sortedS ys).1
                          rw [hpr.out] at this
                          exact (List.pairwise_cons.1 (List.pairwise_append.1 this).2.1).1)
                        have hpr2 := Lib.hid (show allInS ys = (p ++ [x]) ++ r by rw [hpr.out]; simp)
                        have hx1 : ¬ ((x.size : Int) < (sz : Int)) := by have := hsz.out x (by simp); unfold keyS at this; omega
                        have hKX := Lib.hid (fun (w' : World) (hk : Kept X2 wr w') => (hk.block D (Array.getElem?_eq_some_iff.1 hK.out).1 (fun hm => by have := hS.out.lt D hm; omega)).trans hK.out)
                        generalize r.length = rl at *
                        clear hlen hsz
                        gi_wp2_with (first
                          | (refine ⟨trivial, ?_⟩; gi_at_call 27; refine (callsIn_wide.2 HL.out).mono ?_; rintro e w4 ⟨rfl, rfl⟩)
                          | (refine ⟨trivial, ?_⟩; gi_at_call 28; refine (callsIn_wide.2 PP.out).mono ?_; rintro e w5 ⟨rfl, hS5, hk5⟩; have HS5 := Lib.hid hS5; have HK5 := Lib.hid (hKX.out _ hk5); clear hS5 hk5))
                        go_roundw
                        case rel => exact ⟨p ++ [x], r, pl + 1, x.size, rfl, by go_num, Lib.hid (by rw [List.length_append, hpl.out]; rfl), hpr2, hle, HS5, HK5⟩
                        case measure => simp [intOf] <;> omega
                  case stop =>
                    rintro D c pre x r V hD hL h _ hK
                    exact h.elim
            | cons x r =>
              have hr0 : (0 : Int) < (r.length : Int) + 1 := by omega
              have HL := Lib.hid (len_isI hS.out.i (n := (r.length : Int) + 1) (by simp))
              have hrl : (r.length : Int) ≤ 60 := by simp at hlen; omega
              have hplN : (pl : Int) < (60 : Int) := by have := hpl.out; simp at hlen; omega
              have hxx : x ∈ xs := (allIn_sortedI xs).2.mem_iff.1 (by rw [hpr.out]; simp)
              obtain ⟨cx, hcx⟩ : ∃ cx, cx = xs.count x := ⟨_, rfl⟩
              have hcp : 0 < cx := by rw [hcx]; exact List.count_pos_iff.2 hxx
              have hcb : ((cx : Int) == 0) = false := by rw [beq_eq_false_iff_ne]; omega
              have hcz : ¬ ((cx : Int) = 0) := by omega
              have PP := Lib.hid hS.out.pop
              have CT := Lib.hid (fun W (hb : Below w.heap.size w W) => count_any A 60 cap xs x W (RX.out.later hb) HX.out (by omega) (by omega))
              rw [← hcx] at CT
              have hle : Hid (∀ y ∈ r, x ≤ y) := Lib.hid (by
                have := (allIn_sortedI xs).1
                rw [hpr.out] at this
                exact (List.pairwise_cons.1 (List.pairwise_append.1 this).2.1).1)
              have hpr2 := Lib.hid (show allInI xs = (p ++ [x]) ++ r by rw [hpr.out]; simp)
              have hlx := Lib.hid (fun hp => hla.out hp x (by simp))
              generalize r.length = rl at *
              clear hcx hxx hlen hcp hla
              by_cases hp : p = []
              · have hz : pl = 0 := by rw [← hpl.out, hp]; rfl
                subst hz
                gi_wp2_with (first
                  | (refine ⟨trivial, ?_⟩; gi_at_call 23; refine (callsIn_wide.2 HL.out).mono ?_; rintro e w4 ⟨rfl, rfl⟩)
                  | (refine ⟨trivial, ?_⟩; gi_at_call 24; refine (callsIn_wide.2 PP.out).mono ?_; rintro e w5 ⟨rfl, hS5⟩; have HS5 := Lib.hid hS5; clear hS5)
                  | (refine ⟨trivial, ?_⟩; gi_at_call 25; refine (callsIn_wide.2 (CT.out _ HS5.out.b)).mono ?_; rintro e w6 ⟨rfl, rfl⟩))
                go_roundw
                case rel => exact ⟨p ++ [x], r, 1, x, by go_num, rfl, Lib.hid (by rw [hp]; rfl), hpr2, Lib.hid (fun _ => hle.out), HS5⟩
                case measure => simp [intOf] <;> omega
              · have hlx1 := hlx.out hp
                have hlx2 : ¬ (x < la) := by omega
                have hpp : (0 : Int) < (pl : Int) := by
                  have := hpl.out
                  have : p.length ≠ 0 := fun h => hp (List.length_eq_zero_iff.1 h)
                  omega
                gi_wp2_with (first
                  | (refine ⟨trivial, ?_⟩; gi_at_call 23; refine (callsIn_wide.2 HL.out).mono ?_; rintro e w4 ⟨rfl, rfl⟩)
                  | (refine ⟨trivial, ?_⟩; gi_at_call 24; refine (callsIn_wide.2 PP.out).mono ?_; rintro e w5 ⟨rfl, hS5⟩; have HS5 := Lib.hid hS5; clear hS5)
                  | (refine ⟨trivial, ?_⟩; gi_at_call 25; refine (callsIn_wide.2 (CT.out _ HS5.out.b)).mono ?_; rintro e w6 ⟨rfl, rfl⟩))
                go_roundw
                case rel => exact ⟨p ++ [x], r, pl + 1, x, by go_num, rfl, Lib.hid (by rw [List.length_append, hpl.out]; rfl), hpr2, Lib.hid (fun _ => hle.out), HS5⟩
                case measure => simp [intOf] <;> omega
    · have hdi : ¬ (60 : Int) < (n' : Int) := by omega
      obtain ⟨ys, RY, HY⟩ : ∃ ys, Hid (RowOfS w A' ys) ∧ Hid (ys.length = n') := ⟨ss, Lib.hid hR', Lib.hid hn'⟩
      clear hR' hn' ss
      gi_wp2_with (first
        | (refine ⟨trivial, ?_⟩; gi_at_call 8; refine (callsIn_wide.2 (AW.out _)).mono ?_; rintro e w1 ⟨rfl, hB1⟩)
        | (refine ⟨trivial, ?_⟩; gi_at_call 18; refine (callsIn_wide.2 (new_anyI (xs := xs) _ (RX.out.later hB1) HX.out (by omega) (by omega) (by omega))).mono ?_; rintro e w2 ⟨X, rfl, hH2, hB2⟩)
        | (refine ⟨trivial, ?_⟩; gi_at_call 20; refine (callsIn_wide.2 (NS.out _)).mono ?_; rintro e w3 ⟨X', rfl, hH3, hB3⟩))
      have hS0 : Both w w1.heap.size w2.heap.size w3 X 60 (allInI xs) X' 0 (allInS (ys.take 0)) :=
        ⟨hH2.later hB3, hH3, (hB1.trans (hB2.mono hB1.size)).trans (hB3.mono (hB1.trans (hB2.mono hB1.size)).size), fun k hk => (hH2.ge k hk).2, hB1.size, hB2.size⟩
      have HS0 := Lib.hid hS0
      clear hH2 hH3 hB1 hB2 hB3 hS0 NS hfn
      generalize w1.heap.size = B1 at *
      generalize w2.heap.size = B2 at *
      gi_loopw [8] (fun i wr => ∃ (k : Nat) (X' : List Nat), k ≤ n' ∧ i = .int .i64 k ∧ Hid (Both w B1 B2 wr X 60 (allInI xs) X' k (allInS (ys.take k)))) (fun i _ => n' - (intOf i).toNat)
      case atStart => exact ⟨0, X', Nat.zero_le _, rfl, HS0⟩
      case round =>
        obtain ⟨k, X2, hk, rfl, hS⟩ := hrel
        clear HS0
        have hk0 : (0 : Int) ≤ (k : Int) := by omega
        by_cases hlt : k < n'
        · have hi1 : (k : Int) < (n' : Int) := by omega
          obtain ⟨y, hy⟩ : ∃ y, ys[k]? = some y := ⟨ys[k]'(by rw [HY.out]; exact hlt), List.getElem?_eq_getElem _⟩
          obtain ⟨rb, ro, rfl, hrl, hoy, y0⟩ := RY.out.later hS.out.b k y hy
          have PU := hS.out.push hoy (by omega)
          rw [← allIn_snocS, ← take_one hy] at PU
          have PU := Lib.hid PU
          clear hy hoy
          gi_wp2_with (refine ⟨trivial, ?_⟩; gi_at_call 22; refine (callsIn_wide.2 PU.out).mono ?_; rintro e w4 ⟨rfl, X4, hS4⟩)
          have HS4 := Lib.hid hS4
          clear hS4 PU
          go_roundw
          case rel => exact ⟨k + 1, X4, by omega, by go_num, HS4⟩
          case measure => simp [intOf] <;> omega
        · have hkM : k = n' := by omega
          have HS1 : Hid (Both w B1 B2 wr X 60 (allInI xs) X2 n' (allInS ys)) := Lib.hid (by have := hS.out; rw [hkM, List.take_of_length_le (by rw [HY.out]; exact Nat.le_refl _)] at this; exact this)
          have hi1 : ¬ ((k : Int) < (n' : Int)) := by omega
          clear hkM hS
          gi_wp2
          gi_loopw [9, 10] (fun many last wr => ∃ (p r : List Int) (pl : Nat) (la : Int), many = .int .i64 (pl : Int) ∧ last = .int .i64 la ∧ Hid (p.length = pl) ∧ Hid (allInI xs = p ++ r) ∧ Hid (p ≠ [] → ∀ y ∈ r, la ≤ y) ∧ Hid (Both w B1 B2 wr X 60 r X2 n' (allInS ys))) (fun many _ _ => 60 - (intOf many).toNat)
          case atStart => exact ⟨[], allInI xs, 0, 0, rfl, rfl, Lib.hid rfl, Lib.hid rfl, Lib.hid (fun h => absurd rfl h), HS1⟩
          case round =>
            obtain ⟨p, r, pl, la, rfl, rfl, hpl, hpr, hla, hS⟩ := hrel
            clear HS1
            have hlen : p.length + r.length = 60 := by
              have := (allIn_sortedI xs).2.length_eq
              rw [hpr.out, HX.out, List.length_append] at this
              exact this
            have hpl0 : (0 : Int) ≤ (pl : Int) := by omega
            cases r with
            | nil =>
              have HL := Lib.hid (len_isI hS.out.i (n := 0) rfl)
              have hplN := Lib.hid (show pl = 60 by have := hpl.out; simp at hlen; omega)
              clear hlen
              gi_wp2_with (refine ⟨trivial, ?_⟩; gi_at_call 23; refine (callsIn_wide.2 HL.out).mono ?_; rintro e w4 ⟨rfl, rfl⟩)
              have hb2 := Lib.hid (Nat.le_trans hS.out.le hS.out.le2)
              have hs3 : Sm w B2 wr.heap.size (wr.alloc (.cells #[.int .i64 0] 3)) X2 n' (allInS ys) (wrap64 (xs.take 0).sum) :=
                ⟨hS.out.s.later ((Below.refl _ _).alloc (Nat.le_refl _) _), hS.out.b.alloc hS.out.b.size _, (by have := Boxed.new wr 3 (.int .i64 0); simpa [wrap64] using this), fun k hk => (hS.out.s.ge k hk).2, hb2.out⟩
              have HS3 := Lib.hid hs3
              have hplE := hplN.out
              clear hs3 hS hpr hla hpl HL hplN hb2
              generalize wr.alloc (.cells #[.int .i64 0] 3) = w5 at *
              generalize wr.heap.size = nb at *
              gi_loopw [14] (fun i wr => ∃ (k : Nat), k ≤ 60 ∧ i = .int .i64 (k : Int) ∧ Hid (Sm w B2 nb wr X2 n' (allInS ys) (wrap64 (xs.take k).sum))) (fun i _ => 60 - (intOf i).toNat)
              case atStart => exact ⟨0, Nat.zero_le _, rfl, HS3⟩
              case round =>
                obtain ⟨k, hk, rfl, hS⟩ := hrel
                clear HS3
                have hk0 : (0 : Int) ≤ (k : Int) := by omega
                have c0 := hS.out.box.cell
                have f0 := hS.out.box.frozen
                by_cases hlt : k < 60
                · have hi1 : (k : Int) < (60 : Int) := by omega
                  obtain ⟨y, hy⟩ : ∃ y, xs[k]? = some y := ⟨xs[k]'(by rw [HX.out]; exact hlt), List.getElem?_eq_getElem _⟩
                  obtain ⟨rb, ro, rfl, hrl, hoy, y0⟩ := RX.out.later hS.out.b k y hy
                  have HT := Lib.hid (show wrap64 (wrap64 (xs.take k).sum + y) = wrap64 (xs.take (k + 1)).sum by rw [wrap_add, take_one hy]; simp)
                  have HSet := Lib.hid (fun u => hS.out.set u)
                  clear hy hoy
                  generalize wrap64 (xs.take k).sum = v at *
                  gi_wp2
                  gi_region
                  all_goals gi_wp2
                  all_goals go_roundw
                  case rel => exact ⟨k + 1, by omega, by go_num, Lib.hid (by rw [← HT.out]; exact (HSet.out _).later (below_drew _))⟩
                  case measure => simp [intOf] <;> omega
                · have hkN : k = 60 := by omega
                  have hi1 : ¬ ((k : Int) < (60 : Int)) := by omega
                  have HS1 : Hid (Sm w B2 nb wr X2 n' (allInS ys) (wrap64 xs.sum)) := Lib.hid (by have := hS.out; rw [hkN, List.take_of_length_le (by rw [HX.out]; exact Nat.le_refl _)] at this; exact this)
                  have hB := hS.out.b
                  clear hkN hS
                  gi_wp2_with (first
                    | (refine ⟨trivial, ?_⟩; gi_at_call 18; refine (callsIn_wide.2 (new_anyI (xs := xs) _ (RX.out.later hB) HX.out (by omega) (by omega) (by omega))).mono ?_; rintro e w6 ⟨X6, rfl, hH6, hB6⟩)
                    | (refine ⟨trivial, ?_⟩; gi_at_call 26; refine (callsIn_wide.2 (drain_anyI _ _)).mono ?_; rintro e w7 ⟨rfl, rfl⟩; have hfn := run_eql_seqI))
                  clear hfn
                  have hs1 := HS1.out.box.lt
                  obtain ⟨W2, hW2, L2, H2, hbl, hb1⟩ : ∃ W2, w6.alloc (.cells #[.pointer (some ⟨wr.heap.size, 0, none⟩)] 48) = W2 ∧ Sm w B2 nb W2 X2 n' (allInS ys) (wrap64 xs.sum) ∧ DHI wr.heap.size wr.heap.size 60 w6.heap.size X6 (allInI xs) W2 ∧ wr.heap.size < w6.heap.size ∧ w6.heap.size < W2.heap.size ∧ (∀ k ∈ X6, wr.heap.size ≤ k ∧ k < w6.heap.size) := by
                    have hbb : Below w6.heap.size w6 (w6.alloc (.cells #[.pointer (some ⟨wr.heap.size, 0, none⟩)] 48)) := (Below.refl _ _).alloc (Nat.le_refl _) _
                    refine ⟨_, rfl, (HS1.out.later hB6).later hbb, ⟨hH6.later hbb, Boxed.new _ _ _⟩, (hH6.ge _ hH6.mem).2, by simp, fun k hk => hH6.ge k hk⟩
                  rw [hW2]
                  obtain ⟨hb0, hb1⟩ := hb1
                  clear hW2 hH6 hB6 HS1 hB c0 f0
                  generalize w6.heap.size = bn at *
                  generalize wr.heap.size = b6 at *
                  refine wpIn_named fun fr hfr => ?_
                  refine rangeD valI (gf := 38) (lb := #[.pointer (some ⟨bn, 0, none⟩)]) (by rw [hfr]; rfl) (enters_of Try.func38 (by kernel_rfl) rfl)
                    (drain_seqI (allInI xs) (9 - 1) (by omega) (fun hm => by have := (hb1 _ hm).2; omega)) rfl H2 (fun r W W' h hs => h.same hs)
                    (fun k hk => by rcases List.mem_cons.1 hk with rfl | hk; omega; have := (hb1 k hk).2; omega)
                    (fun pre V => Sm w B2 nb V X2 n' (allInS ys) (wrap64 (xs.sum - pre.sum))) (fun _ _ _ => False)
                    (fun pre X Y row h hg hr => h.own hg hr (by have := h.ge; omega) (by omega)) (fun _ _ _ _ _ h _ _ => h)
                    (fun pre W1 W2 h hk => h.kept hk (fun k hk => by rcases List.mem_cons.1 hk with rfl | hk; omega; have := (hb1 k hk).1; omega))
                    (fun _ _ _ _ h _ => h) (by simpa using L2)
                    (fun x a' V => a' = { tmps := (fr.tmps.setIfInBounds 99 (.int .i64 x)).setIfInBounds 16 (.int .i64 x), defers := [] })
                    (fun x a' _ X Y row h _ _ => h)
                    ?assign ?body ?done ?stop
                  case assign =>
                    intro l2 pre x V K hI hK
                    subst hfr
                    gi_wp2
                    exact hK _ _ (KeepsFrom.refl _ _) (SameB.refl _ _) hI rfl
                  case body =>
                    rintro l2 pre x r a' V hS rfl hL
                    subst hfr
                    have c0 := hS.box.cell
                    have f0 := hS.box.frozen
                    have HSet := Lib.hid (fun u => hS.set u)
                    have HT := Lib.hid (show wrap64 (wrap64 (xs.sum - pre.sum) - x) = wrap64 (xs.sum - (pre ++ [x]).sum) by rw [wrap_sub]; congr 1; simp; omega)
                    generalize wrap64 (xs.sum - pre.sum) = v at *
                    simp only [List.setIfInBounds_toArray, List.set_cons_succ, List.set_cons_zero]
                    gi_wp2
                    refine ⟨(KeepsOthers.setCell _ _ _).from _, fun k hk => Below.heap_setCell _ _ _ _ (fun e => ?_), by show Sm _ _ _ _ _ _ _ (wrap64 (xs.sum - (pre ++ [x]).sum)); rw [← HT.out]; exact HSet.out _⟩
                    rcases List.mem_cons.1 hk with rfl | hk
                    · simp at e; omega
                    · have := (hb1 _ hk).1; simp at e; omega
                  case done =>
                    rintro D V hD hS hH0 hK
                    subst hfr
                    dsimp only
                    have hz : wrap64 (xs.sum - (allInI xs).sum) = 0 := by rw [perm_sum (allIn_sortedI xs).2]; simp [wrap64]
                    rw [hz] at hS
                    have HS5 := Lib.hid hS
                    have HK5 := Lib.hid hK
                    have hnD : nb < D := by omega
                    clear hS hK L2 H2 hH0 hz
                    gi_wp2
                    gi_loopw [17, 18] (fun size cnt wr => ∃ (p r : List ByteArray) (pl sz : Nat), size = .int .i64 (sz : Int) ∧ cnt = .int .i64 (pl : Int) ∧ Hid (p.length = pl) ∧ Hid (allInS ys = p ++ r) ∧ Hid (∀ y ∈ r, (sz : Int) ≤ keyS y) ∧ Hid (Sm w B2 nb wr X2 n' r 0) ∧ Hid (wr.heap[D]? = some (.deferred (some [])))) (fun _ cnt _ => n' - (intOf cnt).toNat)
                    case atStart => exact ⟨[], allInS ys, 0, 0, rfl, rfl, Lib.hid rfl, Lib.hid rfl, Lib.hid (fun y _ => by unfold keyS; omega), HS5, HK5⟩
                    case round =>
                      obtain ⟨p, r, pl, sz, rfl, rfl, hpl, hpr, hsz, hS, hK⟩ := hrel
                      clear HS5 HK5
                      have hlen : p.length + r.length = n' := by
                        have := (allIn_sortedS ys).2.length_eq
                        rw [hpr.out, HY.out, List.length_append] at this
                        exact this
                      have hpl0 : (0 : Int) ≤ (pl : Int) := by omega
                      have hplM : (pl : Int) ≤ (n' : Int) := by have := hpl.out; omega
                      cases r with
                      | nil =>
                        have HL := Lib.hid (len_isS hS.out.s (n := 0) rfl)
                        have hplE : pl = n' := by have := hpl.out; simp at hlen; omega
                        have c0 := hS.out.box.cell
                        clear hlen hplM
                        gi_wp2_with (refine ⟨trivial, ?_⟩; gi_at_call 27; refine (callsIn_wide.2 HL.out).mono ?_; rintro e w4 ⟨rfl, rfl⟩)
                        refine ⟨by simp, .inl ⟨_, _, rfl, run_takeDeferred hK.out, ?_⟩⟩
                        exact ⟨.bool true, by simp [results, Try.f4, go_sem], rfl, hS.out.b.trans (belowK_b (w := w) (Nat.le_refl _) wr D _ _ (by have := hS.out.ge; omega) hK.out rfl rfl)⟩
                      | cons x r =>
                        have hr0 : (0 : Int) < (r.length : Int) + 1 := by omega
                        have HL := Lib.hid (len_isS hS.out.s (n := (r.length : Int) + 1) (by simp))
                        have hrl : (r.length : Int) ≤ 60 := by simp at hlen; omega
                        have hplN : (pl : Int) < (n' : Int) := by have := hpl.out; simp at hlen; omega
                        have PP := Lib.hid hS.out.pop
                        have hle : Hid (∀ y ∈ r, (x.size : Int) ≤ keyS y) := Lib.hid (by
                          have := (allIn_sortedS ys).1
                          rw [hpr.out] at this
                          exact (List.pairwise_cons.1 (List.pairwise_append.1 this).2.1).1)
                        have hpr2 := Lib.hid (show allInS ys = (p ++ [x]) ++ r by rw [hpr.out]; simp)
                        have hx1 : ¬ ((x.size : Int) < (sz : Int)) := by have := hsz.out x (by simp); unfold keyS at this; omega
                        have hKX := Lib.hid (fun (w' : World) (hk : Kept X2 wr w') => (hk.block D (Array.getElem?_eq_some_iff.1 hK.out).1 (fun hm => by have := hS.out.lt D hm; omega)).trans hK.out)
                        generalize r.length = rl at *
                        clear hlen hsz
                        gi_wp2_with (first
                          | (refine ⟨trivial, ?_⟩; gi_at_call 27; refine (callsIn_wide.2 HL.out).mono ?_; rintro e w4 ⟨rfl, rfl⟩)
                          | (refine ⟨trivial, ?_⟩; gi_at_call 28; refine (callsIn_wide.2 PP.out).mono ?_; rintro e w5 ⟨rfl, hS5, hk5⟩; have HS5 := Lib.hid hS5; have HK5 := Lib.hid (hKX.out _ hk5); clear hS5 hk5))
                        go_roundw
                        case rel => exact ⟨p ++ [x], r, pl + 1, x.size, rfl, by go_num, Lib.hid (by rw [List.length_append, hpl.out]; rfl), hpr2, hle, HS5, HK5⟩
                        case measure => simp [intOf] <;> omega
                  case stop =>
                    rintro D c pre x r V hD hL h _ hK
                    exact h.elim
            | cons x r =>
              have hr0 : (0 : Int) < (r.length : Int) + 1 := by omega
              have HL := Lib.hid (len_isI hS.out.i (n := (r.length : Int) + 1) (by simp))
              have hrl : (r.length : Int) ≤ 60 := by simp at hlen; omega
              have hplN : (pl : Int) < (60 : Int) := by have := hpl.out; simp at hlen; omega
              have hxx : x ∈ xs := (allIn_sortedI xs).2.mem_iff.1 (by rw [hpr.out]; simp)
              obtain ⟨cx, hcx⟩ : ∃ cx, cx = xs.count x := ⟨_, rfl⟩
              have hcp : 0 < cx := by rw [hcx]; exact List.count_pos_iff.2 hxx
              have hcb : ((cx : Int) == 0) = false := by rw [beq_eq_false_iff_ne]; omega
              have hcz : ¬ ((cx : Int) = 0) := by omega
              have PP := Lib.hid hS.out.pop
              have CT := Lib.hid (fun W (hb : Below w.heap.size w W) => count_any A 60 cap xs x W (RX.out.later hb) HX.out (by omega) (by omega))
              rw [← hcx] at CT
              have hle : Hid (∀ y ∈ r, x ≤ y) := Lib.hid (by
                have := (allIn_sortedI xs).1
                rw [hpr.out] at this
                exact (List.pairwise_cons.1 (List.pairwise_append.1 this).2.1).1)
              have hpr2 := Lib.hid (show allInI xs = (p ++ [x]) ++ r by rw [hpr.out]; simp)
              have hlx := Lib.hid (fun hp => hla.out hp x (by simp))
              generalize r.length = rl at *
              clear hcx hxx hlen hcp hla
              by_cases hp : p = []
              · have hz : pl = 0 := by rw [← hpl.out, hp]; rfl
                subst hz
                gi_wp2_with (first
                  | (refine ⟨trivial, ?_⟩; gi_at_call 23; refine (callsIn_wide.2 HL.out).mono ?_; rintro e w4 ⟨rfl, rfl⟩)
                  | (refine ⟨trivial, ?_⟩; gi_at_call 24; refine (callsIn_wide.2 PP.out).mono ?_; rintro e w5 ⟨rfl, hS5⟩; have HS5 := Lib.hid hS5; clear hS5)
                  | (refine ⟨trivial, ?_⟩; gi_at_call 25; refine (callsIn_wide.2 (CT.out _ HS5.out.b)).mono ?_; rintro e w6 ⟨rfl, rfl⟩))
                go_roundw
                case rel => exact ⟨p ++ [x], r, 1, x, by go_num, rfl, Lib.hid (by rw [hp]; rfl), hpr2, Lib.hid (fun _ => hle.out), HS5⟩
                case measure => simp [intOf] <;> omega
              · have hlx1 := hlx.out hp
                have hlx2 : ¬ (x < la) := by omega
                have hpp : (0 : Int) < (pl : Int) := by
                  have := hpl.out
                  have : p.length ≠ 0 := fun h => hp (List.length_eq_zero_iff.1 h)
                  omega
                gi_wp2_with (first
                  | (refine ⟨trivial, ?_⟩; gi_at_call 23; refine (callsIn_wide.2 HL.out).mono ?_; rintro e w4 ⟨rfl, rfl⟩)
                  | (refine ⟨trivial, ?_⟩; gi_at_call 24; refine (callsIn_wide.2 PP.out).mono ?_; rintro e w5 ⟨rfl, hS5⟩; have HS5 := Lib.hid hS5; clear hS5)
                  | (refine ⟨trivial, ?_⟩; gi_at_call 25; refine (callsIn_wide.2 (CT.out _ HS5.out.b)).mono ?_; rintro e w6 ⟨rfl, rfl⟩))
                go_roundw
                case rel => exact ⟨p ++ [x], r, pl + 1, x, by go_num, rfl, Lib.hid (by rw [List.length_append, hpl.out]; rfl), hpr2, Lib.hid (fun _ => hle.out), HS5⟩
                case measure => simp [intOf] <;> omega
  · have hci : ¬ (60 : Int) < (n : Int) := by omega
    obtain ⟨xs, RX, HX⟩ : ∃ xs, Hid (RowOfI w A xs) ∧ Hid (xs.length = n) := ⟨zs, Lib.hid hR, Lib.hid hn⟩
    clear hR hn zs
    rcases Nat.lt_or_ge 60 n' with hd | hd
    · have hdi : (60 : Int) < (n' : Int) := by omega
      have hdi2 : (60 : Int) ≤ (n' : Int) := by omega
      obtain ⟨ys, RY, HY⟩ : ∃ ys, Hid (RowOfS w A' ys) ∧ Hid (ys.length = 60) := ⟨ss.take 60, Lib.hid (hR'.take 60), Lib.hid (by rw [List.length_take, hn']; omega)⟩
      clear hR' hn' ss
      gi_wp2_with (first
        | (refine ⟨trivial, ?_⟩; gi_at_call 8; refine (callsIn_wide.2 (AW.out _)).mono ?_; rintro e w1 ⟨rfl, hB1⟩)
        | (refine ⟨trivial, ?_⟩; gi_at_call 18; refine (callsIn_wide.2 (new_anyI (xs := xs) _ (RX.out.later hB1) HX.out (by omega) (by omega) (by omega))).mono ?_; rintro e w2 ⟨X, rfl, hH2, hB2⟩)
        | (refine ⟨trivial, ?_⟩; gi_at_call 20; refine (callsIn_wide.2 (NS.out _)).mono ?_; rintro e w3 ⟨X', rfl, hH3, hB3⟩))
      have hS0 : Both w w1.heap.size w2.heap.size w3 X n (allInI xs) X' 0 (allInS (ys.take 0)) :=
        ⟨hH2.later hB3, hH3, (hB1.trans (hB2.mono hB1.size)).trans (hB3.mono (hB1.trans (hB2.mono hB1.size)).size), fun k hk => (hH2.ge k hk).2, hB1.size, hB2.size⟩
      have HS0 := Lib.hid hS0
      clear hH2 hH3 hB1 hB2 hB3 hS0 NS hfn
      generalize w1.heap.size = B1 at *
      generalize w2.heap.size = B2 at *
      gi_loopw [8] (fun i wr => ∃ (k : Nat) (X' : List Nat), k ≤ 60 ∧ i = .int .i64 k ∧ Hid (Both w B1 B2 wr X n (allInI xs) X' k (allInS (ys.take k)))) (fun i _ => 60 - (intOf i).toNat)
      case atStart => exact ⟨0, X', Nat.zero_le _, rfl, HS0⟩
      case round =>
        obtain ⟨k, X2, hk, rfl, hS⟩ := hrel
        clear HS0
        have hk0 : (0 : Int) ≤ (k : Int) := by omega
        by_cases hlt : k < 60
        · have hi1 : (k : Int) < (60 : Int) := by omega
          obtain ⟨y, hy⟩ : ∃ y, ys[k]? = some y := ⟨ys[k]'(by rw [HY.out]; exact hlt), List.getElem?_eq_getElem _⟩
          obtain ⟨rb, ro, rfl, hrl, hoy, y0⟩ := RY.out.later hS.out.b k y hy
          have PU := hS.out.push hoy (by omega)
          rw [← allIn_snocS, ← take_one hy] at PU
          have PU := Lib.hid PU
          clear hy hoy
          gi_wp2_with (refine ⟨trivial, ?_⟩; gi_at_call 22; refine (callsIn_wide.2 PU.out).mono ?_; rintro e w4 ⟨rfl, X4, hS4⟩)
          have HS4 := Lib.hid hS4
          clear hS4 PU
          go_roundw
          case rel => exact ⟨k + 1, X4, by omega, by go_num, HS4⟩
          case measure => simp [intOf] <;> omega
        · have hkM : k = 60 := by omega
          have HS1 : Hid (Both w B1 B2 wr X n (allInI xs) X2 60 (allInS ys)) := Lib.hid (by have := hS.out; rw [hkM, List.take_of_length_le (by rw [HY.out]; exact Nat.le_refl _)] at this; exact this)
          have hi1 : ¬ ((k : Int) < (60 : Int)) := by omega
          clear hkM hS
          gi_wp2
          gi_loopw [9, 10] (fun many last wr => ∃ (p r : List Int) (pl : Nat) (la : Int), many = .int .i64 (pl : Int) ∧ last = .int .i64 la ∧ Hid (p.length = pl) ∧ Hid (allInI xs = p ++ r) ∧ Hid (p ≠ [] → ∀ y ∈ r, la ≤ y) ∧ Hid (Both w B1 B2 wr X n r X2 60 (allInS ys))) (fun many _ _ => n - (intOf many).toNat)
          case atStart => exact ⟨[], allInI xs, 0, 0, rfl, rfl, Lib.hid rfl, Lib.hid rfl, Lib.hid (fun h => absurd rfl h), HS1⟩
          case round =>
            obtain ⟨p, r, pl, la, rfl, rfl, hpl, hpr, hla, hS⟩ := hrel
            clear HS1
            have hlen : p.length + r.length = n := by
              have := (allIn_sortedI xs).2.length_eq
              rw [hpr.out, HX.out, List.length_append] at this
              exact this
            have hpl0 : (0 : Int) ≤ (pl : Int) := by omega
            cases r with
            | nil =>
              have HL := Lib.hid (len_isI hS.out.i (n := 0) rfl)
              have hplN := Lib.hid (show pl = n by have := hpl.out; simp at hlen; omega)
              clear hlen
              gi_wp2_with (refine ⟨trivial, ?_⟩; gi_at_call 23; refine (callsIn_wide.2 HL.out).mono ?_; rintro e w4 ⟨rfl, rfl⟩)
              have hb2 := Lib.hid (Nat.le_trans hS.out.le hS.out.le2)
              have hs3 : Sm w B2 wr.heap.size (wr.alloc (.cells #[.int .i64 0] 3)) X2 60 (allInS ys) (wrap64 (xs.take 0).sum) :=
                ⟨hS.out.s.later ((Below.refl _ _).alloc (Nat.le_refl _) _), hS.out.b.alloc hS.out.b.size _, (by have := Boxed.new wr 3 (.int .i64 0); simpa [wrap64] using this), fun k hk => (hS.out.s.ge k hk).2, hb2.out⟩
              have HS3 := Lib.hid hs3
              have hplE := hplN.out
              clear hs3 hS hpr hla hpl HL hplN hb2
              generalize wr.alloc (.cells #[.int .i64 0] 3) = w5 at *
              generalize wr.heap.size = nb at *
              gi_loopw [14] (fun i wr => ∃ (k : Nat), k ≤ n ∧ i = .int .i64 (k : Int) ∧ Hid (Sm w B2 nb wr X2 60 (allInS ys) (wrap64 (xs.take k).sum))) (fun i _ => n - (intOf i).toNat)
              case atStart => exact ⟨0, Nat.zero_le _, rfl, HS3⟩
              case round =>
                obtain ⟨k, hk, rfl, hS⟩ := hrel
                clear HS3
                have hk0 : (0 : Int) ≤ (k : Int) := by omega
                have c0 := hS.out.box.cell
                have f0 := hS.out.box.frozen
                by_cases hlt : k < n
                · have hi1 : (k : Int) < (n : Int) := by omega
                  obtain ⟨y, hy⟩ : ∃ y, xs[k]? = some y := ⟨xs[k]'(by rw [HX.out]; exact hlt), List.getElem?_eq_getElem _⟩
                  obtain ⟨rb, ro, rfl, hrl, hoy, y0⟩ := RX.out.later hS.out.b k y hy
                  have HT := Lib.hid (show wrap64 (wrap64 (xs.take k).sum + y) = wrap64 (xs.take (k + 1)).sum by rw [wrap_add, take_one hy]; simp)
                  have HSet := Lib.hid (fun u => hS.out.set u)
                  clear hy hoy
                  generalize wrap64 (xs.take k).sum = v at *
                  gi_wp2
                  gi_region
                  all_goals gi_wp2
                  all_goals go_roundw
                  case rel => exact ⟨k + 1, by omega, by go_num, Lib.hid (by rw [← HT.out]; exact (HSet.out _).later (below_drew _))⟩
                  case measure => simp [intOf] <;> omega
                · have hkN : k = n := by omega
                  have hi1 : ¬ ((k : Int) < (n : Int)) := by omega
                  have HS1 : Hid (Sm w B2 nb wr X2 60 (allInS ys) (wrap64 xs.sum)) := Lib.hid (by have := hS.out; rw [hkN, List.take_of_length_le (by rw [HX.out]; exact Nat.le_refl _)] at this; exact this)
                  have hB := hS.out.b
                  clear hkN hS
                  gi_wp2_with (first
                    | (refine ⟨trivial, ?_⟩; gi_at_call 18; refine (callsIn_wide.2 (new_anyI (xs := xs) _ (RX.out.later hB) HX.out (by omega) (by omega) (by omega))).mono ?_; rintro e w6 ⟨X6, rfl, hH6, hB6⟩)
                    | (refine ⟨trivial, ?_⟩; gi_at_call 26; refine (callsIn_wide.2 (drain_anyI _ _)).mono ?_; rintro e w7 ⟨rfl, rfl⟩; have hfn := run_eql_seqI))
                  clear hfn
                  have hs1 := HS1.out.box.lt
                  obtain ⟨W2, hW2, L2, H2, hbl, hb1⟩ : ∃ W2, w6.alloc (.cells #[.pointer (some ⟨wr.heap.size, 0, none⟩)] 48) = W2 ∧ Sm w B2 nb W2 X2 60 (allInS ys) (wrap64 xs.sum) ∧ DHI wr.heap.size wr.heap.size n w6.heap.size X6 (allInI xs) W2 ∧ wr.heap.size < w6.heap.size ∧ w6.heap.size < W2.heap.size ∧ (∀ k ∈ X6, wr.heap.size ≤ k ∧ k < w6.heap.size) := by
                    have hbb : Below w6.heap.size w6 (w6.alloc (.cells #[.pointer (some ⟨wr.heap.size, 0, none⟩)] 48)) := (Below.refl _ _).alloc (Nat.le_refl _) _
                    refine ⟨_, rfl, (HS1.out.later hB6).later hbb, ⟨hH6.later hbb, Boxed.new _ _ _⟩, (hH6.ge _ hH6.mem).2, by simp, fun k hk => hH6.ge k hk⟩
                  rw [hW2]
                  obtain ⟨hb0, hb1⟩ := hb1
                  clear hW2 hH6 hB6 HS1 hB c0 f0
                  generalize w6.heap.size = bn at *
                  generalize wr.heap.size = b6 at *
                  refine wpIn_named fun fr hfr => ?_
                  refine rangeD valI (gf := 38) (lb := #[.pointer (some ⟨bn, 0, none⟩)]) (by rw [hfr]; rfl) (enters_of Try.func38 (by kernel_rfl) rfl)
                    (drain_seqI (allInI xs) (9 - 1) (by omega) (fun hm => by have := (hb1 _ hm).2; omega)) rfl H2 (fun r W W' h hs => h.same hs)
                    (fun k hk => by rcases List.mem_cons.1 hk with rfl | hk; omega; have := (hb1 k hk).2; omega)
                    (fun pre V => Sm w B2 nb V X2 60 (allInS ys) (wrap64 (xs.sum - pre.sum))) (fun _ _ _ => False)
                    (fun pre X Y row h hg hr => h.own hg hr (by have := h.ge; omega) (by omega)) (fun _ _ _ _ _ h _ _ => h)
                    (fun pre W1 W2 h hk => h.kept hk (fun k hk => by rcases List.mem_cons.1 hk with rfl | hk; omega; have := (hb1 k hk).1; omega))
                    (fun _ _ _ _ h _ => h) (by simpa using L2)
                    (fun x a' V => a' = { tmps := (fr.tmps.setIfInBounds 99 (.int .i64 x)).setIfInBounds 16 (.int .i64 x), defers := [] })
                    (fun x a' _ X Y row h _ _ => h)
                    ?assign ?body ?done ?stop
                  case assign =>
                    intro l2 pre x V K hI hK
                    subst hfr
                    gi_wp2
                    exact hK _ _ (KeepsFrom.refl _ _) (SameB.refl _ _) hI rfl
                  case body =>
                    rintro l2 pre x r a' V hS rfl hL
                    subst hfr
                    have c0 := hS.box.cell
                    have f0 := hS.box.frozen
                    have HSet := Lib.hid (fun u => hS.set u)
                    have HT := Lib.hid (show wrap64 (wrap64 (xs.sum - pre.sum) - x) = wrap64 (xs.sum - (pre ++ [x]).sum) by rw [wrap_sub]; congr 1; simp; omega)
                    generalize wrap64 (xs.sum - pre.sum) = v at *
                    simp only [List.setIfInBounds_toArray, List.set_cons_succ, List.set_cons_zero]
                    gi_wp2
                    refine ⟨(KeepsOthers.setCell _ _ _).from _, fun k hk => Below.heap_setCell _ _ _ _ (fun e => ?_), by show Sm _ _ _ _ _ _ _ (wrap64 (xs.sum - (pre ++ [x]).sum)); rw [← HT.out]; exact HSet.out _⟩
                    rcases List.mem_cons.1 hk with rfl | hk
                    · simp at e; omega
                    · have := (hb1 _ hk).1; simp at e; omega
                  case done =>
                    rintro D V hD hS hH0 hK
                    subst hfr
                    dsimp only
                    have hz : wrap64 (xs.sum - (allInI xs).sum) = 0 := by rw [perm_sum (allIn_sortedI xs).2]; simp [wrap64]
                    rw [hz] at hS
                    have HS5 := Lib.hid hS
                    have HK5 := Lib.hid hK
                    have hnD : nb < D := by omega
                    clear hS hK L2 H2 hH0 hz
                    gi_wp2
                    gi_loopw [17, 18] (fun size cnt wr => ∃ (p r : List ByteArray) (pl sz : Nat), size = .int .i64 (sz : Int) ∧ cnt = .int .i64 (pl : Int) ∧ Hid (p.length = pl) ∧ Hid (allInS ys = p ++ r) ∧ Hid (∀ y ∈ r, (sz : Int) ≤ keyS y) ∧ Hid (Sm w B2 nb wr X2 60 r 0) ∧ Hid (wr.heap[D]? = some (.deferred (some [])))) (fun _ cnt _ => 60 - (intOf cnt).toNat)
                    case atStart => exact ⟨[], allInS ys, 0, 0, rfl, rfl, Lib.hid rfl, Lib.hid rfl, Lib.hid (fun y _ => by unfold keyS; omega), HS5, HK5⟩
                    case round =>
                      obtain ⟨p, r, pl, sz, rfl, rfl, hpl, hpr, hsz, hS, hK⟩ := hrel
                      clear HS5 HK5
                      have hlen : p.length + r.length = 60 := by
                        have := (allIn_sortedS ys).2.length_eq
                        rw [hpr.out, HY.out, List.length_append] at this
                        exact this
                      have hpl0 : (0 : Int) ≤ (pl : Int) := by omega
                      have hplM : (pl : Int) ≤ (60 : Int) := by have := hpl.out; omega
                      cases r with
                      | nil =>
                        have HL := Lib.hid (len_isS hS.out.s (n := 0) rfl)
                        have hplE : pl = 60 := by have := hpl.out; simp at hlen; omega
                        have c0 := hS.out.box.cell
                        clear hlen hplM
                        gi_wp2_with (refine ⟨trivial, ?_⟩; gi_at_call 27; refine (callsIn_wide.2 HL.out).mono ?_; rintro e w4 ⟨rfl, rfl⟩)
                        refine ⟨by simp, .inl ⟨_, _, rfl, run_takeDeferred hK.out, ?_⟩⟩
                        exact ⟨.bool true, by simp [results, Try.f4, go_sem], rfl, hS.out.b.trans (belowK_b (w := w) (Nat.le_refl _) wr D _ _ (by have := hS.out.ge; omega) hK.out rfl rfl)⟩
                      | cons x r =>
                        have hr0 : (0 : Int) < (r.length : Int) + 1 := by omega
                        have HL := Lib.hid (len_isS hS.out.s (n := (r.length : Int) + 1) (by simp))
                        have hrl : (r.length : Int) ≤ 60 := by simp at hlen; omega
                        have hplN : (pl : Int) < (60 : Int) := by have := hpl.out; simp at hlen; omega
                        have PP := Lib.hid hS.out.pop
                        have hle : Hid (∀ y ∈ r, (x.size : Int) ≤ keyS y) := Lib.hid (by
                          have := (allIn_sortedS ys).1
                          rw [hpr.out] at this
                          exact (List.pairwise_cons.1 (List.pairwise_append.1 this).2.1).1)
                        have hpr2 := Lib.hid (show allInS ys = (p ++ [x]) ++ r by rw [hpr.out]; simp)
                        have hx1 : ¬ ((x.size : Int) < (sz : Int)) := by have := hsz.out x (by simp); unfold keyS at this; omega
                        have hKX := Lib.hid (fun (w' : World) (hk : Kept X2 wr w') => (hk.block D (Array.getElem?_eq_some_iff.1 hK.out).1 (fun hm => by have := hS.out.lt D hm; omega)).trans hK.out)
                        generalize r.length = rl at *
                        clear hlen hsz
                        gi_wp2_with (first
                          | (refine ⟨trivial, ?_⟩; gi_at_call 27; refine (callsIn_wide.2 HL.out).mono ?_; rintro e w4 ⟨rfl, rfl⟩)
                          | (refine ⟨trivial, ?_⟩; gi_at_call 28; refine (callsIn_wide.2 PP.out).mono ?_; rintro e w5 ⟨rfl, hS5, hk5⟩; have HS5 := Lib.hid hS5; have HK5 := Lib.hid (hKX.out _ hk5); clear hS5 hk5))
                        go_roundw
                        case rel => exact ⟨p ++ [x], r, pl + 1, x.size, rfl, by go_num, Lib.hid (by rw [List.length_append, hpl.out]; rfl), hpr2, hle, HS5, HK5⟩
                        case measure => simp [intOf] <;> omega
                  case stop =>
                    rintro D c pre x r V hD hL h _ hK
                    exact h.elim
            | cons x r =>
              have hr0 : (0 : Int) < (r.length : Int) + 1 := by omega
              have HL := Lib.hid (len_isI hS.out.i (n := (r.length : Int) + 1) (by simp))
              have hrl : (r.length : Int) ≤ 60 := by simp at hlen; omega
              have hplN : (pl : Int) < (n : Int) := by have := hpl.out; simp at hlen; omega
              have hxx : x ∈ xs := (allIn_sortedI xs).2.mem_iff.1 (by rw [hpr.out]; simp)
              obtain ⟨cx, hcx⟩ : ∃ cx, cx = xs.count x := ⟨_, rfl⟩
              have hcp : 0 < cx := by rw [hcx]; exact List.count_pos_iff.2 hxx
              have hcb : ((cx : Int) == 0) = false := by rw [beq_eq_false_iff_ne]; omega
              have hcz : ¬ ((cx : Int) = 0) := by omega
              have PP := Lib.hid hS.out.pop
              have CT := Lib.hid (fun W (hb : Below w.heap.size w W) => count_any A n cap xs x W (RX.out.later hb) HX.out (by omega) (by omega))
              rw [← hcx] at CT
              have hle : Hid (∀ y ∈ r, x ≤ y) := Lib.hid (by
                have := (allIn_sortedI xs).1
                rw [hpr.out] at this
                exact (List.pairwise_cons.1 (List.pairwise_append.1 this).2.1).1)
              have hpr2 := Lib.hid (show allInI xs = (p ++ [x]) ++ r by rw [hpr.out]; simp)
              have hlx := Lib.hid (fun hp => hla.out hp x (by simp))
              generalize r.length = rl at *
              clear hcx hxx hlen hcp hla
              by_cases hp : p = []
              · have hz : pl = 0 := by rw [← hpl.out, hp]; rfl
                subst hz
                gi_wp2_with (first
                  | (refine ⟨trivial, ?_⟩; gi_at_call 23; refine (callsIn_wide.2 HL.out).mono ?_; rintro e w4 ⟨rfl, rfl⟩)
                  | (refine ⟨trivial, ?_⟩; gi_at_call 24; refine (callsIn_wide.2 PP.out).mono ?_; rintro e w5 ⟨rfl, hS5⟩; have HS5 := Lib.hid hS5; clear hS5)
                  | (refine ⟨trivial, ?_⟩; gi_at_call 25; refine (callsIn_wide.2 (CT.out _ HS5.out.b)).mono ?_; rintro e w6 ⟨rfl, rfl⟩))
                go_roundw
                case rel => exact ⟨p ++ [x], r, 1, x, by go_num, rfl, Lib.hid (by rw [hp]; rfl), hpr2, Lib.hid (fun _ => hle.out), HS5⟩
                case measure => simp [intOf] <;> omega
              · have hlx1 := hlx.out hp
                have hlx2 : ¬ (x < la) := by omega
                have hpp : (0 : Int) < (pl : Int) := by
                  have := hpl.out
                  have : p.length ≠ 0 := fun h => hp (List.length_eq_zero_iff.1 h)
                  omega
                gi_wp2_with (first
                  | (refine ⟨trivial, ?_⟩; gi_at_call 23; refine (callsIn_wide.2 HL.out).mono ?_; rintro e w4 ⟨rfl, rfl⟩)
                  | (refine ⟨trivial, ?_⟩; gi_at_call 24; refine (callsIn_wide.2 PP.out).mono ?_; rintro e w5 ⟨rfl, hS5⟩; have HS5 := Lib.hid hS5; clear hS5)
                  | (refine ⟨trivial, ?_⟩; gi_at_call 25; refine (callsIn_wide.2 (CT.out _ HS5.out.b)).mono ?_; rintro e w6 ⟨rfl, rfl⟩))
                go_roundw
                case rel => exact ⟨p ++ [x], r, pl + 1, x, by go_num, rfl, Lib.hid (by rw [List.length_append, hpl.out]; rfl), hpr2, Lib.hid (fun _ => hle.out), HS5⟩
                case measure => simp [intOf] <;> omega
    · have hdi : ¬ (60 : Int) < (n' : Int) := by omega
      obtain ⟨ys, RY, HY⟩ : ∃ ys, Hid (RowOfS w A' ys) ∧ Hid (ys.length = n') := ⟨ss, Lib.hid hR', Lib.hid hn'⟩
      clear hR' hn' ss
      gi_wp2_with (first
        | (refine ⟨trivial, ?_⟩; gi_at_call 8; refine (callsIn_wide.2 (AW.out _)).mono ?_; rintro e w1 ⟨rfl, hB1⟩)
        | (refine ⟨trivial, ?_⟩; gi_at_call 18; refine (callsIn_wide.2 (new_anyI (xs := xs) _ (RX.out.later hB1) HX.out (by omega) (by omega) (by omega))).mono ?_; rintro e w2 ⟨X, rfl, hH2, hB2⟩)
        | (refine ⟨trivial, ?_⟩; gi_at_call 20; refine (callsIn_wide.2 (NS.out _)).mono ?_; rintro e w3 ⟨X', rfl, hH3, hB3⟩))
      have hS0 : Both w w1.heap.size w2.heap.size w3 X n (allInI xs) X' 0 (allInS (ys.take 0)) :=
        ⟨hH2.later hB3, hH3, (hB1.trans (hB2.mono hB1.size)).trans (hB3.mono (hB1.trans (hB2.mono hB1.size)).size), fun k hk => (hH2.ge k hk).2, hB1.size, hB2.size⟩
      have HS0 := Lib.hid hS0
      clear hH2 hH3 hB1 hB2 hB3 hS0 NS hfn
      generalize w1.heap.size = B1 at *
      generalize w2.heap.size = B2 at *
      gi_loopw [8] (fun i wr => ∃ (k : Nat) (X' : List Nat), k ≤ n' ∧ i = .int .i64 k ∧ Hid (Both w B1 B2 wr X n (allInI xs) X' k (allInS (ys.take k)))) (fun i _ => n' - (intOf i).toNat)
      case atStart => exact ⟨0, X', Nat.zero_le _, rfl, HS0⟩
      case round =>
        obtain ⟨k, X2, hk, rfl, hS⟩ := hrel
        clear HS0
        have hk0 : (0 : Int) ≤ (k : Int) := by omega
        by_cases hlt : k < n'
        · have hi1 : (k : Int) < (n' : Int) := by omega
          obtain ⟨y, hy⟩ : ∃ y, ys[k]? = some y := ⟨ys[k]'(by rw [HY.out]; exact hlt), List.getElem?_eq_getElem _⟩
          obtain ⟨rb, ro, rfl, hrl, hoy, y0⟩ := RY.out.later hS.out.b k y hy
          have PU := hS.out.push hoy (by omega)
          rw [← allIn_snocS, ← take_one hy] at PU
          have PU := Lib.hid PU
          clear hy hoy
          gi_wp2_with (refine ⟨trivial, ?_⟩; gi_at_call 22; refine (callsIn_wide.2 PU.out).mono ?_; rintro e w4 ⟨rfl, X4, hS4⟩)
          have HS4 := Lib.hid hS4
          clear hS4 PU
          go_roundw
          case rel => exact ⟨k + 1, X4, by omega, by go_num, HS4⟩
          case measure => simp [intOf] <;> omega
        · have hkM : k = n' := by omega
          have HS1 : Hid (Both w B1 B2 wr X n (allInI xs) X2 n' (allInS ys)) := Lib.hid (by have := hS.out; rw [hkM, List.take_of_length_le (by rw [HY.out]; exact Nat.le_refl _)] at this; exact this)
          have hi1 : ¬ ((k : Int) < (n' : Int)) := by omega
          clear hkM hS
          gi_wp2
          gi_loopw [9, 10] (fun many last wr => ∃ (p r : List Int) (pl : Nat) (la : Int), many = .int .i64 (pl : Int) ∧ last = .int .i64 la ∧ Hid (p.length = pl) ∧ Hid (allInI xs = p ++ r) ∧ Hid (p ≠ [] → ∀ y ∈ r, la ≤ y) ∧ Hid (Both w B1 B2 wr X n r X2 n' (allInS ys))) (fun many _ _ => n - (intOf many).toNat)
          case atStart => exact ⟨[], allInI xs, 0, 0, rfl, rfl, Lib.hid rfl, Lib.hid rfl, Lib.hid (fun h => absurd rfl h), HS1⟩
          case round =>
            obtain ⟨p, r, pl, la, rfl, rfl, hpl, hpr, hla, hS⟩ := hrel
            clear HS1
            have hlen : p.length + r.length = n := by
              have := (allIn_sortedI xs).2.length_eq
              rw [hpr.out, HX.out, List.length_append] at this
              exact this
            have hpl0 : (0 : Int) ≤ (pl : Int) := by omega
            cases r with
            | nil =>
              have HL := Lib.hid (len_isI hS.out.i (n := 0) rfl)
              have hplN := Lib.hid (show pl = n by have := hpl.out; simp at hlen; omega)
              clear hlen
              gi_wp2_with (refine ⟨trivial, ?_⟩; gi_at_call 23; refine (callsIn_wide.2 HL.out).mono ?_; rintro e w4 ⟨rfl, rfl⟩)
              have hb2 := Lib.hid (Nat.le_trans hS.out.le hS.out.le2)
              have hs3 : Sm w B2 wr.heap.size (wr.alloc (.cells #[.int .i64 0] 3)) X2 n' (allInS ys) (wrap64 (xs.take 0).sum) :=
                ⟨hS.out.s.later ((Below.refl _ _).alloc (Nat.le_refl _) _), hS.out.b.alloc hS.out.b.size _, (by have := Boxed.new wr 3 (.int .i64 0); simpa [wrap64] using this), fun k hk => (hS.out.s.ge k hk).2, hb2.out⟩
              have HS3 := Lib.hid hs3
              have hplE := hplN.out
              clear hs3 hS hpr hla hpl HL hplN hb2
              generalize wr.alloc (.cells #[.int .i64 0] 3) = w5 at *
              generalize wr.heap.size = nb at *
              gi_loopw [14] (fun i wr => ∃ (k : Nat), k ≤ n ∧ i = .int .i64 (k : Int) ∧ Hid (Sm w B2 nb wr X2 n' (allInS ys) (wrap64 (xs.take k).sum))) (fun i _ => n - (intOf i).toNat)
              case atStart => exact ⟨0, Nat.zero_le _, rfl, HS3⟩
              case round =>
                obtain ⟨k, hk, rfl, hS⟩ := hrel
                clear HS3
                have hk0 : (0 : Int) ≤ (k : Int) := by omega
                have c0 := hS.out.box.cell
                have f0 := hS.out.box.frozen
                by_cases hlt : k < n
                · have hi1 : (k : Int) < (n : Int) := by omega
                  obtain ⟨y, hy⟩ : ∃ y, xs[k]? = some y := ⟨xs[k]'(by rw [HX.out]; exact hlt), List.getElem?_eq_getElem _⟩
                  obtain ⟨rb, ro, rfl, hrl, hoy, y0⟩ := RX.out.later hS.out.b k y hy
                  have HT := Lib.hid (show wrap64 (wrap64 (xs.take k).sum + y) = wrap64 (xs.take (k + 1)).sum by rw [wrap_add, take_one hy]; simp)
                  have HSet := Lib.hid (fun u => hS.out.set u)
                  clear hy hoy
                  generalize wrap64 (xs.take k).sum = v at *
                  gi_wp2
                  gi_region
                  all_goals gi_wp2
                  all_goals go_roundw
                  case rel => exact ⟨k + 1, by omega, by go_num, Lib.hid (by rw [← HT.out]; exact (HSet.out _).later (below_drew _))⟩
                  case measure => simp [intOf] <;> omega
                · have hkN : k = n := by omega
                  have hi1 : ¬ ((k : Int) < (n : Int)) := by omega
                  have HS1 : Hid (Sm w B2 nb wr X2 n' (allInS ys) (wrap64 xs.sum)) := Lib.hid (by have := hS.out; rw [hkN, List.take_of_length_le (by rw [HX.out]; exact Nat.le_refl _)] at this; exact this)
                  have hB := hS.out.b
                  clear hkN hS
                  gi_wp2_with (first
                    | (refine ⟨trivial, ?_⟩; gi_at_call 18; refine (callsIn_wide.2 (new_anyI (xs := xs) _ (RX.out.later hB) HX.out (by omega) (by omega) (by omega))).mono ?_; rintro e w6 ⟨X6, rfl, hH6, hB6⟩)
                    | (refine ⟨trivial, ?_⟩; gi_at_call 26; refine (callsIn_wide.2 (drain_anyI _ _)).mono ?_; rintro e w7 ⟨rfl, rfl⟩; have hfn := run_eql_seqI))
                  clear hfn
                  have hs1 := HS1.out.box.lt
                  obtain ⟨W2, hW2, L2, H2, hbl, hb1⟩ : ∃ W2, w6.alloc (.cells #[.pointer (some ⟨wr.heap.size, 0, none⟩)] 48) = W2 ∧ Sm w B2 nb W2 X2 n' (allInS ys) (wrap64 xs.sum) ∧ DHI wr.heap.size wr.heap.size n w6.heap.size X6 (allInI xs) W2 ∧ wr.heap.size < w6.heap.size ∧ w6.heap.size < W2.heap.size ∧ (∀ k ∈ X6, wr.heap.size ≤ k ∧ k < w6.heap.size) := by
                    have hbb : Below w6.heap.size w6 (w6.alloc (.cells #[.pointer (some ⟨wr.heap.size, 0, none⟩)] 48)) := (Below.refl _ _).alloc (Nat.le_refl _) _
                    refine ⟨_, rfl, (HS1.out.later hB6).later hbb, ⟨hH6.later hbb, Boxed.new _ _ _⟩, (hH6.ge _ hH6.mem).2, by simp, fun k hk => hH6.ge k hk⟩
                  rw [hW2]
                  obtain ⟨hb0, hb1⟩ := hb1
                  clear hW2 hH6 hB6 HS1 hB c0 f0
                  generalize w6.heap.size = bn at *
                  generalize wr.heap.size = b6 at *
                  refine wpIn_named fun fr hfr => ?_
                  refine rangeD valI (gf := 38) (lb := #[.pointer (some ⟨bn, 0, none⟩)]) (by rw [hfr]; rfl) (enters_of Try.func38 (by kernel_rfl) rfl)
                    (drain_seqI (allInI xs) (9 - 1) (by omega) (fun hm => by have := (hb1 _ hm).2; omega)) rfl H2 (fun r W W' h hs => h.same hs)
                    (fun k hk => by rcases List.mem_cons.1 hk with rfl | hk; omega; have := (hb1 k hk).2; omega)
                    (fun pre V => Sm w B2 nb V X2 n' (allInS ys) (wrap64 (xs.sum - pre.sum))) (fun _ _ _ => False)
                    (fun pre X Y row h hg hr => h.own hg hr (by have := h.ge; omega) (by omega)) (fun _ _ _ _ _ h _ _ => h)
                    (fun pre W1 W2 h hk => h.kept hk (fun k hk => by rcases List.mem_cons.1 hk with rfl | hk; omega; have := (hb1 k hk).1; omega))
                    (fun _ _ _ _ h _ => h) (by simpa using L2)
                    (fun x a' V => a' = { tmps := (fr.tmps.setIfInBounds 99 (.int .i64 x)).setIfInBounds 16 (.int .i64 x), defers := [] })
                    (fun x a' _ X Y row h _ _ => h)
                    ?assign ?body ?done ?stop
                  case assign =>
                    intro l2 pre x V K hI hK
                    subst hfr
                    gi_wp2
                    exact hK _ _ (KeepsFrom.refl _ _) (SameB.refl _ _) hI rfl
                  case body =>
                    rintro l2 pre x r a' V hS rfl hL
                    subst hfr
                    have c0 := hS.box.cell
                    have f0 := hS.box.frozen
                    have HSet := Lib.hid (fun u => hS.set u)
                    have HT := Lib.hid (show wrap64 (wrap64 (xs.sum - pre.sum) - x) = wrap64 (xs.sum - (pre ++ [x]).sum) by rw [wrap_sub]; congr 1; simp; omega)
                    generalize wrap64 (xs.sum - pre.sum) = v at *
                    simp only [List.setIfInBounds_toArray, List.set_cons_succ, List.set_cons_zero]
                    gi_wp2
                    refine ⟨(KeepsOthers.setCell _ _ _).from _, fun k hk => Below.heap_setCell _ _ _ _ (fun e => ?_), by show Sm _ _ _ _ _ _ _ (wrap64 (xs.sum - (pre ++ [x]).sum)); rw [← HT.out]; exact HSet.out _⟩
                    rcases List.mem_cons.1 hk with rfl | hk
                    · simp at e; omega
                    · have := (hb1 _ hk).1; simp at e; omega
                  case done =>
                    rintro D V hD hS hH0 hK
                    subst hfr
                    dsimp only
                    have hz : wrap64 (xs.sum - (allInI xs).sum) = 0 := by rw [perm_sum (allIn_sortedI xs).2]; simp [wrap64]
                    rw [hz] at hS
                    have HS5 := Lib.hid hS
                    have HK5 := Lib.hid hK
                    have hnD : nb < D := by omega
                    clear hS hK L2 H2 hH0 hz
                    gi_wp2
                    gi_loopw [17, 18] (fun size cnt wr => ∃ (p r : List ByteArray) (pl sz : Nat), size = .int .i64 (sz : Int) ∧ cnt = .int .i64 (pl : Int) ∧ Hid (p.length = pl) ∧ Hid (allInS ys = p ++ r) ∧ Hid (∀ y ∈ r, (sz : Int) ≤ keyS y) ∧ Hid (Sm w B2 nb wr X2 n' r 0) ∧ Hid (wr.heap[D]? = some (.deferred (some [])))) (fun _ cnt _ => n' - (intOf cnt).toNat)
                    case atStart => exact ⟨[], allInS ys, 0, 0, rfl, rfl, Lib.hid rfl, Lib.hid rfl, Lib.hid (fun y _ => by unfold keyS; omega), HS5, HK5⟩
                    case round =>
                      obtain ⟨p, r, pl, sz, rfl, rfl, hpl, hpr, hsz, hS, hK⟩ := hrel
                      clear HS5 HK5
                      have hlen : p.length + r.length = n' := by
                        have := (allIn_sortedS ys).2.length_eq
                        rw [hpr.out, HY.out, List.length_append] at this
                        exact this
                      have hpl0 : (0 : Int) ≤ (pl : Int) := by omega
                      have hplM : (pl : Int) ≤ (n' : Int) := by have := hpl.out; omega
                      cases r with
                      | nil =>
                        have HL := Lib.hid (len_isS hS.out.s (n := 0) rfl)
                        have hplE : pl = n' := by have := hpl.out; simp at hlen; omega
                        have c0 := hS.out.box.cell
                        clear hlen hplM
                        gi_wp2_with (refine ⟨trivial, ?_⟩; gi_at_call 27; refine (callsIn_wide.2 HL.out).mono ?_; rintro e w4 ⟨rfl, rfl⟩)
                        refine ⟨by simp, .inl ⟨_, _, rfl, run_takeDeferred hK.out, ?_⟩⟩
                        exact ⟨.bool true, by simp [results, Try.f4, go_sem], rfl, hS.out.b.trans (belowK_b (w := w) (Nat.le_refl _) wr D _ _ (by have := hS.out.ge; omega) hK.out rfl rfl)⟩
                      | cons x r =>
                        have hr0 : (0 : Int) < (r.length : Int) + 1 := by omega
                        have HL := Lib.hid (len_isS hS.out.s (n := (r.length : Int) + 1) (by simp))
                        have hrl : (r.length : Int) ≤ 60 := by simp at hlen; omega
                        have hplN : (pl : Int) < (n' : Int) := by have := hpl.out; simp at hlen; omega
                        have PP := Lib.hid hS.out.pop
                        have hle : Hid (∀ y ∈ r, (x.size : Int) ≤ keyS y) := Lib.hid (by
                          have := (allIn_sortedS ys).1
                          rw [hpr.out] at this
                          exact (List.pairwise_cons.1 (List.pairwise_append.1 this).2.1).1)
                        have hpr2 := Lib.hid (show allInS ys = (p ++ [x]) ++ r by rw [hpr.out]; simp)
                        have hx1 : ¬ ((x.size : Int) < (sz : Int)) := by have := hsz.out x (by simp); unfold keyS at this; omega
                        have hKX := Lib.hid (fun (w' : World) (hk : Kept X2 wr w') => (hk.block D (Array.getElem?_eq_some_iff.1 hK.out).1 (fun hm => by have := hS.out.lt D hm; omega)).trans hK.out)
                        generalize r.length = rl at *
                        clear hlen hsz
                        gi_wp2_with (first
                          | (refine ⟨trivial, ?_⟩; gi_at_call 27; refine (callsIn_wide.2 HL.out).mono ?_; rintro e w4 ⟨rfl, rfl⟩)
                          | (refine ⟨trivial, ?_⟩; gi_at_call 28; refine (callsIn_wide.2 PP.out).mono ?_; rintro e w5 ⟨rfl, hS5, hk5⟩; have HS5 := Lib.hid hS5; have HK5 := Lib.hid (hKX.out _ hk5); clear hS5 hk5))
                        go_roundw
                        case rel => exact ⟨p ++ [x], r, pl + 1, x.size, rfl, by go_num, Lib.hid (by rw [List.length_append, hpl.out]; rfl), hpr2, hle, HS5, HK5⟩
                        case measure => simp [intOf] <;> omega
                  case stop =>
                    rintro D c pre x r V hD hL h _ hK
                    exact h.elim
            | cons x r =>
              have hr0 : (0 : Int) < (r.length : Int) + 1 := by omega
              have HL := Lib.hid (len_isI hS.out.i (n := (r.length : Int) + 1) (by simp))
              have hrl : (r.length : Int) ≤ 60 := by simp at hlen; omega
              have hplN : (pl : Int) < (n : Int) := by have := hpl.out; simp at hlen; omega
              have hxx : x ∈ xs := (allIn_sortedI xs).2.mem_iff.1 (by rw [hpr.out]; simp)
              obtain ⟨cx, hcx⟩ : ∃ cx, cx = xs.count x := ⟨_, rfl⟩
              have hcp : 0 < cx := by rw [hcx]; exact List.count_pos_iff.2 hxx
              have hcb : ((cx : Int) == 0) = false := by rw [beq_eq_false_iff_ne]; omega
              have hcz : ¬ ((cx : Int) = 0) := by omega
              have PP := Lib.hid hS.out.pop
              have CT := Lib.hid (fun W (hb : Below w.heap.size w W) => count_any A n cap xs x W (RX.out.later hb) HX.out (by omega) (by omega))
              rw [← hcx] at CT
              have hle : Hid (∀ y ∈ r, x ≤ y) := Lib.hid (by
                have := (allIn_sortedI xs).1
                rw [hpr.out] at this
                exact (List.pairwise_cons.1 (List.pairwise_append.1 this).2.1).1)
              have hpr2 := Lib.hid (show allInI xs = (p ++ [x]) ++ r by rw [hpr.out]; simp)
              have hlx := Lib.hid (fun hp => hla.out hp x (by simp))
              generalize r.length = rl at *
              clear hcx hxx hlen hcp hla
              by_cases hp : p = []
              · have hz : pl = 0 := by rw [← hpl.out, hp]; rfl
                subst hz
                gi_wp2_with (first
                  | (refine ⟨trivial, ?_⟩; gi_at_call 23; refine (callsIn_wide.2 HL.out).mono ?_; rintro e w4 ⟨rfl, rfl⟩)
                  | (refine ⟨trivial, ?_⟩; gi_at_call 24; refine (callsIn_wide.2 PP.out).mono ?_; rintro e w5 ⟨rfl, hS5⟩; have HS5 := Lib.hid hS5; clear hS5)
                  | (refine ⟨trivial, ?_⟩; gi_at_call 25; refine (callsIn_wide.2 (CT.out _ HS5.out.b)).mono ?_; rintro e w6 ⟨rfl, rfl⟩))
                go_roundw
                case rel => exact ⟨p ++ [x], r, 1, x, by go_num, rfl, Lib.hid (by rw [hp]; rfl), hpr2, Lib.hid (fun _ => hle.out), HS5⟩
                case measure => simp [intOf] <;> omega
              · have hlx1 := hlx.out hp
                have hlx2 : ¬ (x < la) := by omega
                have hpp : (0 : Int) < (pl : Int) := by
                  have := hpl.out
                  have : p.length ≠ 0 := fun h => hp (List.length_eq_zero_iff.1 h)
                  omega
                gi_wp2_with (first
                  | (refine ⟨trivial, ?_⟩; gi_at_call 23; refine (callsIn_wide.2 HL.out).mono ?_; rintro e w4 ⟨rfl, rfl⟩)
                  | (refine ⟨trivial, ?_⟩; gi_at_call 24; refine (callsIn_wide.2 PP.out).mono ?_; rintro e w5 ⟨rfl, hS5⟩; have HS5 := Lib.hid hS5; clear hS5)
                  | (refine ⟨trivial, ?_⟩; gi_at_call 25; refine (callsIn_wide.2 (CT.out _ HS5.out.b)).mono ?_; rintro e w6 ⟨rfl, rfl⟩))
                go_roundw
                case rel => exact ⟨p ++ [x], r, pl + 1, x, by go_num, rfl, Lib.hid (by rw [List.length_append, hpl.out]; rfl), hpr2, Lib.hid (fun _ => hle.out), HS5⟩
                case measure => simp [intOf] <;> omega
end Go.Proofs.Ytebbpgokhelmdaa
