/- The statement Rows.TextPrintsUptoCardSaid is proved: whatever the input that holds at most 1048576 values and letters, the call returns true and its arguments read as before. No condition but that bound and the card's own: the library's tables that its row lists read as the program's text lays them, and the card ties them to that text. -/
import Derived.Test.YtlelnoalajeihaaDoorRows
import Derived.WalkKit
import Derived.Below
import Derived.ChangeOld
import Derived.ProofKit
import Derived.OpenShut
import Derived.ShutString
import Derived.Test.YtlelnoalajeihaaDoorTPn
import Derived.Test.YtlelnoalajeihaaDoorDoor
import Derived.Test.YtlelnoalajeihaaDoorTie
import Derived.Test.YtlelnoalajeihaaDoorCards
import Derived.SevenTiedAt
import Derived.LaidMore
import Derived.Stop.Joined
import Derived.Deep.DeepHandedRow
namespace Go.Proofs.YtlelnoalajeihaaDoor.textPrints
open Go.ChangeShapes Go.WideShapes Go.ChangeAt Go.RowKit
set_option linter.unusedVariables false

theorem part_le {H : Type} {d : DataW H} : ∀ {l : List (DataW H)}, d ∈ l → Rows.uptoBulk d ≤ Rows.uptoBulkAll l
  | x :: r, h => by
    simp only [Rows.uptoBulkAll]
    rcases List.mem_cons.1 h with rfl | h
    · omega
    · have := part_le h; omega
theorem slice_elems {H : Type} (elems spare : List (DataW H)) : Rows.uptoBulkAll elems + 1 ≤ Rows.uptoBulk (.slice elems spare) := by
  simp only [Rows.uptoBulk]; omega
theorem app_le {H : Type} : ∀ l r : List (DataW H), Rows.uptoBulkAll l ≤ Rows.uptoBulkAll (l ++ r)
  | [], r => by simp [Rows.uptoBulkAll]
  | x :: l, r => by
    have := app_le l r
    simp only [List.cons_append, Rows.uptoBulkAll]
    omega
theorem string_eq {H : Type} (l : List UInt8) : Rows.uptoBulk (DataW.lit (H := H) (.string l)) = l.length + 1 := by simp [Rows.uptoBulk]
section
variable {H : Type} {enc : TypeId × Value → H} {W : World} {base : Nat} {sp : Nat → Bool} {hd : Bool}
set_option maxRecDepth 100000 in
theorem read_tasks2 {fuel : Nat} {v : Value} {y : DataW H × List MemPlace} (h : DataW.trod enc Tryd.prog W base sp hd fuel 22 [v] = some y) :
    ∃ A cap l, v = .slice A l.length cap ∧ Row W A cap l ∧ ∀ x ∈ l, x.n.size ≤ Rows.uptoBulk y.1 := by
  rcases DataW.trod_slice Tryd.underlying22 h with ⟨hcs, _⟩ | ⟨a, len, cap, elems, rest, n, _, hcs, hyy, _, hl', hm, hlen, hel, _, _⟩
  · obtain rfl : v = .slice none 0 0 := by simpa using hcs
    exact ⟨none, 0, [], rfl, Row.nil _ _ (by omega), by simp⟩
  · obtain rfl : v = .slice (some a) len cap := by simpa using hcs
    have c7 : Tryd.prog.cellsOf 29 = 7 := by kernel_rfl
    rw [c7] at hel
    unfold maxLen at hm
    rcases Nat.eq_zero_or_pos len with h0 | h0
    · subst h0
      exact ⟨_, cap, [], rfl, Row.nil _ _ hm, by simp⟩
    have hsp := slice_spot hlen h0 (by omega) hel
    obtain ⟨ab, ao, asp⟩ := a
    obtain rfl : asp = none := by injection hsp
    clear hsp
    have key : ∀ i, i < len → ∃ x : Ts, TsW x ∧ TAt W ab (ao + i * 7) x ∧ x.n.size ≤ Rows.uptoBulk y.1 := by
      intro i hi
      have h1 := hel i hi
      have ci : Tryd.prog.cellsOf 3 = 1 := by kernel_rfl
      have ch : Tryd.prog.cellsOf 2 = 1 := by kernel_rfl
      have cs : Tryd.prog.cellsOf 9 = 1 := by kernel_rfl
      rw [List.getElem?_eq_getElem (by omega)] at h1
      obtain ⟨cl, hcs2, ht⟩ := Option.bind_eq_some_iff.1 h1
      obtain ⟨_, hcl, hat⟩ := World.cells?_some hcs2
      obtain ⟨ys, n', _, hyx, _, hyl, hf⟩ := DataW.trod_struct Tryd.underlying29 ht
      match cl, hcl, hat, hf with
      | [v0, v1, v2, v3, v4, v5, v6], _, hat, hf =>
        have g0 : DataW.trod enc Tryd.prog W base sp hd n' 9 [v0] = ys[0]? := by
          have e : DataW.trod enc Tryd.prog W base sp hd n' 9 (([v0, v1, v2, v3, v4, v5, v6].drop 0).take (Tryd.prog.cellsOf 9)) = ys[0]? := hf 0 _ rfl
          rw [cs] at e
          exact e
        have g1 : DataW.trod enc Tryd.prog W base sp hd n' 2 [v1] = ys[1]? := by
          have e : DataW.trod enc Tryd.prog W base sp hd n' 2 (([v0, v1, v2, v3, v4, v5, v6].drop 1).take (Tryd.prog.cellsOf 2)) = ys[1]? := hf 1 _ rfl
          rw [ch] at e
          exact e
        have g2 : DataW.trod enc Tryd.prog W base sp hd n' 2 [v2] = ys[2]? := by
          have e : DataW.trod enc Tryd.prog W base sp hd n' 2 (([v0, v1, v2, v3, v4, v5, v6].drop 2).take (Tryd.prog.cellsOf 2)) = ys[2]? := hf 2 _ rfl
          rw [ch] at e
          exact e
        have g3 : DataW.trod enc Tryd.prog W base sp hd n' 2 [v3] = ys[3]? := by
          have e : DataW.trod enc Tryd.prog W base sp hd n' 2 (([v0, v1, v2, v3, v4, v5, v6].drop 3).take (Tryd.prog.cellsOf 2)) = ys[3]? := hf 3 _ rfl
          rw [ch] at e
          exact e
        have g4 : DataW.trod enc Tryd.prog W base sp hd n' 2 [v4] = ys[4]? := by
          have e : DataW.trod enc Tryd.prog W base sp hd n' 2 (([v0, v1, v2, v3, v4, v5, v6].drop 4).take (Tryd.prog.cellsOf 2)) = ys[4]? := hf 4 _ rfl
          rw [ch] at e
          exact e
        have g5 : DataW.trod enc Tryd.prog W base sp hd n' 2 [v5] = ys[5]? := by
          have e : DataW.trod enc Tryd.prog W base sp hd n' 2 (([v0, v1, v2, v3, v4, v5, v6].drop 5).take (Tryd.prog.cellsOf 2)) = ys[5]? := hf 5 _ rfl
          rw [ch] at e
          exact e
        have g6 : DataW.trod enc Tryd.prog W base sp hd n' 3 [v6] = ys[6]? := by
          have e : DataW.trod enc Tryd.prog W base sp hd n' 3 (([v0, v1, v2, v3, v4, v5, v6].drop 6).take (Tryd.prog.cellsOf 3)) = ys[6]? := hf 6 _ rfl
          rw [ci] at e
          exact e
        have hy7 : ys.length = 7 := hyl
        rw [List.getElem?_eq_getElem (by omega)] at g0 g1 g2 g3 g4 g5 g6
        obtain ⟨z0, e0, q0, w0⟩ := DataW.trod_string Tryd.underlying9 g0
        obtain ⟨z1, e1, _, w1⟩ := DataW.trod_int Tryd.underlying2 g1
        obtain ⟨z2, e2, _, w2⟩ := DataW.trod_int Tryd.underlying2 g2
        obtain ⟨z3, e3, _, w3⟩ := DataW.trod_int Tryd.underlying2 g3
        obtain ⟨z4, e4, _, w4⟩ := DataW.trod_int Tryd.underlying2 g4
        obtain ⟨z5, e5, _, w5⟩ := DataW.trod_int Tryd.underlying2 g5
        obtain ⟨z6, e6, _, w6⟩ := DataW.trod_int Tryd.underlying3 g6
        obtain rfl : v0 = .string z0 := by simpa using e0
        obtain rfl : v1 = .int .i64 z1 := by simpa using e1
        obtain rfl : v2 = .int .i64 z2 := by simpa using e2
        obtain rfl : v3 = .int .i64 z3 := by simpa using e3
        obtain rfl : v4 = .int .i64 z4 := by simpa using e4
        obtain rfl : v5 = .int .i64 z5 := by simpa using e5
        obtain rfl : v6 = .int .i64 z6 := by simpa using e6
        refine ⟨⟨z0, z1, z2, z3, z4, z5, z6⟩, ⟨by simpa [maxLen] using w0, in64_of w1, in64_of w2, in64_of w3, in64_of w4, in64_of w5, in64_of w6⟩, ⟨fun j u hu => ?_⟩, ?_⟩
        · have hj : j < 7 := by
            rcases Nat.lt_or_ge j 7 with h | h
            · exact h
            · rw [List.getElem?_eq_none (by simp [tsL]; omega)] at hu; cases hu
          have := hat j (by simpa using hj)
          simp only [add_none] at this
          rw [this]
          rw [← hu]
          rfl
        · have b0 : Rows.uptoBulk (ys[0]'(by omega)).1 = z0.size + 1 := by rw [q0, string_eq, ← Lib.size_eq]
          have b1 := part_le (d := (ys[0]'(by omega)).1) (l := ys.map (·.1)) (List.mem_map.2 ⟨_, List.getElem_mem _, rfl⟩)
          have b2 : Rows.uptoBulk (elems[i]'(by omega)).1 = Rows.uptoBulkAll (ys.map (·.1)) + 1 := by rw [hyx]; simp only [Rows.uptoBulk]
          have b3 := part_le (d := (elems[i]'(by omega)).1) (l := elems.map (·.1)) (List.mem_map.2 ⟨_, List.getElem_mem _, rfl⟩)
          have b4 := slice_elems (elems.map (·.1)) (rest.map (·.1))
          rw [hyy]
          show z0.size ≤ _
          simp only
          omega
    obtain ⟨l, hl, hp⟩ := list_of len key
    subst hl
    refine ⟨some ⟨ab, ao, none⟩, cap, l, rfl, ⟨hl', hm, fun x hx => ?_, fun i x hx => ⟨ab, ao, rfl, (hp i x hx).2.1⟩⟩, fun x hx => ?_⟩
    · obtain ⟨i, hi, rfl⟩ := List.getElem_of_mem hx
      exact (hp i _ (List.getElem?_eq_getElem hi)).1
    obtain ⟨i, hi, rfl⟩ := List.getElem_of_mem hx
    exact (hp i _ (List.getElem?_eq_getElem hi)).2.2
end
theorem in64_w {n : Int} (h : (Lit.int .i64 n).wf = true) : in64 n := by
  simp [Lit.wf, IntKind.min, IntKind.max, IntKind.bits, IntKind.signed] at h
  unfold in64
  omega
set_option maxRecDepth 100000 in
theorem contract (H : Type) (enc : TypeId × Value → H) (W : World) (base : Nat) (args : Array Value) (ds gs : List (DataW H)) (before : List MemPlace)
    (hval0 : ∀ (j : Nat) t v, Tryd.f3.params[j]? = some t → args[j]? = some v → Value.okWide Tryd.prog W .any base t v)
    (hW : DataW.Whole enc Tryd.prog Tryd.f3.params.toList Rows.textPrintsSpec.vars false W args.toList ds gs before) (hL : laidMetH Tryd.prog Rows.textPrintsRow.laid W) (hk : Rows.uptoBulkAll ds ≤ 1048576) :
    Calls Tryd.prog 3 args W fun e W' => ∃ v, e = .returned v ∧ Rows.textPrintsSpec.post enc Tryd.prog Tryd.f3 false true false false W args v W' := by
  have hval : ∀ (j : Nat) t v, Tryd.f3.params[j]? = some t → args[j]? = some v → Value.okWide Tryd.prog W .any base t v := hval0
  have hW' := hW
  obtain ⟨p, q, hA0, hV, rfl, hfz, hnd⟩ := hW
  have hA : DataW.TrodAll enc Tryd.prog W 0 (fun _ => true) true Tryd.f3.params.toList args.toList ds p := hA0
  rw [Tryd.params3] at hA hval
  obtain ⟨v0, vs0, d0, ds0, p0, q0, hargs, rfl, rfl, h0, r0⟩ := trodAll_cons hA
  obtain ⟨v1, vs1, d1, ds1, p1, q1, rfl, rfl, rfl, h1, r1⟩ := trodAll_cons r0
  obtain ⟨v2, vs2, d2, ds2, p2, q2, rfl, rfl, rfl, h2, r2⟩ := trodAll_cons r1
  obtain ⟨rfl, rfl, rfl⟩ := trodAll_nil r2
  obtain rfl : args = #[v0, v1, v2] := by cases args; simp_all
  obtain ⟨rfl, rfl⟩ := trodVars_none hV
  have hT := tab_of_laid hL
  obtain ⟨A00, len00, cap00, e00⟩ := okWide_slice Tryd.underlying22 (hval 0 22 v0 rfl rfl)
  have k0 := h0
  have lt0 : ∀ x ∈ p0, x.block < W.heap.size := by obtain ⟨m, hm⟩ := k0; exact DataW.trod_lt m _ _ _ hm
  obtain ⟨A0, cap0, l0, e0, w0, n0⟩ : ∃ A cap l, v0 = .slice A l.length cap ∧ Row W A cap l ∧ ∀ x ∈ l, x.n.size ≤ Rows.uptoBulk d0 := by
    obtain ⟨fuel, hf⟩ := h0
    rw [e00] at hf
    obtain ⟨A, cap, l, e, ha, hn⟩ := read_tasks2 hf
    exact ⟨A, cap, l, by rw [e00, e], ha, hn⟩
  subst e0
  obtain ⟨A01, len01, cap01, e01⟩ := okWide_slice Tryd.underlying23 (hval 1 23 v1 rfl rfl)
  have k1 := h1
  have lt1 : ∀ x ∈ p1, x.block < W.heap.size := by obtain ⟨m, hm⟩ := k1; exact DataW.trod_lt m _ _ _ hm
  obtain ⟨A1, cap1, l1, e1, w1⟩ : ∃ A cap l, v1 = .slice A l.length cap ∧ SRow W A cap l := by
    obtain ⟨fuel, hf⟩ := h1
    rw [e01] at hf
    obtain ⟨A, cap, l, e, ha⟩ := read_specs hf
    exact ⟨A, cap, l, by rw [e01, e], ha⟩
  subst e1
  obtain ⟨a2, rfl, rfl, rfl, w2⟩ := open_int Tryd.underlying3 (hval 2 3 v2 rfl rfl) h2
  clear hA0 hval0
  have hLg : Longs l0 := fun x hx => ⟨w0.wf x hx, by
    have h1 := n0 x hx
    simp only [Rows.uptoBulkAll] at hk
    omega⟩
  refine (tprints_walk A0 cap0 l0 A1 cap1 l1 a2 W w0 w1 (in64_w w2) hT hLg).mono fun e W' ⟨he, bel⟩ => ?_
  subst he
  exact ⟨_, rfl, _, _, _, [], _, [], hW', trodAll_mk1 (shut_bool Tryd.underlying4 _), (trodAll_cons_mk (Below.trod laidOut (by kernel_rfl) (of_decide_eq_true (by kernel_rfl)) k0 bel lt0) (trodAll_cons_mk (Below.trod laidOut (by kernel_rfl) (of_decide_eq_true (by kernel_rfl)) k1 bel lt1) (trodAll_cons_mk (shut_int Tryd.underlying3 w2) trodAll_mk0))), rfl, bel.frame _, fun h => by cases h⟩
theorem reads (os : Os) {H : Type} (enc : TypeId × Value → H) : ∃ places, DataW.whole enc Tryd.prog ((World.doorLaid Tryd.prog 4000 os).forCall (fun _ _ => 0) ⟨#[], #[.slice none 0 0, .slice none 0 0, .int .i64 0], []⟩).memory Tryd.f3.params.toList Rows.textPrintsSpec.vars false #[Value.slice none 0 0, .slice none 0 0, .int .i64 0].toList 8 = some ([.nil, .nil, .lit (.int .i64 0)], [], places) :=
  ⟨[], by kernel_rfl⟩
set_option maxRecDepth 100000 in
theorem liftedUpto (os : Os) (started : os.Started) (H : Type) (enc : TypeId × Value → H) (F : Stop.Interp) :
    ReturnsInHanded {} Tryd.checked os 3 .any ((Rows.OpenSpec.upto Rows.textPrintsSpec).preRow enc Tryd.prog Tryd.f3 Rows.textPrintsUptoRow.domain false Rows.textPrintsUptoRow.laid) (((Rows.OpenSpec.upto Rows.textPrintsSpec).at F).post enc Tryd.prog Tryd.f3 false true false false) := by
  obtain ⟨places, hx⟩ := reads os enc
  refine returnsInHanded_of_row (C := Tryd.checked) (s := Rows.OpenSpec.upto Rows.textPrintsSpec) own started (by kernel_rfl) Tryd.func3
    (witness_row_at (enc := enc) (C := Tryd.checked) false (World.doorLaid Tryd.prog 4000 os) #[.slice none 0 0, .slice none 0 0, .int .i64 0] rfl (by kernel_rfl) (by kernel_rfl) (by kernel_rfl)
      (OpenSpec.preRow_of_cond 8 hx (by kernel_rfl) (fun k hk => by cases hk; kernel_rfl) (by kernel_rfl) (door_met os _))) ?_
  intro W base args ds gs before hval hW hcnd hcond hX hL hY hZ
  exact contract H enc W base args ds gs before hval hW hL (by
    have hk : Rows.uptoBulkAll (ds ++ gs) ≤ 1048576 := of_decide_eq_true (hcond _ rfl)
    exact Nat.le_trans (app_le ds gs) hk)
theorem saidUpto : Rows.TextPrintsUptoSaid :=
  OpenClaim.holds_of_cond 3 Tryd.f3 rfl rfl rfl rfl rfl rfl rfl ⟨rfl, rfl, rfl, rfl, rfl⟩ rfl rfl rfl rfl rfl (by kernel_rfl) Tryd.func3 (by kernel_rfl)
    (of_decide_eq_true (by kernel_rfl)) (by unfold Func.isWrapper; first | (rw [if_pos (by decide +kernel)]; kernel_rfl) | (rw [if_neg (by decide +kernel)]; exact ⟨rfl, rfl⟩))
    (fun os started H enc _ F => by rw [OpenClaim.pre_eq_preRow]; exact liftedUpto os started H enc F)
theorem plain (f : FuncId) (fn : Func) (hf : Tryd.pinned.checked.prog.funcNamed "cadency/cadencylaw05.TextPrints" = some f) (hfn : Tryd.pinned.checked.prog.funcs[f]? = some fn) :
    false = Tryd.pinned.checked.prog.looks [] ∧ ∀ (j : Nat) t, fn.params[j]? = some t → Tryd.pinned.checked.prog.wantsStandIn t = false := by
  obtain rfl : f = 3 := Option.some.inj ((show Tryd.prog.funcNamed "cadency/cadencylaw05.TextPrints" = some 3 by kernel_rfl).symm.trans hf) |>.symm
  obtain rfl : fn = Tryd.f3 := (Option.some.inj (Tryd.func3.symm.trans hfn)).symm
  refine ⟨by kernel_rfl, fun j t ht => ?_⟩
  rw [Tryd.params3] at ht
  have hm : t ∈ [22, 23, 3] := by simpa using Array.mem_of_getElem? ht
  have hall : ([22, 23, 3].all fun u => !Tryd.prog.wantsStandIn u) = true := by kernel_rfl
  exact (show Tryd.prog.wantsStandIn t = false by simpa using List.all_eq_true.1 hall t hm)
theorem proved : Rows.TextPrintsUptoCardSaid :=
  Claim7.holds_tied_plain_at .later [] _ _ _ _ saidUpto (fun _ h => by cases h) (by kernel_rfl) (fun _ h => by cases h) textPrintsUpto_row_tie rfl ⟨rfl, rfl⟩ (by kernel_rfl) rfl plain (by kernel_rfl)
#print axioms proved
end Go.Proofs.YtlelnoalajeihaaDoor.textPrints
