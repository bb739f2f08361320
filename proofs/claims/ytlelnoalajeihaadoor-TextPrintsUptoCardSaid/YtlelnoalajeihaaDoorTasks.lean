/- The reader's tasks: the walk. -/
import Derived.Test.YtlelnoalajeihaaDoorStep
import Derived.Test.YtlelnoalajeihaaDoorTok
import Derived.Test.YtlelnoalajeihaaDoorSet0
import Derived.Deep.LoopGhost
import Derived.WalkMore
namespace Go.Proofs.YtlelnoalajeihaaDoor
open Go.RowKit
set_option linter.unusedVariables false
set_option linter.unusedSimpArgs false

theorem ended_not {bm bx br g o cap : Nat} {F : Fl} {x : Tk} {r : List Tk} {w : World} (hR : Rd w br g o cap (x :: r)) (hM : MapF w bm bx F) (h : ¬ (x.k = 4 ∧ full F = true)) :
    Calls Tryd.prog 38 #[.pointer (some ⟨br, 0, none⟩), .map (some bm)] w (OnPost w) := by
  cases hf : full F
  · exact (ended_no hM hf).mono fun e w' h => ⟨h.1, by rw [← h.2]; exact Below.refl _ _⟩
  · exact ended_on hR hM hf (fun h4 => h ⟨h4, hf⟩)
theorem field_cases {br g o cap bt bx bm : Nat} {nm : List UInt8} {x : Tk} {r : List Tk} {F : Fl} {w : World} (hA : Apart br g bt bx bm) (hR : Rd w br g o cap (x :: r)) (hL : LineSt w bt bx bm nm F) (hG : Rds (x :: r)) (h : ¬ (x.k = 4 ∧ full F = true)) :
    (∃ l, fieldsS (x :: r) F = (false, F, l) ∧ l ≠ [] ∧ Calls Tryd.prog 39 #[.pointer (some ⟨br, 0, none⟩), .map (some bm)] w (BadField br g l w)) ∨
    (∃ k y z r3, r = y :: z :: r3 ∧ z.k = 2 ∧ fieldsS (x :: r) F = fieldsS r3 (fset F k z.n) ∧ Calls Tryd.prog 39 #[.pointer (some ⟨br, 0, none⟩), .map (some bm)] w (GoodField br g bt bx bm nm (fset F k z.n) r3 w)) := by
  have no : ∀ {P : Prop}, (∀ k, fieldIx x.t = some k → (F k).isSome = true) → Calls Tryd.prog 39 #[.pointer (some ⟨br, 0, none⟩), .map (some bm)] w (BadField br g (x :: r) w) := fun h =>
    (field_no hR hL.map h).mono fun e w' h => ⟨o, cap, h.1, by rw [← h.2]; exact hR, by rw [← h.2]; exact Kept.refl _ _⟩
  have hgx := hG.good x (by simp)
  cases hx : fieldIx x.t with
  | none =>
    have hc := no (P := True) (fun k hk => by rw [hx] at hk; cases hk)
    by_cases h4 : x.k = 4
    · cases hf : full F
      · exact .inl ⟨_, fieldsS_early h4 hf, by simp, hc⟩
      · exact absurd ⟨h4, hf⟩ h
    · exact .inl ⟨_, fieldsS_not h4 hx, by simp, hc⟩
  | some k =>
    have hx1 := hgx.field hx
    have h4 : x.k ≠ 4 := by omega
    cases hk : (F k).isSome
    · obtain ⟨y, r2, rfl⟩ := hG.next h4
      by_cases hy : y.k = 3
      · obtain ⟨z, r3, rfl⟩ := hG.tail.next (by omega)
        by_cases hz : z.k = 2
        · exact .inr ⟨k, y, z, r3, rfl, hz, fieldsS_go h4 hx hk hy hz, field_ok hA hR hL hx1 hx hk hy hz⟩
        · exact .inl ⟨_, fieldsS_num h4 hx hk hy hz, by simp, field_num hR hL.map hx1 hx hk hy hz⟩
      · exact .inl ⟨_, fieldsS_eq h4 hx hk hy, by simp, field_eq hR hL.map hx1 hx hk hy⟩
    · exact .inl ⟨_, fieldsS_twice h4 hx hk, by simp, no (P := True) (fun j hj => by rw [hx] at hj; cases hj; exact hk)⟩
theorem named_cases {br g o cap : Nat} {x : Tk} {r : List Tk} {w : World} (hR : Rd w br g o cap (x :: r)) (hG : Rds (x :: r)) (h : x.k ≠ 4) :
    (∃ l, tasksS (x :: r) = ([], l) ∧ l ≠ [] ∧ Calls Tryd.prog 36 #[.pointer (some ⟨br, 0, none⟩)] w (BadName br g l w)) ∨
    (∃ y r2, r = y :: r2 ∧ x.t = taskW ∧ y.k = 1 ∧ Calls Tryd.prog 36 #[.pointer (some ⟨br, 0, none⟩)] w (GoodName br g y.t r2 w)) := by
  by_cases ht : x.t = taskW
  · have hx1 := (hG.good x (by simp)).task ht
    obtain ⟨y, r2, rfl⟩ := hG.next h
    by_cases hy : y.k = 1
    · exact .inr ⟨y, r2, rfl, ht, hy, named_ok hR hx1 ht hy⟩
    · exact .inl ⟨_, tasksS_name h ht hy, by simp, named_bad hR hx1 ht hy⟩
  · exact .inl ⟨_, tasksS_word h ht, by simp, (named_word hR ht).mono fun e w' h => ⟨o, cap, h.1, by rw [← h.2]; exact hR, by rw [← h.2]; exact Kept.refl _ _⟩⟩

/-- What the outer loop holds. -/
structure OutI (w0 : World) (ts : List Tk) (br g : Nat) (n : Nat) (v : Value) (w : World) (rest : List Tk) (o cap : Nat) (acc : List Ts) : Prop where
  own : SetIn w0.heap.size w v acc.length acc
  rd : Rd w br g o cap rest
  kept : Kept [br] w0 w
  eq : tasksS ts = (acc ++ (tasksS rest).1, (tasksS rest).2)
  rds : Rds rest
  sm : Small rest
  le : rest.length ≤ n
def TasksPost (br g : Nat) (ts : List Tk) (w : World) (e : Ending) (w' : World) : Prop := ∃ v o' cap', e = .returned v ∧ SetIn w.heap.size w' v (tasksS ts).1.length (tasksS ts).1 ∧ Rd w' br g o' cap' (tasksS ts).2 ∧ Kept [br] w w'
theorem SetIn.kept {X : List Nat} {B k : Nat} {w w' : World} {v : Value} {ts : List Ts} (h : SetIn B w v k ts) (hk : Kept X w w') (hx : ∀ g, v.ownBlock = some g → g ∉ X) : SetIn B w' v k ts :=
  ⟨h.len, h.wf, hk.row h.row hx⟩
theorem SetIn.block {B k : Nat} {w : World} {v : Value} {ts : List Ts} (h : SetIn B w v k ts) : ∀ g, v.ownBlock = some g → B ≤ g ∧ g < w.heap.size := fun g hg => h.row.lt g hg
theorem OutI.move {w0 : World} {ts : List Tk} {br g n m : Nat} {v : Value} {w w' : World} {rest rest' : List Tk} {o cap o' cap' : Nat} {acc : List Ts} (h : OutI w0 ts br g n v w rest o cap acc) (hb : br < w0.heap.size)
    (hr : Rd w' br g o' cap' rest') (hk : Kept [br] w w') (he : tasksS rest = tasksS rest') (h1 : Rds rest') (h2 : Small rest') (hl : rest'.length ≤ m) : OutI w0 ts br g m v w' rest' o' cap' acc :=
  ⟨h.own.kept hk (fun g' hg => by have := h.own.block g' hg; simp; omega), hr, h.kept.trans hk, by rw [← he]; exact h.eq, h1, h2, hl⟩
theorem OutI.stop {w0 : World} {ts : List Tk} {br g n : Nat} {v : Value} {w : World} {rest : List Tk} {o cap : Nat} {acc : List Ts} (h : OutI w0 ts br g n v w rest o cap acc) (hb : br < w0.heap.size) {l : List Tk} {w' : World} {o' cap' : Nat} (he : tasksS rest = ([], l))
    (hr : Rd w' br g o' cap' l) (hk : Kept [br] w w') : TasksPost br g ts w0 (.returned v) w' := by
  have e := h.eq
  rw [he] at e
  refine ⟨v, o', cap', rfl, ?_, ?_, h.kept.trans hk⟩
  · rw [e]; simp only [List.append_nil]; exact h.own.kept hk (fun g' hg => by have := h.own.block g' hg; simp; omega)
  · rw [e]; exact hr

theorem kept_grown {X : List Nat} {w w' : World} {row : Option Nat} (hg : w.grownBy w' row) (h : ∀ k, row = some k → k ∈ X) : Kept X w w' :=
  ⟨hg.os, hg.tape, hg.output, hg.size, fun k hk hx => hg.block k hk (fun e => hx (h k e.symm))⟩
theorem mem_own {v : Value} {k : Nat} (h : k ∈ v.ownBlock.toList) : v.ownBlock = some k := by simpa using h
/-- Behind an append to the row of the call's own. -/
theorem OutI.appended {w0 : World} {ts : List Tk} {br g m o cap : Nat} {v v' : Value} {W w8 : World} {ob : Obj} {r : List Tk} {acc : List Ts} {t9 : Ts} (hb : br < w0.heap.size) (hg : g < w0.heap.size) (hI : SetIn w0.heap.size W v acc.length acc) (hw : TsW t9)
    (hR : Rd W br g o cap r) (hk : Kept [br] w0 W) (hown : w8.ownsRow w0.heap.size 29 7 v' (acc.length + 1) (tsCells acc ++ tsL t9)) (hgrow : (W.alloc ob).grownBy w8 v.ownBlock)
    (he : tasksS ts = (acc ++ t9 :: (tasksS r).1, (tasksS r).2)) (h1 : Rds r) (h2 : Small r) (hl : r.length ≤ m) : OutI w0 ts br g m v' w8 r o cap (acc ++ [t9]) := by
  have hbl := hI.block
  have ka : Below W.heap.size W (W.alloc ob) := (Below.refl _ _).alloc (Nat.le_refl _) _
  have kg : Kept v.ownBlock.toList (W.alloc ob) w8 := kept_grown hgrow (fun k e => by simpa using e)
  refine ⟨⟨by simp, fun x hx => ?_, by rw [List.length_append, tsCells_snoc]; exact hown⟩, (hR.later ka).kept kg (fun h => ?_) (fun h => ?_), ?_, by rw [he]; simp, h1, h2, hl⟩
  · rcases List.mem_append.1 hx with hx | hx
    · exact hI.wf x hx
    · obtain rfl := List.mem_singleton.1 hx; exact hw
  · have := hbl br (mem_own h); omega
  · have := hbl g (mem_own h); omega
  · refine (((hk.later ka).mono (Y := br :: v.ownBlock.toList) (by simp)).trans (kg.mono (fun k hk => List.mem_cons_of_mem _ hk))).less (fun k hk => ?_)
    rcases List.mem_cons.1 hk with rfl | hk
    · exact .inl (by simp)
    · exact .inr (hbl k (mem_own hk)).1
/-- What the inner loop holds. -/
structure InI (w0 : World) (r2 : List Tk) (br g bt bx bm n : Nat) (v : Value) (nm : List UInt8) (w : World) (rest : List Tk) (o cap : Nat) (F : Fl) (acc : List Ts) : Prop where
  own : SetIn w0.heap.size w v acc.length acc
  rd : Rd w br g o cap rest
  line : LineSt w bt bx bm nm F
  kept : Kept [br] w0 w
  eq : fieldsS r2 fnone = fieldsS rest F
  rds : Rds rest
  sm : Small rest
  ne : ∃ x r, rest = x :: r
  flw : FlW F
  le : rest.length ≤ n
/-- Where the blocks lie. -/
structure Lie (w0 : World) (br g bt bx bm : Nat) (v : Value) : Prop where
  ap : Apart br g bt bx bm
  t0 : w0.heap.size ≤ bt
  m0 : w0.heap.size ≤ bm
  own : ∀ g', v.ownBlock = some g' → g' < bt ∧ g' ≠ bm ∧ g' ≠ br
theorem InI.move {w0 : World} {r2 : List Tk} {br g bt bx bm n m : Nat} {v : Value} {nm : List UInt8} {w w' : World} {rest rest' : List Tk} {o cap o' cap' : Nat} {F F' : Fl} {acc : List Ts} (h : InI w0 r2 br g bt bx bm n v nm w rest o cap F acc) (hL : Lie w0 br g bt bx bm v)
    (hr : Rd w' br g o' cap' rest') (hl : LineSt w' bt bx bm nm F') (hk : Kept [br, bt, bm] w w') (he : fieldsS rest F = fieldsS rest' F') (h1 : Rds rest') (h2 : Small rest') (hn : ∃ x r, rest' = x :: r) (hF : FlW F') (hle : rest'.length ≤ m) :
    InI w0 r2 br g bt bx bm m v nm w' rest' o' cap' F' acc :=
  ⟨h.own.kept hk (fun g' hg => by have := hL.own g' hg; simp; omega), hr, hl, ((h.kept.mono (Y := [br, bt, bm]) (by simp)).trans hk).less (fun k hk => by
    simp at hk
    rcases hk with rfl | rfl | rfl
    · exact .inl (by simp)
    · exact .inr hL.t0
    · exact .inr hL.m0), h.eq.trans he, h1, h2, hn, hF, hle⟩
theorem InI.stop {w0 : World} {ts r2 : List Tk} {br g bt bx bm n : Nat} {v : Value} {y : Tk} {w : World} {rest : List Tk} {o cap : Nat} {F G : Fl} {acc : List Ts} (h : InI w0 r2 br g bt bx bm n v y.t w rest o cap F acc) (hL : Lie w0 br g bt bx bm v)
    {x : Tk} (hq : tasksS ts = (acc ++ (tasksS (x :: y :: r2)).1, (tasksS (x :: y :: r2)).2)) (h4 : x.k ≠ 4) (ht : x.t = taskW) (hy : y.k = 1) {l : List Tk} {w' : World} {o' cap' : Nat} (he : fieldsS rest F = (false, G, l))
    (hr : Rd w' br g o' cap' l) (hk : Kept [br] w w') : TasksPost br g ts w0 (.returned v) w' := by
  have e := tasksS_bad h4 ht hy (h.eq.trans he)
  rw [e] at hq
  refine ⟨v, o', cap', rfl, ?_, ?_, h.kept.trans hk⟩
  · rw [hq]; simp only [List.append_nil]; exact h.own.kept hk (fun g' hg => by have := hL.own g' hg; simp; omega)
  · rw [hq]; exact hr

set_option maxRecDepth 100000 in
set_option maxHeartbeats 4000000 in
theorem tasks_any {br g o cap : Nat} {ts : List Tk} {w : World} (hR : Rd w br g o cap ts) (hG : Rds ts) (hS : Small ts) (hn : ts.length ≤ 200000) :
    Calls Tryd.prog 29 #[.pointer (some ⟨br, 0, none⟩)] w (TasksPost br g ts w) := by
  obtain ⟨i0, hi, hz0, hz1, hz2⟩ := info_parts infoTs
  have hbr := hR.lt
  have hgw := hR.glt
  have hO : OutI w ts br g ts.length (.slice none 0 0) w ts o cap [] := ⟨SetIn.nil _ _, hR, Kept.refl _ _, by simp, hG, hS, Nat.le_refl _⟩
  have HO := Lib.hid hO
  clear hO hR hG hS
  go_enter Tryd.func29, Tryd.ntmps29
  go_wp2
  go_step3
  go_wp2
  go_step3
  go_wp2
  go_loopg [3] ts.length (fun n s3 wr => ∃ rest o cap acc, OutI w ts br g n s3 wr rest o cap acc)
  case atStart => exact ⟨_, _, _, _, HO.out⟩
  case round =>
    obtain ⟨rest, o1, cap1, acc, hI⟩ := hrel
    cases rest with
    | nil =>
      have c := hI.rd.cell
      simp only [List.length_nil] at c
      have HI := Lib.hid hI
      clear hI
      go_wp2
      rw [Exit.noGoto_ret]
      go_ret
      exact HI.out.stop hbr tasksS_nil HI.out.rd (Kept.refl _ _)
    | cons x r =>
      have c := hI.rd.cell
      have hln : (0 : Int) < ((x :: r).length : Int) := by rw [List.length_cons]; omega
      have HI := Lib.hid hI
      generalize (x :: r).length = m at c hln
      by_cases h4 : x.k = 4
      · have T := Lib.hid (take_yes 4 hI.rd (by omega))
        have H4 := Lib.hid h4
        clear hI h4
        go_wp2_with (go_at_call 35; (with_reducible refine T.out.mono ?_); rintro e W1 ⟨o2, cap2, rfl, hR2, hK2⟩)
        have hb := (Below.refl W1.heap.size W1).alloc (Nat.le_refl _) (.cells (tkC x) 65)
        have hle := HI.out.le
        go_roundg r.length
        case measure => simp at hle; omega
        case rel => exact ⟨_, _, _, _, HI.out.move hbr (hR2.later hb) (hK2.later hb) (tasksS_line H4.out) HI.out.rds.tail HI.out.sm.tail (Nat.le_refl _)⟩
      · have T := Lib.hid (take_no 4 hI.rd (by omega))
        have H4 := Lib.hid h4
        clear hI h4
        go_upto_region 5 with (go_at_call 35; (with_reducible refine T.out.mono ?_); rintro e W1 ⟨rfl, hB1⟩)
        obtain ⟨W2, hW2, B2⟩ : ∃ W2, W1.alloc (.cells #[.int .i64 0, .int .i64 0, .string (bs []), .int .i64 0] 65) = W2 ∧ Below wr.heap.size wr W2 := ⟨_, rfl, hB1.alloc hB1.size _⟩
        rw [hW2]
        have R2 := HI.out.rd.later B2
        have HB2 := Lib.hid B2
        clear hB1 hW2 B2 c hln
        rcases named_cases R2 HI.out.rds H4.out with ⟨l, hq, hl, hC⟩ | ⟨y, r2, hr, ht, hy, hC⟩
        · have HC := Lib.hid hC
          have HQ := Lib.hid hq
          clear hC hq hl R2
          go_wp2_with (go_at_call 36; (with_reducible refine HC.out.mono ?_); rintro e W3 ⟨o3, cap3, rfl, hR3, hK3⟩)
          rw [Exit.noGoto_ret]
          go_ret
          exact HI.out.stop hbr HQ.out hR3 ((Kept.of _ HB2.out).trans hK3)
        · subst hr
          have HC := Lib.hid hC
          have HT := Lib.hid ht
          have HY := Lib.hid hy
          clear hC ht hy R2
          go_upto_region 7 with (go_at_call 36; (with_reducible refine HC.out.mono ?_); rintro e W3 ⟨o3, cap3, rfl, hR3, hK3⟩)
          go_upto_region 8 with (fail)
          have hk3 := Lib.hid ((Kept.of [br] HB2.out).trans hK3)
          have hbw : wr.heap.size ≤ W3.heap.size := hk3.out.size
          obtain ⟨W4, hW4, T4, R4, B4, S4⟩ : ∃ W4, W3.alloc (.cells #[.string (bs y.t), .int .i64 0, .int .i64 0, .int .i64 0, .int .i64 0, .int .i64 0, .int .i64 0] 29) = W4 ∧ W4.heap[W3.heap.size]? = some (.cells (tsL (partT y.t fnone)).toArray 29 (0, 0)) ∧ Rd W4 br g o3 cap3 r2 ∧ Below W3.heap.size W3 W4 ∧ W4.heap.size = W3.heap.size + 1 :=
            ⟨_, rfl, heap_alloc_new W3 _, hR3.later ((Below.refl _ _).alloc (Nat.le_refl _) _), (Below.refl _ _).alloc (Nat.le_refl _) _, by simp⟩
          rw [hW4]
          clear hW4 hR3 hK3
          obtain ⟨bt, hbt⟩ : ∃ bt, W3.heap.size = bt := ⟨_, rfl⟩
          rw [hbt] at T4 B4 S4 hbw ⊢
          have FA := Lib.hid (fields_any bt W4)
          go_wp2_with (go_at_call 37; (with_reducible refine FA.out.mono ?_); rintro e W5 ⟨rfl, hM5, hX5, hB5⟩)
          have hs5 := hB5.size
          rw [S4] at hM5 hX5 hs5
          have hszw := HI.out.kept.size
          have hK5 := Lib.hid ((hk3.out.later (show Below W3.heap.size W3 W4 by rw [hbt]; exact B4)).later hB5)
          have hblk := HI.out.own.block
          have hLie := Lib.hid (show Lie w br g bt (bt + 1) (bt + 1 + 1) u3 from ⟨⟨by omega, by omega, by omega, by omega, by omega, by omega, by omega, by omega, by omega, HI.out.rd.ne⟩, by omega, by omega, fun g' hg => by have := hblk g' hg; omega⟩)
          have hne : ∃ a b, r2 = a :: b := HI.out.rds.tail.next (by have := HY.out; omega)
          have hIn := Lib.hid (show InI w r2 br g bt (bt + 1) (bt + 1 + 1) r2.length u3 y.t W5 r2 o3 cap3 fnone acc from
            ⟨HI.out.own.kept hK5.out (fun g' hg => by have := hblk g' hg; simp; omega), R4.later hB5, ⟨(hB5.block bt (by rw [S4]; omega)).trans T4, hX5, hM5⟩, HI.out.kept.trans hK5.out, rfl, HI.out.rds.tail.tail, HI.out.sm.tail.tail, hne, flw_none, Nat.le_refl _⟩)
          clear hM5 hX5 hB5 hs5 hszw hblk T4 R4 B4 S4 FA hne hbt hbw hK5 hk3
          generalize hbx : bt + 1 = bx at hLie hIn ⊢
          generalize hbm : bx + 1 = bm at hLie hIn ⊢
          clear hbx hbm
          go_loopg [35] r2.length (fun n2 s35 wr2 => ∃ rest o cap F, InI w r2 br g bt bx bm n2 u3 y.t wr2 rest o cap F acc)
          case atStart => exact ⟨_, _, _, _, hIn.out⟩
          case round =>
            clear hIn
            obtain ⟨rest2, o4, cap4, F, hJ⟩ := hrel
            obtain ⟨x2, q2, rfl⟩ := hJ.ne
            have HJ := Lib.hid hJ
            by_cases hE : x2.k = 4 ∧ full F = true
            · have EL := Lib.hid (ended_line hJ.rd hJ.line.map hE.2 hE.1)
              have HE := Lib.hid hE
              clear hJ hE
              go_upto_region 11 with (go_at_call 38; (with_reducible refine EL.out.mono ?_); rintro e W6 ⟨o5, cap5, rfl, hR6, hK6⟩)
              have L6 := HJ.out.line.kept hK6 (by simp; exact hLie.out.ap.a1.symm) (by simp; exact hLie.out.ap.a2.symm) (by simp; exact hLie.out.ap.a3.symm)
              have FI := Lib.hid (fill_any L6 hLie.out.ap.a8)
              have HR6 := Lib.hid hR6
              have HK6 := Lib.hid hK6
              clear hR6 hK6 L6
              have hwf := taskOf_wf (HI.out.sm y (by simp)).1 HJ.out.flw
              have hok := tasksS_ok H4.out HT.out HY.out (HJ.out.eq.trans (fieldsS_end HE.out.1 HE.out.2))
              generalize taskOf y.t F = t9 at FI hwf hok
              have HOK := Lib.hid hok
              clear hok
              go_upto_region 12 with (go_at_call 40; (with_reducible refine FI.out.mono ?_); rintro e W7 ⟨rfl, hT7, hK7⟩)
              have hc7 : ∀ i, W7.cell? ⟨bt, i, none⟩ = (tsL t9)[i]? := fun i => by rw [cell_of_row W7 bt i _ _ _ hT7]; simp
              have c0 := hc7 0
              have c1 := hc7 1
              have c2 := hc7 2
              have c3 := hc7 3
              have c4 := hc7 4
              have c5 := hc7 5
              have c6 := hc7 6
              simp only [tsL, List.getElem?_cons_succ, List.getElem?_cons_zero] at c0 c1 c2 c3 c4 c5 c6
              have k7 : Kept [br, bt] wr W7 := (HK6.out.mono (by simp)).trans (hK7.mono (by simp))
              have own7 := HJ.out.own.kept k7 (fun g' hg => by have := hLie.out.own g' hg; simp; omega)
              have R7 := HR6.out.kept hK7 (by simp; exact hLie.out.ap.a1) (by simp; exact hLie.out.ap.a4)
              have kw := (((HJ.out.kept.mono (Y := [br, bt]) (by simp)).trans k7).less (Y := [br]) (fun k hk => by
                simp at hk
                rcases hk with rfl | rfl
                · exact .inl (by simp)
                · exact .inr hLie.out.t0))
              have hcnt : acc.length ≤ 200000 := by
                have h1 := tasks_count ts.length ts (Nat.le_refl _)
                rw [HI.out.eq] at h1
                simp at h1
                omega
              have hbase : w.heap.size ≤ W7.heap.size := kw.size
              have H7 := Lib.hid (seven_new W7 t9)
              have OWN := Lib.hid own7
              have HR7 := Lib.hid R7
              have HKW := Lib.hid kw
              clear hc7 hT7 hK7 k7 own7 R7 kw
              go_wp2_with (at_builtin; refine wpList_append_own _ rfl _ _ 22 rfl w.heap.size 29 i0 _ 7 64 Tryd.underlying22 hi hz0 hz1 hz2 rfl (by decide) _ _ _ rfl (OWN.out.row.alloc _) ⟨W7.heap.size, 0, none⟩ 1 1 (tsL t9) rfl rfl H7.out (tsL_one _) (by unfold maxLen; omega) (by omega) (by simp; omega) ?_; intro v' w8 hown' hgrow hnil')
              have hq2 : q2.length < (x :: y :: r2).length := by
                have h1 := fieldsS_len r2.length r2 fnone (Nat.le_refl _)
                rw [HJ.out.eq.trans (fieldsS_end HE.out.1 HE.out.2)] at h1
                simp at h1 ⊢
                omega
              have hle := HI.out.le
              go_roundg q2.length
              case measure => omega
              case rel => exact ⟨_, _, _, _, OutI.appended hbr hgw OWN.out hwf HR7.out HKW.out hown' hgrow (by rw [HI.out.eq, HOK.out]) HJ.out.rds.tail HJ.out.sm.tail (Nat.le_refl _)⟩
            · have EN := Lib.hid (ended_not hJ.rd hJ.line.map hE)
              have HE := Lib.hid hE
              clear hJ hE
              go_upto_region 10 with (go_at_call 38; (with_reducible refine EN.out.mono ?_); rintro e W6 ⟨rfl, hB6⟩)
              have R6 := HJ.out.rd.later hB6
              have L6 := HJ.out.line.later hB6
              have HB6 := Lib.hid hB6
              rcases field_cases hLie.out.ap R6 L6 HJ.out.rds HE.out with ⟨l, hq, hl, hC⟩ | ⟨k, y2, z2, r3, hr, hz, hq, hC⟩
              · have HC := Lib.hid hC
                have HQ := Lib.hid hq
                clear hC hq hl R6 L6 hB6
                go_wp2_with (go_at_call 39; (with_reducible refine HC.out.mono ?_); rintro e W7 ⟨o5, cap5, rfl, hR7, hK7⟩)
                rw [Exit.noGoto_ret]
                go_ret
                exact HJ.out.stop hLie.out HI.out.eq H4.out HT.out HY.out HQ.out hR7 ((Kept.of _ HB6.out).trans hK7)
              · subst hr
                have HC := Lib.hid hC
                have HQ := Lib.hid hq
                have HZ := Lib.hid hz
                clear hC hq hz R6 L6 hB6
                go_wp2_with (go_at_call 39; (with_reducible refine HC.out.mono ?_); rintro e W7 ⟨o5, cap5, rfl, hR7, hL7, hK7⟩)
                have hle := HJ.out.le
                go_roundg r3.length
                case measure => simp at hle; omega
                case rel => exact ⟨_, _, _, _, HJ.out.move hLie.out hR7 hL7 ((Kept.of _ HB6.out).trans hK7) HQ.out HJ.out.rds.tail.tail.tail HJ.out.sm.tail.tail.tail (HJ.out.rds.tail.tail.next (by have := HZ.out; omega)) (HJ.out.flw.set (HJ.out.sm z2 (by simp)).2) (Nat.le_refl _)⟩
end Go.Proofs.YtlelnoalajeihaaDoor
