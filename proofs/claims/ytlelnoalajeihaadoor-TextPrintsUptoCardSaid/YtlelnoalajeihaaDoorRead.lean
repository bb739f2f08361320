/- Read: what it tells, and its walk. -/
import Derived.Test.YtlelnoalajeihaaDoorTasks
import Derived.Test.YtlelnoalajeihaaDoorWd
namespace Go.Proofs.YtlelnoalajeihaaDoor
open Go.RowKit
set_option linter.unusedVariables false
set_option linter.unusedSimpArgs false

/-- The tasks of all lines of a text whose tokens all are right, and what is left. -/
def allS (s : ByteArray) : List Ts × List Tk := tasksS (lexT s ++ [endTk s.size])
/-- What Read tells: tasks, a place, an error. -/
def readS (s : ByteArray) : List Ts × Nat × Nat := match badP s with
  | some x => ([], x.at', 10)
  | none => match (allS s).2 with
    | [] => ((allS s).1, s.size, 0)
    | x :: _ => ([], x.at', 10)
theorem readS_bad {s : ByteArray} {x : Tk} (h : badP s = some x) : readS s = ([], x.at', 10) := by rw [readS, h]
theorem readS_ok {s : ByteArray} {l : List Ts} (h : badP s = none) (ha : allS s = (l, [])) : readS s = (l, s.size, 0) := by rw [readS, h]; simp only [ha]
theorem readS_no {s : ByteArray} {l : List Ts} {x : Tk} {r : List Tk} (h : badP s = none) (ha : allS s = (l, x :: r)) : readS s = ([], x.at', 10) := by rw [readS, h]; simp only [ha]
theorem lexT_none {s : ByteArray} (h : badP s = none) : lexT s = pieceL s := by rw [lexT, h]
theorem piece_good {s : ByteArray} (h : badP s = none) {x : Tk} (hx : x ∈ pieceL s) : Wd x ∧ x.t.length ≤ s.size := by
  have hk : x.k ≠ 0 := by
    rw [badP, List.find?_eq_none] at h
    simpa using h x hx
  have := pcs_wd _ 0 s.data.toList (Nat.le_refl _) x hx hk
  rwa [← Lib.size_eq] at this
theorem wd_good {x : Tk} (h : Wd x) : Good x := by
  obtain ⟨c, r, ht, hk, hk0, _, _⟩ := h
  by_cases h1 : x.k = 1
  · exact .inl h1
  · refine .inr fun c' r' e => ?_
    rw [ht] at e
    cases e
    cases hl : ltr c with
    | false => rfl
    | true => rw [kind, if_pos hl] at hk; exact absurd hk.symm h1
theorem wd_num {x : Tk} (h : Wd x) : x.n ≤ 1099511627776 := by
  obtain ⟨c, r, ht, hk, hk0, _, hn⟩ := h
  rw [hn]
  split
  · exact numOf_le _
  · omega
theorem all_rds {s : ByteArray} (h : badP s = none) : Rds (lexT s ++ [endTk s.size]) := by
  rw [lexT_none h]
  refine ⟨fun x hx => ?_, .inr ⟨pieceL s, endTk s.size, rfl, rfl⟩⟩
  rcases List.mem_append.1 hx with hx | hx
  · exact wd_good (piece_good h hx).1
  · obtain rfl := List.mem_singleton.1 hx
    exact .inr fun c r e => by cases e
theorem all_small {s : ByteArray} (h : badP s = none) (hs : s.size ≤ 100000) : Small (lexT s ++ [endTk s.size]) := by
  rw [lexT_none h]
  intro x hx
  rcases List.mem_append.1 hx with hx | hx
  · have := piece_good h hx
    exact ⟨by omega, wd_num this.1⟩
  · obtain rfl := List.mem_singleton.1 hx
    exact ⟨by simp [endTk], by simp [endTk]⟩
theorem lexT_len (s : ByteArray) : (lexT s).length ≤ s.size := by
  unfold lexT
  split
  · simp
  · have := pcs_length _ 0 s.data.toList (Nat.le_refl _)
    rwa [← Lib.size_eq] at this
theorem SetIn.row2 {B k : Nat} {w : World} {v : Value} {ts : List Ts} (h : SetIn B w v k ts) : ∃ A cap, v = .slice A ts.length cap ∧ Row w A cap ts := by
  rcases Nat.eq_zero_or_pos k with h0 | h0
  · have hl := h.len
    subst h0
    obtain rfl : ts = [] := List.eq_nil_of_length_eq_zero hl
    rcases h.row.2 with ⟨hv, _⟩ | ⟨g, cap, cur, hv, _, _, _, hm, _, _⟩
    · exact ⟨none, 0, hv, Row.nil _ _ (by omega)⟩
    · exact ⟨_, cap, hv, Row.nil _ _ (by unfold maxLen at hm; exact hm)⟩
  · obtain ⟨g, cap, hv, hO⟩ := h.own h0
    exact ⟨_, cap, by rw [hv, h.len], hO.row⟩
/-- A reader over a new row. -/
theorem rd_new {W w : World} {g cap : Nat} {ts : List Tk} (h : W.ownsRow w.heap.size 65 4 (.slice (some ⟨g, 0, none⟩) ts.length cap) ts.length (tkCells ts)) :
    Rd (W.alloc (.cells #[.slice (some ⟨g, 0, none⟩) ts.length cap] 67)) W.heap.size g 0 cap ts := by
  have hc := h.cells (g := g) rfl
  rcases h.2 with ⟨hv, h0⟩ | ⟨g', cap', cur, hv, _, hgb, hle, hmax, _, _⟩
  · cases hv
  · cases hv
    have hg := (Array.getElem?_eq_some_iff.1 hgb).1
    refine ⟨heap_alloc_new W _, hle, by unfold maxLen at hmax; exact hmax, by omega, by simp; omega, fun i x hx => ⟨fun j v hv => ?_⟩⟩
    have e : ∀ n u, (tkCells ts)[n]? = some u → (W.alloc (.cells #[.slice (some ⟨g, 0, none⟩) ts.length cap] 67)).cell? ⟨g, n, none⟩ = some u := fun n u hu => by
      have := hc _ _ hu
      rw [addr_add] at this
      rw [World.cell?_alloc_lt _ _ _ (by exact hg)]
      exact this
    have q := tkCells_get ts i x hx
    have hj : j < 4 := by
      rcases Nat.lt_or_ge j 4 with h | h
      · exact h
      · rw [List.getElem?_eq_none (by simp [tkL]; omega)] at hv; cases hv
    rw [Nat.zero_add, Nat.mul_comm i 4]
    rcases (by omega : j = 0 ∨ j = 1 ∨ j = 2 ∨ j = 3) with rfl | rfl | rfl | rfl
    · cases hv; exact e _ _ q.1
    · cases hv; exact e _ _ q.2.1
    · cases hv; exact e _ _ q.2.2.1
    · cases hv; exact e _ _ q.2.2.2
def ReadPost (s : ByteArray) (w : World) (e : Ending) (w' : World) : Prop := ∃ A cap, e = .returned (.tuple #[.slice A (readS s).1.length cap, .int .i64 ((readS s).2.1 : Int), .int .i64 ((readS s).2.2 : Int)]) ∧ Row w' A cap (readS s).1 ∧ Below w.heap.size w w'

set_option maxRecDepth 100000 in
set_option maxHeartbeats 4000000 in
theorem read_any (s : ByteArray) (w : World) (hs : s.size ≤ 100000) : Calls Tryd.prog 17 #[.string s] w (ReadPost s w) := by
  have L := Lib.hid (lex_any s w hs)
  cases hb : badP s with
  | some x =>
    have he : endP s = x.at' := by rw [endP, hb]
    have hr : errP s = 10 := by rw [errP, hb]
    rw [he, hr] at L
    have HR := Lib.hid (readS_bad hb)
    clear hb he hr
    go_enter Tryd.func17, Tryd.ntmps17
    go_wp2_with (go_at_call 28; (with_reducible refine L.out.mono ?_); rintro e W1 ⟨v, rfl, hv, hB⟩)
    go_ret3
    exact ⟨none, 0, by rw [HR.out]; rfl, by rw [HR.out]; exact Row.nil _ _ (by omega), hB⟩
  | none =>
    have he : endP s = s.size := by rw [endP, hb]
    have hr : errP s = 0 := by rw [errP, hb]
    rw [he, hr] at L
    obtain ⟨i0, hi, hz0, hz1, hz2⟩ := info_parts infoTok
    have hlen := lexT_len s
    have HRD := Lib.hid (all_rds hb)
    have HSM := Lib.hid (all_small hb hs)
    have HNO := Lib.hid hb
    have HA : Hid (allS s = tasksS (lexT s ++ [endTk s.size])) := Lib.hid rfl
    clear hb he hr
    generalize lexT s = ts at *
    go_enter Tryd.func17, Tryd.ntmps17
    go_upto_region 4 with (go_at_call 28; (with_reducible refine L.out.mono ?_); rintro e W1 ⟨v, rfl, hv, hB⟩)
    have hbase : w.heap.size ≤ W1.heap.size := hB.size
    have H4 := Lib.hid (four_new W1 (endTk s.size))
    have HB := Lib.hid hB
    clear hB
    go_upto_region 5 with (at_builtin; refine wpList_append_own _ rfl _ _ 61 rfl w.heap.size 65 i0 _ 4 40 Tryd.underlying61 hi hz0 hz1 hz2 rfl (by decide) _ _ _ rfl (hv.alloc _) ⟨W1.heap.size, 0, none⟩ 1 1 [.int .i64 ((endTk s.size).k : Int), .int .i64 ((endTk s.size).at' : Int), .string (bs (endTk s.size).t), .int .i64 ((endTk s.size).n : Int)] rfl rfl H4.out (by simp [Value.oneCell']) (by unfold maxLen; omega) (by omega) (by simp; omega) ?_; intro v' w2 hown' hgrow hnil'; obtain ⟨g', cap', rfl⟩ := ownsRow_succ hown')
    have hown2 : w2.ownsRow w.heap.size 65 4 (.slice (some ⟨g', 0, none⟩) (ts ++ [endTk s.size]).length cap') (ts ++ [endTk s.size]).length (tkCells (ts ++ [endTk s.size])) := by
      rw [tkCells_snoc, List.length_append]
      exact hown'
    have hb2 : Below w.heap.size w w2 := (HB.out.alloc hbase _).grown hgrow (by simp; omega) (fun k hk => (hv.lt k hk).1)
    obtain ⟨W3, hW3, R3, B3⟩ : ∃ W3, w2.alloc (.cells #[.slice (some ⟨g', 0, none⟩) (ts.length + 1) cap'] 67) = W3 ∧ Rd W3 w2.heap.size g' 0 cap' (ts ++ [endTk s.size]) ∧ Below w.heap.size w W3 :=
      ⟨_, rfl, by have := rd_new hown2; rwa [List.length_append] at this, hb2.alloc hb2.size _⟩
    rw [hW3]
    have hbr0 : w.heap.size ≤ w2.heap.size := hb2.size
    have T := Lib.hid (tasks_any R3 HRD.out HSM.out (by simp; omega))
    have HB3 := Lib.hid B3
    clear hW3 R3 B3 hb2 hown2 hown' hgrow hnil' hv HB H4 L
    generalize w2.heap.size = br at *
    rcases hall : tasksS (ts ++ [endTk s.size]) with ⟨l, rest⟩
    have HALL := Lib.hid (HA.out.trans hall)
    unfold TasksPost at T
    rw [hall] at T
    clear hall HA
    cases rest with
    | nil =>
      have HR := Lib.hid (readS_ok HNO.out HALL.out)
      go_upto_region 6 with (go_at_call 29; (with_reducible refine T.out.mono ?_); rintro e W4 ⟨v9, o4, cap4, rfl, hS, hR4, hK4⟩)
      have c := hR4.cell
      simp only [List.length_nil] at c
      obtain ⟨A, cap, hv9, hrow⟩ := hS.row2
      have HROW := Lib.hid hrow
      have HK := Lib.hid (HB3.out.trans (hK4.below (B := w.heap.size) HB3.out.size (by simp; exact hbr0)))
      subst hv9
      clear hS hR4 hK4 hrow
      go_wp2
      go_ret3
      exact ⟨A, cap, by rw [HR.out]; rfl, by rw [HR.out]; exact HROW.out, HK.out⟩
    | cons x r =>
      have HR := Lib.hid (readS_no HNO.out HALL.out)
      go_upto_region 6 with (go_at_call 29; (with_reducible refine T.out.mono ?_); rintro e W4 ⟨v9, o4, cap4, rfl, hS, hR4, hK4⟩)
      have c := hR4.cell
      have a1 := hR4.head.c1
      have hln : (0 : Int) < ((x :: r).length : Int) := by rw [List.length_cons]; omega
      generalize (x :: r).length = m at c hln
      have HK := Lib.hid (HB3.out.trans (hK4.below (B := w.heap.size) HB3.out.size (by simp; exact hbr0)))
      clear hS hR4 hK4
      go_wp2
      go_quiet (fail)
      go_wp2
      go_ret3
      exact ⟨none, 0, by rw [HR.out]; rfl, by rw [HR.out]; exact Row.nil _ _ (by omega), below_drewN HK.out _⟩
end Go.Proofs.YtlelnoalajeihaaDoor
