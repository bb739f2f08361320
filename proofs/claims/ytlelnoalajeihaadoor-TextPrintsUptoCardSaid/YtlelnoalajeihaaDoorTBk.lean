/- What is printed of a set that may be is parsed to it: the walks of TextBack and TextAgain. -/
import Derived.Test.YtlelnoalajeihaaDoorTPrt
import Derived.Test.YtlelnoalajeihaaDoorTidy
import Derived.Test.YtlelnoalajeihaaDoorSet
import Derived.Test.YtlelnoalajeihaaDoorSpoilt
import Derived.Test.YtlelnoalajeihaaDoorAwake
namespace Go.Proofs.YtlelnoalajeihaaDoor
open Go.RowKit
set_option linter.unusedVariables false
set_option linter.unusedSimpArgs false
attribute [local go_sem ↓] Go.wp_at_zero Go.wp_at_succ

/-- The table of powers of ten stands. -/
abbrev TI (w : World) : Prop := Lib.TabIs Tryd.prog w "internal/strconv.uint64pow10" .u64 Lib.pow10Tab
theorem ti_later {w w' : World} (h : TI w) (hb : Below w.heap.size w w') : TI w' := ((Lib.tabBelow_of_tabIs h).on hb).here

/-! ### How long a text of what was read can be -/
def cntB (o : Option Nat) : Nat := if o.isSome = true then 1 else 0
def cntF (F : Fl) : Nat := cntB (F 0) + cntB (F 1) + cntB (F 2) + cntB (F 3) + cntB (F 4) + cntB (F 5)
theorem cnt_set {F : Fl} {k n : Nat} (hk : k < 6) (h : (F k).isSome = false) : cntF (fset F k n) = cntF F + 1 := by
  have e : cntB (F k) = 0 := by simp [cntB, h]
  have hs : ∀ i, cntB (fset F k n i) = if i = k then 1 else cntB (F i) := by
    intro i
    unfold fset
    split <;> simp [cntB]
  unfold cntF
  simp only [hs]
  rcases (by omega : k = 0 ∨ k = 1 ∨ k = 2 ∨ k = 3 ∨ k = 4 ∨ k = 5) with rfl | rfl | rfl | rfl | rfl | rfl <;> (simp; omega)
theorem full_cnt {F : Fl} (h : full F = true) : 3 ≤ cntF F := by
  simp only [full, Bool.and_eq_true] at h
  obtain ⟨h0, h1, h5⟩ := h
  have e0 : cntB (F 0) = 1 := by simp [cntB, h0]
  have e1 : cntB (F 1) = 1 := by simp [cntB, h1]
  have e5 : cntB (F 5) = 1 := by simp [cntB, h5]
  unfold cntF
  omega
theorem fields_cnt : ∀ (n : Nat) (l : List Tk) (F F' : Fl) (r : List Tk), l.length ≤ n → fieldsS l F = (true, F', r) → r.length + 1 + 3 * cntF F' ≤ l.length + 3 * cntF F ∧ full F' = true := by
  intro n
  induction n with
  | zero => intro l F F' r h he; have : l = [] := List.eq_nil_of_length_eq_zero (by omega); subst this; simp [fieldsS] at he
  | succ n ih =>
    intro l F F' r h he
    cases l with
    | nil => simp [fieldsS] at he
    | cons x l =>
      by_cases h4 : x.k = 4
      · cases hf : full F
        · rw [fieldsS_early h4 hf] at he
          simp at he
        · rw [fieldsS_end h4 hf] at he
          simp only [Prod.mk.injEq, true_and] at he
          obtain ⟨rfl, rfl⟩ := he
          exact ⟨by simp, hf⟩
      · cases hx : fieldIx x.t with
        | none => rw [fieldsS_not h4 hx] at he; simp at he
        | some k =>
          cases hk : (F k).isSome
          · cases l with
            | nil => rw [fieldsS.eq_def] at he; simp [h4, hx, hk] at he
            | cons y l =>
              by_cases hy : y.k = 3
              · cases l with
                | nil => rw [fieldsS.eq_def] at he; simp [h4, hx, hk, hy] at he
                | cons z l =>
                  by_cases hz : z.k = 2
                  · rw [fieldsS_go h4 hx hk hy hz] at he
                    have := ih l (fset F k z.n) F' r (by simp at h; omega) he
                    rw [cnt_set (fieldIx_some hx).1 hk] at this
                    refine ⟨?_, this.2⟩
                    simp only [List.length_cons]
                    omega
                  · rw [fieldsS_num h4 hx hk hy hz] at he; simp at he
              · rw [fieldsS_eq h4 hx hk hy] at he; simp at he
          · rw [fieldsS_twice h4 hx hk] at he; simp at he
theorem tasks_cnt : ∀ (n : Nat) (l : List Tk), l.length ≤ n → 12 * (tasksS l).1.length ≤ l.length := by
  intro n
  induction n with
  | zero => intro l h; have : l = [] := List.eq_nil_of_length_eq_zero (by omega); subst this; simp [tasksS_nil]
  | succ n ih =>
    intro l h
    cases l with
    | nil => simp [tasksS_nil]
    | cons x l =>
      by_cases h4 : x.k = 4
      · rw [tasksS_line h4]
        have := ih l (by simp at h; omega)
        simp only [List.length_cons]; omega
      · by_cases ht : x.t = taskW
        · cases l with
          | nil => rw [tasksS.eq_def]; simp [h4, ht]
          | cons y l =>
            by_cases hy : y.k = 1
            · obtain ⟨b, F, r, hf⟩ : ∃ b F r, fieldsS l fnone = (b, F, r) := ⟨_, _, _, rfl⟩
              cases b
              · rw [tasksS_bad h4 ht hy hf]; simp
              · rw [tasksS_ok h4 ht hy hf]
                have hc := fields_cnt l.length l fnone F r (Nat.le_refl _) hf
                have h3 := full_cnt hc.2
                have h0 : cntF fnone = 0 := rfl
                have := ih r (by simp at h; omega)
                simp only [List.length_cons]
                omega
            · rw [tasksS_name h4 ht hy]; simp
        · rw [tasksS_word h4 ht]; simp
theorem parse_len (s : ByteArray) : 12 * (parseS s).1.length ≤ s.size + 1 := by
  have hr : 12 * (readS s).1.length ≤ s.size + 1 := by
    cases hb : badP s with
    | some x => rw [readS_bad hb]; simp
    | none =>
      have h1 := tasks_cnt _ (lexT s ++ [endTk s.size]) (Nat.le_refl _)
      have h2 : (lexT s).length ≤ s.size := by
        rw [lexT_none hb]
        have := pcs_length _ 0 s.data.toList (Nat.le_refl _)
        rw [← Lib.size_eq] at this
        exact this
      simp only [List.length_append, List.length_cons, List.length_nil] at h1
      obtain ⟨l, r, ha⟩ : ∃ l r, allS s = (l, r) := ⟨_, _, rfl⟩
      have ha1 : (tasksS (lexT s ++ [endTk s.size])).1 = l := congrArg Prod.fst ha
      rw [ha1] at h1
      cases r with
      | nil => rw [readS_ok hb ha]; simp only; omega
      | cons x r => rw [readS_no hb ha]; simp
  unfold parseS
  split
  · split
    · exact hr
    · simp
  · simp
theorem parse_no {s : ByteArray} (h : (parseS s).2.2 ≠ 0) : (parseS s).1 = [] := by
  unfold parseS at h ⊢
  split
  · rename_i h1
    rw [if_pos h1] at h
    split
    · rename_i h2
      rw [if_pos h2] at h
      exact absurd rfl h
    · rfl
  · rfl
/-- A text of tasks that may be. -/
theorem print_len {l : List Ts} (hw : ∀ x ∈ l, TsW x) (h : (chkAll l).2 = 0) : (printS l).size ≤ l.length * 232 ∧ Longs l := by
  have hall := (all_ok h).1
  have h32 : ∀ x ∈ l, x.n.size ≤ 32 := fun x hx => (tidy_of (hall x hx)).2
  have key : ∀ k, k ≤ l.length → (printS (l.take k)).size ≤ k * 232 := by
    intro k
    induction k with
    | zero => intro _; rw [List.take_zero, printS]; exact Nat.zero_le _
    | succ k ih =>
      intro hk
      obtain ⟨x, hx⟩ : ∃ x, l[k]? = some x := ⟨l[k], List.getElem?_eq_getElem (by omega)⟩
      have hm := List.mem_of_getElem? hx
      have h1 := lineS_size2 (hw x hm)
      have h2 := h32 x hm
      have := ih (by omega)
      rw [printS_take hx, ByteArray.size_append]
      omega
  refine ⟨?_, fun x hx => ⟨hw x hx, by have := h32 x hx; omega⟩⟩
  have := key l.length (Nat.le_refl _)
  rwa [List.take_length] at this

set_option maxRecDepth 100000 in
set_option maxHeartbeats 4000000 in
theorem back_ok (A : Option Addr) (cap : Nat) (l : List Ts) (w : World) (hR : Row w A cap l) (hT : TI w) (hl : l.length ≤ 100) (hc : chkAll l = (l.length, 0)) : Calls Tryd.prog 13 #[.slice A l.length cap] w (OkB w) := by
  have hok : (chkAll l).2 = 0 := by rw [hc]
  obtain ⟨hz, hS⟩ := print_len hR.wf hok
  have hp := parse_back hok (s := printS l) rfl
  have RC := rcheckAll_any A cap l w hR
  rw [hc] at RC
  have PR := Lib.hid (fun W (hB : Below w.heap.size w W) => print_any A cap l W (hR.later hB) hS (by omega) (ti_later hT hB))
  have PA := fun W => parse_any (printS l) W (by omega)
  unfold ParsePost at PA
  rw [hp] at PA
  have SM := Lib.hid (fun A2 c2 W (hB : Below w.heap.size w W) (h2 : Row W A2 c2 l) => rsame_any h2 (hR.later hB))
  have RC := Lib.hid RC
  have PA := Lib.hid PA
  have ROW := Lib.hid hR
  have hle := hR.le
  have hmx := hR.mx
  clear hok hc hp hR hS hz hT
  go_enter Tryd.func13, Tryd.ntmps13
  go_wp2_with (first
    | (go_at_call 26; (with_reducible refine RC.out.mono ?_); rintro e W1 ⟨rfl, hB1⟩; have B2 : Below w.heap.size w (W1.alloc (.cells #[.int .i64 (l.length : Int), .int .i64 0] 59)) := (hB1.alloc hB1.size _); have HB2 := Lib.hid B2; clear B2 hB1)
    | (go_at_call 9; (with_reducible refine (PR.out _ HB2.out).mono ?_); rintro e W3 ⟨rfl, hB3⟩; have HB3 := Lib.hid (HB2.out.trans (hB3.mono HB2.out.size)); clear hB3)
    | (go_at_call 19; (with_reducible refine (PA.out _).mono ?_); rintro e W4 ⟨A2, c2, rfl, hR2, hB4⟩; have HR2 := Lib.hid hR2; have HB4 := Lib.hid (HB3.out.trans (hB4.mono HB3.out.size)); clear hB4 hR2)
    | (go_at_call 18; (with_reducible refine (SM.out _ _ _ HB4.out HR2.out).mono ?_); rintro e W5 ⟨rfl, hB5⟩; have HB5 := Lib.hid (HB4.out.trans (hB5.mono HB4.out.size)); clear hB5))
  go_ret
  exact ⟨rfl, HB5.out⟩
set_option maxRecDepth 100000 in
set_option maxHeartbeats 4000000 in
theorem back_no (A : Option Addr) (cap : Nat) (l : List Ts) (w : World) (hR : Row w A cap l) (n : Nat) (z : Int) (hc : chkAll l = (n, z)) (h : z ≠ 0) : Calls Tryd.prog 13 #[.slice A l.length cap] w (OkB w) := by
  have RC := rcheckAll_any A cap l w hR
  rw [hc] at RC
  have RC := Lib.hid RC
  have ht : (z != 0) = true := by simp; exact h
  have hle := hR.le
  have hmx := hR.mx
  clear hc hR
  go_enter Tryd.func13, Tryd.ntmps13
  go_wp2_with (go_at_call 26; (with_reducible refine RC.out.mono ?_); rintro e W1 ⟨rfl, hB1⟩; have HB1 := Lib.hid hB1; clear hB1)
  go_ret
  exact ⟨rfl, HB1.out.alloc HB1.out.size _⟩
theorem back_any (A : Option Addr) (cap : Nat) (l : List Ts) (w : World) (hR : Row w A cap l) (hT : TI w) (hl : l.length ≤ 100) : Calls Tryd.prog 13 #[.slice A l.length cap] w (OkB w) := by
  obtain ⟨n, z, hc⟩ : ∃ n z, chkAll l = (n, z) := ⟨_, _, rfl⟩
  by_cases h : z = 0
  · subst h
    have := (all_ok (l := l) (by rw [hc])).2
    rw [hc] at this
    simp only at this
    subst this
    exact back_ok A cap l w hR hT hl hc
  · exact back_no A cap l w hR n z hc h
end Go.Proofs.YtlelnoalajeihaaDoor
