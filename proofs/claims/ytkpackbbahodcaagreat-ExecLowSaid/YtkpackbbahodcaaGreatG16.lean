/- Texts about the program, one after the other: ELow. -/
import Derived.Test.YtkpackbbahodcaaGreatG10
/- The least urgent task's jobs, left out. -/
namespace Go.Proofs.YtkpackbbahodcaaGreat
set_option linter.unusedVariables false
set_option linter.unusedSimpArgs false
/-- Places of all other tasks' jobs. -/
def othL (js : List Fv) (low : Int) : List Nat := (List.range js.length).filter fun i => decide ((jb js i).t ≠ low)
def lesJ (js : List Fv) (low : Int) : List Fv := js.filter fun j => decide (j.t ≠ low)
section
variable {ts : List Ts} {js : List Fv} {low : Int}
theorem oth_snoc (js : List Fv) (x : Fv) (low : Int) : othL (js ++ [x]) low = othL js low ++ (if x.t ≠ low then [js.length] else []) := by
  unfold othL
  rw [List.length_append, List.length_singleton, List.range_succ, List.filter_append]
  congr 1
  · refine List.filter_congr fun i hi => ?_
    have hi := List.mem_range.1 hi
    have : jb (js ++ [x]) i = jb js i := by
      unfold jb; rw [List.getElem?_append_left hi]
    rw [this]
  · have : jb (js ++ [x]) js.length = x := jb_get (by simp)
    by_cases h : x.t ≠ low
    · rw [if_pos h, List.filter_cons_of_pos (by rw [this]; exact decide_eq_true h)]; rfl
    · rw [if_neg h, List.filter_cons_of_neg (by rw [this]; simpa using h)]; rfl
theorem les_oth : ∀ js : List Fv, lesJ js low = (othL js low).map (jb js) := by
  refine snoc_ind rfl fun js x ih => ?_
  rw [oth_snoc, List.map_append]
  unfold lesJ
  rw [List.filter_append]
  have e : (othL js low).map (jb (js ++ [x])) = (othL js low).map (jb js) := by
    refine List.map_congr_left fun i hi => ?_
    have hi := List.mem_range.1 (List.mem_filter.1 hi).1
    unfold jb; rw [List.getElem?_append_left hi]
  rw [e, ← ih]
  congr 1
  by_cases h : x.t ≠ low
  · have : jb (js ++ [x]) js.length = x := jb_get (by simp)
    simp [h, this]
  · simp [h]
theorem les_len : (lesJ js low).length = (othL js low).length := by rw [les_oth, List.length_map]
theorem oth_mem {i : Nat} : i ∈ othL js low ↔ i < js.length ∧ (jb js i).t ≠ low := by simp [othL]
theorem oth_inc : (othL js low).Pairwise (· < ·) := (List.pairwise_lt_range).sublist List.filter_sublist
/-- The place of one of them. -/
def em (js : List Fv) (low : Int) (k : Nat) : Nat := ((othL js low)[k]?).getD 0
theorem em_get {k : Nat} (hk : k < (othL js low).length) : (othL js low)[k]? = some (em js low k) := by
  unfold em; rw [List.getElem?_eq_getElem hk]; rfl
theorem em_in {k : Nat} (hk : k < (lesJ js low).length) : em js low k < js.length ∧ (jb js (em js low k)).t ≠ low := by
  rw [les_len] at hk
  exact oth_mem.1 (List.mem_of_getElem? (em_get hk))
theorem em_jb {k : Nat} (hk : k < (lesJ js low).length) : jb (lesJ js low) k = jb js (em js low k) := by
  rw [les_len] at hk
  rw [les_oth, jb_get (x := jb js (em js low k))]
  rw [List.getElem?_map, em_get hk]
  rfl
theorem em_of {i : Nat} (hi : i < js.length) (ht : (jb js i).t ≠ low) : ∃ k, k < (lesJ js low).length ∧ em js low k = i := by
  obtain ⟨k, hk, e⟩ := List.getElem_of_mem (oth_mem.2 ⟨hi, ht⟩)
  refine ⟨k, by rw [les_len]; exact hk, ?_⟩
  unfold em
  rw [List.getElem?_eq_getElem hk, e]
  rfl
theorem em_lt {k l : Nat} (hl : l < (lesJ js low).length) (h : k < l) : em js low k < em js low l := by
  rw [les_len] at hl
  have h1 := List.pairwise_iff_getElem.1 (oth_inc (js := js) (low := low)) k l (by omega) hl h
  have e1 := em_get (js := js) (low := low) (k := k) (by omega)
  have e2 := em_get (js := js) (low := low) hl
  rw [List.getElem?_eq_getElem (by omega)] at e1 e2
  injection e1 with e1
  injection e2 with e2
  omega
theorem em_inj {k l : Nat} (hk : k < (lesJ js low).length) (hl : l < (lesJ js low).length) (h : em js low k = em js low l) : k = l := by
  rcases Nat.lt_or_ge k l with h1 | h1
  · have := em_lt hl h1; omega
  · rcases Nat.lt_or_ge l k with h2 | h2
    · have := em_lt hk h2; omega
    · omega
theorem les_lg (h : Lg js) : Lg (lesJ js low) := by
  refine ⟨fun i hi => ?_, fun i hi => ?_, fun i => ?_, fun i hi => ?_⟩
  · rw [em_jb hi]; exact h.r0 _ (em_in hi).1
  · rw [em_jb hi]; exact h.k1 _ (em_in hi).1
  · by_cases hi : i < (lesJ js low).length
    · rw [em_jb hi]; exact h.pos _
    · rw [jb_out (by omega)]; exact fun x hx => by cases hx
  · rw [em_jb hi]; exact h.fit _ (em_in hi).1
/-- It is the least urgent task, whose jobs have no sections. -/
structure Lowest (ts : List Ts) (js : List Fv) (low : Int) : Prop where
  pr : ∀ i j, i < js.length → j < js.length → (jb js i).t ≠ low → (jb js j).t = low → prO ts js i < prO ts js j
  c0 : ∀ i, i < js.length → (jb js i).t = low → (jb js i).c = []
def lowO (js : List Fv) (low : Int) (o : Option Nat) : Option Nat := o.bind fun i => if (jb js i).t = low then none else some i
structure Lo (js : List Fv) (low : Int) (s s' : TSt) : Prop where
  dn : ∀ k, k < (lesJ js low).length → kO s'.dn k = kO s.dn (em js low k)
  en : ∀ k, k < (lesJ js low).length → kO s'.en k = kO s.en (em js low k)
  ru : s'.ru.map (em js low) = lowO js low s.ru
theorem low_pk (hL : Lowest ts js low) {dn dn' : List Int} (hd : ∀ k, k < (lesJ js low).length → kO dn' k = kO dn (em js low k)) (t : Int) :
    (pkN ts (lesJ js low) dn' t (lesJ js low).length).map (em js low) = lowO js low (pkN ts js dn t js.length) := by
  have hrd : ∀ k, k < (lesJ js low).length → rdy (lesJ js low) dn' t k = rdy js dn t (em js low k) := fun k hk => by
    unfold rdy; rw [em_jb hk, hd k hk]
  have hpr : ∀ k, k < (lesJ js low).length → prO ts (lesJ js low) k = prO ts js (em js low k) := fun k hk => by
    unfold prO; rw [em_jb hk]
  cases hp : pkN ts js dn t js.length with
  | none =>
    have h1 := (pkN_spec _).1 hp
    rw [pkN_no (fun k hk => by rw [hrd k hk]; exact h1 _ (em_in hk).1)]
    rfl
  | some b =>
    obtain ⟨b1, b2, b3⟩ := (pkN_spec _).2 b hp
    by_cases hb : (jb js b).t = low
    · rw [pkN_no (fun k hk => by
        rw [hrd k hk, ← Bool.not_eq_true]
        intro hr
        have e := em_in hk
        have h1 := b3 _ e.1 hr
        have h2 := hL.pr _ b e.1 b1 e.2 hb
        omega)]
      simp [lowO, hb]
    · obtain ⟨k, hk, rfl⟩ := em_of b1 hb
      rw [pkN_best (b := k) ⟨hk, by rw [hrd k hk]; exact b2, fun l hl hr => by
        rw [hrd l hl] at hr
        rw [hpr k hk, hpr l hl]
        have h1 := b3 _ (em_in hl).1 hr
        rcases h1 with h1 | ⟨h1, h2⟩
        · exact .inl h1
        · refine .inr ⟨h1, ?_⟩
          rcases Nat.lt_or_ge l k with h | h
          · have := em_lt hk h; omega
          · exact h⟩]
      simp [lowO, hb]
theorem low_who (hL : Lowest ts js low) (hl : Lg js) {n : Nat} {s s' : TSt} (hI : TI js n s) (hI' : TI (lesJ js low) n s') (h : Lo js low s s') : (whoS ts (lesJ js low) s' n).map (em js low) = lowO js low (whoS ts js s n) := by
  have P := low_pk hL h.dn (n : Int)
  unfold whoS
  have hr := h.ru
  cases hs : s.ru with
  | none =>
    rw [hs] at hr
    have : s'.ru = none := by cases hx : s'.ru with | none => rfl | some k => rw [hx] at hr; cases hr
    rw [this]
    exact P
  | some i =>
    have hi := (hI.ru i hs).1
    rw [hs] at hr
    by_cases ht : (jb js i).t = low
    · simp only [lowO, Option.bind_some, if_pos ht] at hr
      have : s'.ru = none := by cases hx : s'.ru with | none => rfl | some k => rw [hx] at hr; cases hr
      rw [this]
      simp only [hL.c0 i hi ht, wthS, Bool.false_eq_true, if_false]
      exact P
    · simp only [lowO, Option.bind_some, if_neg ht] at hr
      obtain ⟨k, hk, he⟩ := Option.map_eq_some_iff.1 hr
      have hkl := (hI'.ru k hk).1
      rw [hk]
      simp only [em_jb hkl, h.dn k hkl, he]
      split
      · simp [lowO, ht, he]
      · exact P
theorem low_all (hL : Lowest ts js low) (hl : Lg js) : ∀ n : Nat, Lo js low (tst ts js n) (tst ts (lesJ js low) n)
  | 0 => by
    refine ⟨fun k hk => ?_, fun k hk => ?_, rfl⟩
    · simp only [tst]; rw [kO_rep _ _ _ hk, kO_rep _ _ _ (em_in hk).1]
    · simp only [tst]; rw [kO_rep _ _ _ hk, kO_rep _ _ _ (em_in hk).1]
  | n + 1 => by
    have h := low_all hL hl n
    have hI := ti_all (ts := ts) hl n
    have hI' := ti_all (ts := ts) (les_lg (low := low) hl) n
    have hw := low_who hL hl hI hI' h
    rw [tst_succ, tst_succ]
    unfold tstep
    cases hx : whoS ts js (tst ts js n) n with
    | none =>
      rw [hx] at hw
      have e : whoS ts (lesJ js low) (tst ts (lesJ js low) n) n = none := by
        cases hy : whoS ts (lesJ js low) (tst ts (lesJ js low) n) n with
        | none => rfl
        | some k => rw [hy] at hw; cases hw
      rw [e]
      exact ⟨h.dn, h.en, rfl⟩
    | some i =>
      obtain ⟨h1, h2, h3⟩ := hI.who_some hl hx
      have hid : i < (tst ts js n).dn.length := by rw [hI.ld]; exact h1
      have hie : i < (tst ts js n).en.length := by rw [hI.le]; exact h1
      rw [hx] at hw
      by_cases ht : (jb js i).t = low
      · simp only [lowO, Option.bind_some, if_pos ht] at hw
        have e : whoS ts (lesJ js low) (tst ts (lesJ js low) n) n = none := by
          cases hy : whoS ts (lesJ js low) (tst ts (lesJ js low) n) n with
          | none => rfl
          | some k => rw [hy] at hw; cases hw
        rw [e]
        have hne : ∀ k, k < (lesJ js low).length → em js low k ≠ i := fun k hk e => by
          have := (em_in hk).2; rw [e] at this; exact this ht
        refine ⟨fun k hk => ?_, fun k hk => ?_, ?_⟩
        · simp only [runM]
          rw [kO_set _ _ hid, if_neg (hne k hk)]; exact h.dn k hk
        · simp only [runM]
          split
          · rw [kO_set _ _ hie, if_neg (hne k hk)]; exact h.en k hk
          · exact h.en k hk
        · simp [runM, lowO, ht]
      · simp only [lowO, Option.bind_some, if_neg ht] at hw
        obtain ⟨k, hk, he⟩ := Option.map_eq_some_iff.1 hw
        obtain ⟨g1, g2, g3⟩ := hI'.who_some (les_lg hl) hk
        have hkd : k < (tst ts (lesJ js low) n).dn.length := by rw [hI'.ld]; exact g1
        have hke : k < (tst ts (lesJ js low) n).en.length := by rw [hI'.le]; exact g1
        rw [hk]
        have heq : ∀ l, l < (lesJ js low).length → (em js low l = i ↔ l = k) := fun l hl => ⟨fun e => em_inj hl g1 (by rw [e, he]), fun e => by rw [e, he]⟩
        refine ⟨fun l hl => ?_, fun l hl => ?_, ?_⟩
        · simp only [runM]
          rw [kO_set _ _ hid, kO_set _ _ hkd, h.dn k g1, he]
          by_cases e : l = k
          · rw [if_pos e, if_pos ((heq l hl).2 e)]
          · rw [if_neg e, if_neg (fun h => e ((heq l hl).1 h))]; exact h.dn l hl
        · simp only [runM, em_jb g1, h.dn k g1, he]
          split
          · rw [kO_set _ _ hie, kO_set _ _ hke]
            by_cases e : l = k
            · rw [if_pos e, if_pos ((heq l hl).2 e)]
            · rw [if_neg e, if_neg (fun h => e ((heq l hl).1 h))]; exact h.en l hl
          · exact h.en l hl
        · simp [runM, lowO, ht, he]
end
/-- They are legal. -/
theorem les_leg {ts : List Ts} {js : List Fv} {low : Int} (h : legS ts js = true) : legS ts (lesJ js low) = true := by
  obtain ⟨h1, h2, h3⟩ := legS_parts h
  have L := ljs_of (vs_of h1) js h3
  refine legS_of h1 ?_ (fun j hj => L.all j (List.mem_filter.1 hj).1) (L.pw.sublist List.filter_sublist)
  have := List.length_filter_le (fun j : Fv => decide (j.t ≠ low)) js
  unfold lesJ
  omega
def lowJ (low : Int) (j : Fv) : Fv := if j.t = low then { j with c := [] } else j
theorem low_leg {ts : List Ts} {js : List Fv} {low : Int} (h : legS ts js = true) : legS ts (js.map (lowJ low)) = true := by
  obtain ⟨h1, h2, h3⟩ := legS_parts h
  have L := ljs_of (vs_of h1) js h3
  have e : ∀ j, (lowJ low j).t = j.t ∧ (lowJ low j).a = j.a := fun j => by unfold lowJ; split <;> exact ⟨rfl, rfl⟩
  refine legS_of h1 (by rw [List.length_map]; exact h2) (fun j hj => ?_) (List.pairwise_map.2 (L.pw.imp fun {x y} h => by rw [(e x).1, (e y).1, (e x).2, (e y).2]; exact h))
  obtain ⟨x, hx, rfl⟩ := List.mem_map.1 hj
  have l := L.all x hx
  unfold lowJ
  split
  · exact ⟨l.t0, l.t1, l.a0, l.a1, l.r0, l.r1, l.k0, l.k1, (fun x hx => by cases hx), by have := l.k0; simp; omega, fun x hx => by cases hx⟩
  · exact l
end Go.Proofs.YtkpackbbahodcaaGreat
