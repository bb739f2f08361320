/- What the chapter asks, as plain functions: rests, sections, jobs of raw numbers, whether jobs are legal, the least raw numbers. -/
import Derived.Test.YtngmaiiibinkaaaJBase
namespace Go.Proofs.Ytngmaiiibinkaaa
open Go.RowKit
set_option linter.unusedVariables false
set_option linter.unusedSimpArgs false

/-! ### Rests -/
theorem tmod_bd (x n : Int) (hn : 0 < n) : -n < x.tmod n ∧ x.tmod n < n := by
  rcases Int.le_total 0 x with h | h
  · rw [Int.tmod_eq_emod_of_nonneg h]
    have := Int.emod_nonneg x (show n ≠ 0 by omega)
    have := Int.emod_lt_of_pos x hn
    omega
  · obtain ⟨m, rfl⟩ : ∃ m, x = -m := ⟨-x, by omega⟩
    rw [Int.neg_tmod, Int.tmod_eq_emod_of_nonneg (by omega)]
    have := Int.emod_nonneg m (show n ≠ 0 by omega)
    have := Int.emod_lt_of_pos m hn
    omega
theorem emod_tmod (x n : Int) (hn : 0 < n) : x % n = if x.tmod n < 0 then x.tmod n + n else x.tmod n := by
  have hb := tmod_bd x n hn
  have h2 : x.tmod n % n = x % n := by
    rcases Int.le_total 0 x with h | h
    · rw [Int.tmod_eq_emod_of_nonneg h, Int.emod_emod]
    · obtain ⟨m, rfl⟩ : ∃ m, x = -m := ⟨-x, by omega⟩
      rw [Int.neg_tmod, Int.tmod_eq_emod_of_nonneg (by omega)]
      conv => rhs; rw [← Int.mul_ediv_add_emod m n, Int.neg_add, ← Int.mul_neg, Int.mul_add_emod_self_left]
  rw [← h2]
  split
  · rw [← Int.add_emod_right, Int.emod_eq_of_lt (by omega) (by omega)]
  · exact Int.emod_eq_of_lt (by omega) (by omega)
theorem twice_tmod (x n : Int) (hn : 0 < n) : (x.tmod n + n).tmod n = x % n := by
  have hb := tmod_bd x n hn
  rw [Int.tmod_eq_emod_of_nonneg (by omega), Int.add_emod_right]
  rw [emod_tmod x n hn]
  split
  · rw [← Int.add_emod_right, Int.emod_eq_of_lt (by omega) (by omega)]
  · exact Int.emod_eq_of_lt (by omega) (by omega)
theorem emod_bd (x n : Int) (hn : 0 < n) : 0 ≤ x % n ∧ x % n < n := ⟨Int.emod_nonneg x (by omega), Int.emod_lt_of_pos x hn⟩
theorem restI_emod (x n : Int) (hn : 0 < n) (hn2 : n ≤ 100000) : restI x n = x % n := by
  have hb := tmod_bd x n hn
  rw [restI, IntWalk.wrap64_in _ (by omega), twice_tmod x n hn]

/-! ### Sets that may be -/
structure TsOk (x : Ts) : Prop where
  c0 : 1 ≤ x.c
  c1 : x.c ≤ 2147483647
  t0 : 1 ≤ x.t
  t1 : x.t ≤ 2147483647
  j0 : 0 ≤ x.j
  j1 : x.j ≤ 2147483647
  q0 : 1 ≤ x.q
  q1 : x.q ≤ 2147483647
structure Vs (ts : List Ts) : Prop where
  n0 : 1 ≤ ts.length
  n1 : ts.length ≤ 1024
  all : ∀ x ∈ ts, TsOk x
theorem tsOk_of {x : Ts} (h : checkE x = 0) : TsOk x := by
  have hr : rangedB x = true := by
    by_cases h1 : (namedB x && rangedB x) = true
    · simp only [Bool.and_eq_true] at h1; exact h1.2
    · rw [checkE, if_neg h1] at h; omega
  obtain ⟨⟨c1, c2⟩, ⟨t1, t2⟩, ⟨d1, d2⟩, ⟨q1, q2⟩, ⟨j1, j2⟩, -⟩ := rangedB_parts hr
  exact ⟨c1, c2, t1, t2, j1, j2, q1, q2⟩
theorem chkFrom_ok : ∀ (l pre : List Ts), (chkFrom pre l).2 = 0 → ∀ x ∈ l, checkE x = 0
  | [], _, _ => by simp
  | a :: r, pre, h => by
    rw [chkFrom] at h
    by_cases h1 : checkE a ≠ 0
    · rw [if_pos h1] at h; exact absurd h h1
    · rw [if_neg h1] at h
      split at h
      · cases h
      · intro x hx
        rcases List.mem_cons.1 hx with rfl | hx
        · omega
        · exact chkFrom_ok r _ h x hx
theorem vs_of {ts : List Ts} (h : (chkAll ts).2 = 0) : Vs ts := by
  rw [chkAll] at h
  split at h
  · cases h
  · exact ⟨by omega, by omega, fun x hx => tsOk_of (chkFrom_ok ts [] h x hx)⟩
/-- The task at a place. -/
def tk (ts : List Ts) (p : Int) : Ts := ts.getD p.toNat ⟨ByteArray.empty, 1, 1, 1, 0, 1, 1⟩
theorem tk_get {ts : List Ts} {k : Nat} {x : Ts} (h : ts[k]? = some x) : tk ts (k : Int) = x := by
  rw [tk, Int.toNat_natCast, List.getD_eq_getElem?_getD, h]; rfl
theorem Vs.tk {ts : List Ts} (h : Vs ts) (p : Int) : TsOk (tk ts p) := by
  unfold Go.Proofs.Ytngmaiiibinkaaa.tk
  rw [List.getD_eq_getElem?_getD]
  cases hp : ts[p.toNat]? with
  | none => exact ⟨by decide, by decide, by decide, by decide, by decide, by decide, by decide, by decide⟩
  | some x => exact h.all x (List.mem_of_getElem? hp)

/-! ### Sections -/
def secs (q : Int) : Int → List Int → List Int
  | _, [] => []
  | left, c :: r => if left = 0 then [] else (1 + c % min q left) :: secs q (left - (1 + c % min q left)) r
/-- What is left behind some of them. -/
def leftS (left : Int) (l : List Int) : Int := left - l.sum
theorem min_bd (q left : Int) (hq : 1 ≤ q) (hl : 1 ≤ left) : 1 ≤ min q left ∧ min q left ≤ q ∧ min q left ≤ left := by omega
theorem secs_fit (q : Int) (hq : 1 ≤ q) : ∀ (l : List Int) (left : Int), 0 ≤ left → (∀ x ∈ secs q left l, 1 ≤ x ∧ x ≤ q) ∧ (secs q left l).sum ≤ left ∧ (secs q left l).length ≤ l.length
  | [], left, h => by simp [secs]; exact h
  | c :: r, left, h => by
    rw [secs]
    by_cases h0 : left = 0
    · rw [if_pos h0]; simp; exact h
    · rw [if_neg h0]
      have hb := min_bd q left hq (by omega)
      have he := emod_bd c (min q left) (by omega)
      obtain ⟨i1, i2, i3⟩ := secs_fit q hq r (left - (1 + c % min q left)) (by omega)
      refine ⟨fun x hx => ?_, ?_, ?_⟩
      · rcases List.mem_cons.1 hx with rfl | hx
        · omega
        · exact i1 x hx
      · rw [List.sum_cons]; omega
      · simp only [List.length_cons]; omega

/-! ### Jobs of raw numbers -/
def lastT (js : List Fv) (t : Int) : Option Fv := js.reverse.find? fun j => decide (j.t = t)
theorem lastT_nil (t : Int) : lastT [] t = none := rfl
theorem lastT_snoc (js : List Fv) (j : Fv) (t : Int) : lastT (js ++ [j]) t = if j.t = t then some j else lastT js t := by
  rw [lastT, List.reverse_append, List.reverse_singleton, List.singleton_append, List.find?_cons]
  by_cases h : j.t = t <;> simp [h, lastT]
theorem lastT_mem {js : List Fv} {t : Int} {j : Fv} (h : lastT js t = some j) : j ∈ js ∧ j.t = t := by
  have h1 := List.mem_of_find?_eq_some h
  have h2 := List.find?_some h
  exact ⟨by simpa using h1, by simpa using h2⟩
/-- From when on the next job of the task at that place may arrive. -/
def soonI (ts : List Ts) (js : List Fv) (p : Int) : Int := match lastT js p with | none => 0 | some j => j.a + (tk ts p).t
def decJ (ts : List Ts) (js : List Fv) (r : Fv) : Fv :=
  let p := r.t % (ts.length : Int)
  let x := tk ts p
  let a := soonI ts js p + r.a % 1048576
  let k := 1 + r.k % x.c
  ⟨p, a, a + r.r % (x.j + 1), k, secs x.q k r.c⟩
def decF (ts : List Ts) (js : List Fv) : List Fv → List Fv
  | [] => js
  | r :: rs => decF ts (js ++ [decJ ts js r]) rs
/-- All jobs of raw numbers. -/
def decS (ts : List Ts) (rs : List Fv) : List Fv := decF ts [] (rs.take 4096)
theorem decF_len (ts : List Ts) : ∀ (rs js : List Fv), (decF ts js rs).length = js.length + rs.length
  | [], js => by simp [decF]
  | r :: rs, js => by rw [decF, decF_len ts rs]; simp; omega
theorem decF_snoc (ts : List Ts) : ∀ (rs js : List Fv) (r : Fv), decF ts js (rs ++ [r]) = decF ts js rs ++ [decJ ts (decF ts js rs) r]
  | [], js, r => by simp [decF]
  | a :: rs, js, r => by rw [List.cons_append, decF, decF, decF_snoc ts rs]
theorem decF_app (ts : List Ts) : ∀ (rs js qs : List Fv), decF ts js (rs ++ qs) = decF ts (decF ts js rs) qs
  | [], js, qs => rfl
  | a :: rs, js, qs => by rw [List.cons_append, decF, decF, decF_app ts rs]

/-- How great arrivals are. -/
def Bd (js : List Fv) : Prop := ∀ j ∈ js, 0 ≤ j.a ∧ j.a ≤ js.length * 4294967296
theorem Bd.nil : Bd [] := by intro j h; simp at h
theorem soon_bd {ts : List Ts} (hv : Vs ts) {js : List Fv} (h : Bd js) (p : Int) : 0 ≤ soonI ts js p ∧ soonI ts js p ≤ js.length * 4294967296 + 2147483647 := by
  have hx := hv.tk p
  obtain ⟨c0, c1, t0, t1, j0, j1, q0, q1⟩ := hx
  unfold soonI
  cases hl : lastT js p with
  | none => simp only; omega
  | some j =>
    have := h j (lastT_mem hl).1
    simp only
    omega
theorem dec_bd {ts : List Ts} (hv : Vs ts) {js : List Fv} (h : Bd js) (r : Fv) : soonI ts js (r.t % (ts.length : Int)) ≤ (decJ ts js r).a ∧ (decJ ts js r).a ≤ (js.length + 1) * 4294967296 - 2000000000 := by
  have := soon_bd hv h (r.t % (ts.length : Int))
  have := emod_bd r.a 1048576 (by omega)
  simp only [decJ]
  omega
theorem Bd.snoc {ts : List Ts} (hv : Vs ts) {js : List Fv} (h : Bd js) (r : Fv) : Bd (js ++ [decJ ts js r]) := by
  have h1 := dec_bd hv h r
  have h2 := soon_bd hv h (r.t % (ts.length : Int))
  intro j hj
  rw [List.length_append, List.length_singleton]
  rcases List.mem_append.1 hj with hj | hj
  · have := h j hj
    omega
  · rw [List.mem_singleton] at hj
    subst hj
    omega
theorem decF_bd {ts : List Ts} (hv : Vs ts) : ∀ (rs js : List Fv), Bd js → Bd (decF ts js rs)
  | [], js, h => h
  | r :: rs, js, h => decF_bd hv rs _ (h.snoc hv r)
/-- What one job is. -/
theorem dec_parts {ts : List Ts} (hv : Vs ts) (js : List Fv) (r : Fv) : 0 ≤ (decJ ts js r).t ∧ (decJ ts js r).t < ts.length ∧ (decJ ts js r).a ≤ (decJ ts js r).r ∧ (decJ ts js r).r ≤ (decJ ts js r).a + (tk ts (decJ ts js r).t).j ∧ 1 ≤ (decJ ts js r).k ∧ (decJ ts js r).k ≤ (tk ts (decJ ts js r).t).c := by
  have hn := hv.n0
  have h1 := emod_bd r.t (ts.length : Int) (by omega)
  have hx := hv.tk (r.t % (ts.length : Int))
  have h2 := emod_bd r.r ((tk ts (r.t % (ts.length : Int))).j + 1) (by have := hx.j0; omega)
  have h3 := emod_bd r.k ((tk ts (r.t % (ts.length : Int))).c) (by have := hx.c0; omega)
  simp only [decJ]
  omega

/-! ### Legal -/
def fitB (q : Int) : Int → List Int → Bool
  | _, [] => true
  | left, c :: r => decide (1 ≤ c ∧ c ≤ min q left) && fitB q (left - c) r
def legJ (ts : List Ts) (js : List Fv) (j : Fv) : Bool :=
  inB j.t 0 (ts.length - 1) && (inB j.a (soonI ts js j.t) 17592186044416 && (inB j.r j.a (j.a + (tk ts j.t).j) && (inB j.k 1 (tk ts j.t).c && fitB (tk ts j.t).q j.k j.c)))
def legF (ts : List Ts) (js : List Fv) : List Fv → Bool
  | [] => true
  | j :: r => legJ ts js j && legF ts (js ++ [j]) r
def legS (ts : List Ts) (js : List Fv) : Bool := decide ((chkAll ts).2 = 0 ∧ js.length ≤ 4096) && legF ts [] js
theorem secs_fitB (q : Int) (hq : 1 ≤ q) : ∀ (l : List Int) (left : Int), 0 ≤ left → fitB q left (secs q left l) = true
  | [], left, _ => rfl
  | c :: r, left, h => by
    rw [secs]
    by_cases h0 : left = 0
    · rw [if_pos h0]; rfl
    · rw [if_neg h0]
      have hb := min_bd q left hq (by omega)
      have he := emod_bd c (min q left) (by omega)
      rw [fitB, secs_fitB q hq r _ (by omega), decide_eq_true (by omega)]
      rfl
theorem dec_legal {ts : List Ts} (hv : Vs ts) {js : List Fv} (h : Bd js) (hl : js.length < 4096) (r : Fv) : legJ ts js (decJ ts js r) = true := by
  obtain ⟨p1, p2, p3, p4, p5, p6⟩ := dec_parts hv js r
  obtain ⟨a1, a2⟩ := dec_bd hv h r
  have hx := hv.tk (decJ ts js r).t
  have e : (decJ ts js r).t = r.t % (ts.length : Int) := rfl
  have ec : (decJ ts js r).c = secs (tk ts (decJ ts js r).t).q (decJ ts js r).k r.c := rfl
  rw [legJ, inB_yes ⟨p1, by omega⟩, inB_yes ⟨by rw [e]; exact a1, by omega⟩, inB_yes ⟨p3, p4⟩, inB_yes ⟨p5, p6⟩, ec, secs_fitB _ hx.q0 _ _ (by omega)]
  rfl
theorem legF_app (ts : List Ts) : ∀ (a b js : List Fv), legF ts js (a ++ b) = (legF ts js a && legF ts (js ++ a) b)
  | [], b, js => by simp [legF]
  | x :: a, b, js => by
    rw [List.cons_append, legF, legF, legF_app ts a b, Bool.and_assoc]
    simp
theorem snoc_ind {α : Type} {P : List α → Prop} (h0 : P []) (hs : ∀ l x, P l → P (l ++ [x])) (l : List α) : P l := by
  have h : ∀ l : List α, P l.reverse := by
    intro l
    induction l with
    | nil => exact h0
    | cons a r ih => rw [List.reverse_cons]; exact hs _ _ ih
  have := h l.reverse
  rwa [List.reverse_reverse] at this
theorem decF_legal {ts : List Ts} (hv : Vs ts) : ∀ (rs : List Fv), rs.length ≤ 4096 → legF ts [] (decF ts [] rs) = true := by
  refine snoc_ind (fun _ => rfl) fun rs r ih hl => ?_
  · rw [List.length_append, List.length_singleton] at hl
    rw [decF_snoc, legF_app, ih (by omega), legF, List.nil_append, dec_legal hv (decF_bd hv rs [] Bd.nil) (by rw [decF_len]; simp; omega)]
    rfl
theorem decS_legal {ts : List Ts} (hv : (chkAll ts).2 = 0) (rs : List Fv) : legS ts (decS ts rs) = true := by
  have hl : (rs.take 4096).length ≤ 4096 := by rw [List.length_take]; omega
  rw [legS, decS, decF_legal (vs_of hv) _ hl, decide_eq_true ⟨hv, by rw [decF_len]; simp; omega⟩]
  rfl

/-! ### Encode -/
def encJ (g : Int) (j : Fv) : Fv := ⟨j.t, g, j.r - j.a, j.k - 1, j.c.map (· - 1)⟩
def encF (ts : List Ts) (js : List Fv) : List Fv → Option (List Fv)
  | [] => some []
  | j :: r => if j.a - soonI ts js j.t ≥ 1048576 then none else (encF ts (js ++ [j]) r).map (encJ (j.a - soonI ts js j.t) j :: ·)
def encS (ts : List Ts) (js : List Fv) : Option (List Fv) := if legS ts js then encF ts [] js else none
theorem legJ_parts {ts : List Ts} {js : List Fv} {j : Fv} (h : legJ ts js j = true) : (0 ≤ j.t ∧ j.t ≤ ts.length - 1) ∧ (soonI ts js j.t ≤ j.a ∧ j.a ≤ 17592186044416) ∧ (j.a ≤ j.r ∧ j.r ≤ j.a + (tk ts j.t).j) ∧ (1 ≤ j.k ∧ j.k ≤ (tk ts j.t).c) ∧ fitB (tk ts j.t).q j.k j.c = true := by
  simp only [legJ, Bool.and_eq_true, inB_iff] at h
  exact h
theorem secs_back (q : Int) (hq : 1 ≤ q) : ∀ (l : List Int) (left : Int), 0 ≤ left → fitB q left l = true → secs q left (l.map (· - 1)) = l
  | [], left, _, _ => rfl
  | c :: r, left, h0, h => by
    simp only [fitB, Bool.and_eq_true, decide_eq_true_eq] at h
    obtain ⟨⟨h1, h2⟩, h3⟩ := h
    rw [List.map_cons, secs, if_neg (by omega)]
    have e : 1 + (c - 1) % min q left = c := by rw [Int.emod_eq_of_lt (by omega) (by omega)]; omega
    rw [e, secs_back q hq r (left - c) (by omega) h3]
theorem dec_enc {ts : List Ts} (hv : Vs ts) {js : List Fv} {j : Fv} (h : legJ ts js j = true) (hg : j.a - soonI ts js j.t < 1048576) : decJ ts js (encJ (j.a - soonI ts js j.t) j) = j := by
  obtain ⟨⟨t0, t1⟩, ⟨a0, a1⟩, ⟨r0, r1⟩, ⟨k0, k1⟩, hf⟩ := legJ_parts h
  have hx := hv.tk j.t
  have e1 : j.t % (ts.length : Int) = j.t := Int.emod_eq_of_lt t0 (by omega)
  have e2 : (j.a - soonI ts js j.t) % 1048576 = j.a - soonI ts js j.t := Int.emod_eq_of_lt (by omega) (by omega)
  have e3 : (j.r - j.a) % ((tk ts j.t).j + 1) = j.r - j.a := Int.emod_eq_of_lt (by omega) (by omega)
  have e4 : (j.k - 1) % (tk ts j.t).c = j.k - 1 := Int.emod_eq_of_lt (by omega) (by omega)
  have e5 : 1 + (j.k - 1) = j.k := by omega
  have e6 : soonI ts js j.t + (j.a - soonI ts js j.t) = j.a := by omega
  have e7 : j.a + (j.r - j.a) = j.r := by omega
  simp only [decJ, encJ, e1, e2, e3, e4, e5, e6, e7, secs_back _ hx.q0 _ _ (by omega) hf]
theorem encF_len (ts : List Ts) : ∀ (l js : List Fv) (rs : List Fv), encF ts js l = some rs → rs.length = l.length
  | [], js, rs, h => by simp [encF] at h; simp [h]
  | j :: r, js, rs, h => by
    rw [encF] at h
    split at h
    · cases h
    · obtain ⟨qs, hq, rfl⟩ := Option.map_eq_some_iff.1 h
      simp [encF_len ts r _ qs hq]
theorem decF_enc {ts : List Ts} (hv : Vs ts) : ∀ (l js : List Fv) (rs : List Fv), legF ts js l = true → encF ts js l = some rs → decF ts js rs = js ++ l
  | [], js, rs, _, h => by simp [encF] at h; subst h; simp [decF]
  | j :: r, js, rs, hl, h => by
    rw [legF, Bool.and_eq_true] at hl
    rw [encF] at h
    split at h
    · cases h
    · obtain ⟨qs, hq, rfl⟩ := Option.map_eq_some_iff.1 h
      rw [decF, dec_enc hv hl.1 (by omega), decF_enc hv r _ qs hl.2 hq]
      simp
theorem decS_enc {ts : List Ts} {js rs : List Fv} (h : encS ts js = some rs) : decS ts rs = js := by
  rw [encS] at h
  split at h
  · rename_i hl
    rw [legS, Bool.and_eq_true, decide_eq_true_eq] at hl
    have hlen := encF_len ts js [] rs h
    rw [decS, List.take_of_length_le (by omega), decF_enc (vs_of hl.1.1) js [] rs hl.2 h]
    rfl
  · cases h
end Go.Proofs.Ytngmaiiibinkaaa
