/- ScriptPrefix: the walk. -/
import Derived.Test.YthfiodjhjhpiaaaJSL
namespace Go.Proofs.Ythfiodjhjhpiaaa
open Go.RowKit
set_option linter.unusedVariables false
set_option linter.unusedSimpArgs false

/-! ### What raw numbers of one task are to another one's jobs -/
theorem decF_take (ts : List Ts) : ∀ (rs js : List Fv) (k : Nat), decF ts js (rs.take k) = (decF ts js rs).take (js.length + k)
  | [], js, k => by rw [List.take_nil, decF, List.take_of_length_le (by omega)]
  | r :: rs, js, 0 => by
    rw [List.take_zero, decF, Nat.add_zero]
    have : ∀ (rs js : List Fv), js = (decF ts js rs).take js.length := by
      intro rs
      induction rs with
      | nil => intro js; simp [decF]
      | cons r rs ih =>
        intro js
        rw [decF]
        have := congrArg (List.take js.length) (ih (js ++ [decJ ts js r]))
        rw [List.take_left' rfl, List.take_take] at this
        rw [Nat.min_eq_left (by simp)] at this
        exact this
    exact this (r :: rs) js
  | r :: rs, js, k + 1 => by
    rw [List.take_succ_cons, decF, decF, decF_take ts rs _ k]
    congr 1
    simp only [List.length_append, List.length_singleton]
    omega
theorem lastT_filter (T p : Int) (hp : p ≠ T) : ∀ js : List Fv, lastT (js.filter (fun j => j.t != T)) p = lastT js p := by
  intro js
  unfold lastT
  rw [← List.filter_reverse]
  induction js.reverse with
  | nil => rfl
  | cons j r ih =>
    by_cases h : j.t = T
    · rw [List.filter_cons_of_neg (by simp [h]), ih, List.find?_cons]
      rw [h, decide_eq_false (fun e : T = p => hp e.symm)]
    · rw [List.filter_cons_of_pos (by simp [h]), List.find?_cons, List.find?_cons, ih]
theorem decJ_filter (ts : List Ts) (T : Int) (js : List Fv) (r : Fv) (h : r.t % (ts.length : Int) ≠ T) : decJ ts (js.filter (fun j => j.t != T)) r = decJ ts js r := by
  simp only [decJ, soonI, lastT_filter T _ h]
theorem decF_filter (ts : List Ts) (T : Int) : ∀ (rs js : List Fv), decF ts (js.filter (fun j => j.t != T)) (rs.filter (fun r => r.t % (ts.length : Int) != T)) = (decF ts js rs).filter (fun j => j.t != T)
  | [], js => by simp [decF]
  | r :: rs, js => by
    by_cases h : r.t % (ts.length : Int) = T
    · rw [List.filter_cons_of_neg (by simp [h]), decF, ← decF_filter ts T rs]
      congr 1
      rw [List.filter_append, List.filter_cons_of_neg (by simp [decJ, h])]
      simp
    · rw [List.filter_cons_of_pos (by simp [h]), decF, decF, ← decF_filter ts T rs, decJ_filter ts T js r h]
      congr 1
      rw [List.filter_append, List.filter_cons_of_pos (by simp [decJ, h])]
      simp
theorem decF_t (ts : List Ts) : ∀ (rs js : List Fv) (k : Nat) (r : Fv), rs[k]? = some r → ((decF ts js rs)[js.length + k]?).map (·.t) = some (r.t % (ts.length : Int))
  | [], js, k, r, h => by simp at h
  | a :: rs, js, 0, r, h => by
    simp at h
    subst h
    have h2 := decF_take ts (a :: rs) js 1
    have h3 := congrArg (fun l => l[js.length]?) h2
    simp only [List.take_succ_cons, List.take_zero, decF] at h3
    rw [List.getElem?_take, if_pos (by omega)] at h3
    rw [Nat.add_zero, decF, ← h3]
    simp [decJ]
  | a :: rs, js, k + 1, r, h => by
    rw [decF]
    have := decF_t ts rs (js ++ [decJ ts js a]) k r (by simpa using h)
    rw [List.length_append, List.length_singleton, Nat.add_assoc, Nat.add_comm 1 k] at this
    exact this
theorem decR_small {ts : List Ts} (hv : (chkAll ts).2 = 0) {rs : List Fv} (h : rs.length ≤ 4096) : decR ts rs = decF ts [] rs := by
  rw [decR, if_pos hv, decS, List.take_of_length_le h]

/-! ### Rows of what was there -/
structure POwn (e : TypeId) (B : Nat) (w : World) (v : Value) (xs : List Fv) : Prop where
  is : ∃ gs, FOwn e B w v gs ∧ gs.map (·.x) = xs ∧ ∀ g ∈ gs, g.x.c ≠ [] → ∀ a, g.A = some a → a.block < B
theorem FOwn.side {e e' : TypeId} {B B' n : Nat} {w w' : World} {v u : Value} {gs : List Gv} {xs : List Value} (h : FOwn e B w v gs) (ho : ∀ g ∈ gs, g.x.c ≠ [] → ∀ a, g.A = some a → a.block < B) (hu : w.ownsRow B' e' 5 u n xs) (hB : B ≤ B') (hne : e ≠ e') (hgr : w.grownBy w' u.ownBlock) : FOwn e B w' v gs := by
  refine ⟨h.row.kept hgr ?_, fun g hg => ?_⟩
  · rcases h.row.2 with ⟨rfl, _⟩ | ⟨g', cap, cur, rfl, _, hh, _⟩
    · exact .inl rfl
    · right
      intro he
      have := own_ne hu hh hne
      exact this he.symm
  · have hg0 := h.each g hg
    have hblk : g.x.c ≠ [] → ∀ a, g.A = some a → w'.heap[a.block]? = w.heap[a.block]? := fun hn a ha => by
      obtain ⟨b, o, x, hA, _, _, hlt, _⟩ := hg0.s.get (k := 0) (by rcases Nat.eq_zero_or_pos g.x.c.length with h0 | h0; exact absurd (List.length_eq_zero_iff.1 h0) hn; exact h0)
      have hl := ho g hg hn a ha
      rw [ha] at hA
      cases hA
      exact hgr.block _ hlt (fun hb => by have := (hu.lt _ hb.symm).1; simp only at hl this; omega)
    refine ⟨hg0.wf, ⟨hg0.s.le, hg0.s.mx, hg0.s.wf, fun i x hx => ?_⟩, fun hn a ha => .inl (ho g hg hn a ha)⟩
    obtain ⟨b, o, hA, hc⟩ := hg0.s.at_ i x hx
    exact ⟨b, o, hA, (World.cell?_of_block (w := w) (a := ⟨b, o + i, none⟩) (hblk (by intro h0; rw [h0] at hx; simp at hx) ⟨b, o, none⟩ hA)).trans hc⟩
theorem slice_raw (A : Option Addr) (n c k : Nat) (hk : k ≤ c) (W : World) : (Instr.slice 23 (.slice A n c) none (some (.int .i64 (k : Int))) none).run Try.prog W = .ok (.slice A k c) W := by
  have hs : (sizeOf (Try.prog.elem 23)).run Try.prog W = .ok 5 W := by kernel_rfl
  rw [run_slice_h W 23 A n c (by kernel_rfl) .i64 k (by omega) (by omega), hs]
  simp only [Result.andThen, sliced, Int.toNat_natCast, Nat.sub_zero, Nat.zero_mul]
  cases A <;> simp [Addr.add]
theorem slice_job (A : Option Addr) (n c k : Nat) (hk : k ≤ c) (W : World) : (Instr.slice 29 (.slice A n c) none (some (.int .i64 (k : Int))) none).run Try.prog W = .ok (.slice A k c) W := by
  have hs : (sizeOf (Try.prog.elem 29)).run Try.prog W = .ok 5 W := by kernel_rfl
  rw [run_slice_h W 29 A n c (by kernel_rfl) .i64 k (by omega) (by omega), hs]
  simp only [Result.andThen, sliced, Int.toNat_natCast, Nat.sub_zero, Nat.zero_mul]
  cases A <;> simp [Addr.add]
end Go.Proofs.Ythfiodjhjhpiaaa
