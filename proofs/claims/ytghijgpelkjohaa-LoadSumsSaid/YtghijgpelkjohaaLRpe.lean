/- Periods: the document's own. -/
import Derived.Test.YtghijgpelkjohaaLRsu
import Derived.Test.YtghijgpelkjohaaLPer
namespace Go.Proofs.Ytghijgpelkjohaa
open Go.RowKit
set_option linter.unusedVariables false
set_option linter.unusedSimpArgs false
abbrev numV (n : Int) (k : Bool) : Value := .agg #[.int .u64 n, .bool k]
theorem infoNum : (Try.prog.info? 56).map (·.size) = some 2 := by kernel_rfl
theorem results_num {fn : Func} {p : Tmp} (h : fn.results = #[.cell p 56]) (tmps : Array Value) (w : World) (b : Nat) (n : Int) (k : Bool) (hp : tmps.getD p undef = .pointer (some ⟨b, 0, none⟩)) (hb : NB w b n k) :
    (results fn tmps).run Try.prog w = .ok (numV n k) w :=
  results_cell_row h tmps w b _ _ _ _ hp hb Try.underlying56 rfl infoNum
theorem pd_len : ∀ (l : List Ts) (q : Int), (∀ x ∈ l, ¬ x.t < 1) → pdB q l = false → pdN q l = 0
  | [], q, _, h => by rw [pdB] at h; cases h
  | a :: l, q, hl, h => by
    have ha : ¬ a.t < 1 := hl a (by simp)
    cases h2 : lcmB q a.t
    · exact (pd_over ha h2).2
    · rw [(pd_next (l := l) ha h2).2]
      rw [(pd_next (l := l) ha h2).1] at h
      exact pd_len l _ (fun x hx => hl x (by simp [hx])) h
/-- What the document's Period holds of memory. -/
structure RP (n0 : Nat) (w0 : World) (n : Int) (k : Bool) (W : World) : Prop where
  r : NB W n0 0 false
  g : NB W (n0 + 1) n k
  b : Below n0 w0 W
theorem RP.later {n0 : Nat} {w0 W W' : World} {n : Int} {k : Bool} (h : RP n0 w0 n k W) (hb : Below W.heap.size W W') : RP n0 w0 n k W' :=
  ⟨h.r.later hb, h.g.later hb, h.b.trans (hb.mono (by have := h.g.lt; omega))⟩
theorem RP.set {n0 : Nat} {w0 W : World} {n : Int} {k : Bool} (h : RP n0 w0 n k W) (n' : Int) (k' : Bool) : RP n0 w0 n' k' ((W.setCell ⟨n0 + 1, 0, none⟩ (.int .u64 n')).setCell ⟨n0 + 1, 1, none⟩ (.bool k')) :=
  ⟨(hset _ _ _ _ (by omega) 1).trans ((hset _ _ _ _ (by omega) 0).trans h.r), h.g.set n' k', below_set2 h.b (by omega) _ _⟩
theorem RP.start (w : World) : ∃ W, ((w.alloc (.cells #[.int .u64 0, .bool false] 56)).alloc (.cells #[.int .u64 1, .bool true] 56)) = W ∧ RP w.heap.size w 1 true W := by
  refine ⟨_, rfl, (Below.heap_alloc _ _ _ (by simp)).trans (heap_alloc_new w _), ?_, ((Below.refl _ _).alloc (Nat.le_refl _) _).alloc (by simp) _⟩
  have := heap_alloc_new (w.alloc (.cells #[.int .u64 0, .bool false] 56)) (.cells #[.int .u64 1, .bool true] 56)
  rwa [World.size_alloc] at this
/-- All so far are at least 1. -/
def Ge1 (l : List Ts) (k : Nat) : Prop := ∀ x ∈ l.take k, ¬ x.t < 1
theorem Ge1.step {l : List Ts} {k : Nat} {x : Ts} (h : Ge1 l k) (hx : l[k]? = some x) (ht : ¬ x.t < 1) : Ge1 l (k + 1) := by
  obtain ⟨hk, e⟩ := List.getElem?_eq_some_iff.1 hx
  intro y hy
  rw [List.take_succ_eq_append_getElem hk, List.mem_append, List.mem_singleton] at hy
  rcases hy with hy | rfl
  · exact h y hy
  · rw [e]; exact ht
theorem lcm_no {a b : Int} (ha : 0 < a) (hb : 0 < b) (h : lcmB a b = false) : lcmN a b = 0 := by
  unfold lcmB at h
  unfold lcmN
  have hn : ¬ (a = 0 ∨ b = 0) := by omega
  rw [if_neg hn] at h ⊢
  have h2 : ¬ a / gcdI a b * b ≤ 18446744073709551615 := by simpa [mulB] using h
  rw [mulN, if_neg h2]
/-- What is told once so many have been gone over. -/
structure PQ (l : List Ts) (m : Nat) (q : Int) (b : Bool) : Prop where
  u : U q
  p : b = true → 0 < q
  hb : pdB 1 l = (if b then pdB q (l.drop m) else false)
  hn : pdN 1 l = (if b then pdN q (l.drop m) else q)
theorem PQ.skip {l : List Ts} {m : Nat} {q : Int} (h : PQ l m q false) : PQ l (m + 1) q false := ⟨h.u, fun e => (by cases e), h.hb, h.hn⟩
theorem PQ.step {l : List Ts} {m : Nat} {q : Int} {x : Ts} (h : PQ l m q true) (hx : l[m]? = some x) (ht : ¬ x.t < 1) (hx2 : in64 x.t) : PQ l (m + 1) (lcmN q x.t) (lcmB q x.t) := by
  have hd := drop_ts hx
  have hq := h.p rfl
  obtain ⟨t0, t1⟩ := hx2
  have h1 := h.hb
  have h2 := h.hn
  rw [if_pos rfl, hd] at h1 h2
  cases hb : lcmB q x.t
  · exact ⟨lcmN_u _ _ (by omega) (by omega), fun e => (by cases e), by rw [h1, (pd_over ht hb).1]; rfl, by rw [h2, (pd_over ht hb).2, lcm_no hq (by omega) hb]; rfl⟩
  · exact ⟨lcmN_u _ _ (by omega) (by omega), fun _ => lcmN_pos hq (by omega) hb, by rw [h1, (pd_next ht hb).1]; rfl, by rw [h2, (pd_next ht hb).2]; rfl⟩
theorem PQ.fin {l : List Ts} {q : Int} {b : Bool} {m : Nat} (hm : l.length ≤ m) (h : PQ l m q b) : pdN 1 l = q ∧ pdB 1 l = b := by
  have h1 := h.hb
  have h2 := h.hn
  rw [List.drop_eq_nil_of_le hm] at h1 h2
  cases b
  · exact ⟨h2, h1⟩
  · exact ⟨h2, h1⟩
theorem ret_num {a b : Int} {k k' : Bool} (h : b = a) (h2 : k' = k) : Ending.returned (numV a k) = .returned (numV b k') := by rw [h, h2]
set_option maxRecDepth 100000 in
set_option maxHeartbeats 8000000 in
theorem rperiod_any (A : Option Addr) (cap : Nat) (l : List Ts) (w : World) (hR : Row w A cap l) :
    Calls Try.prog 22 #[.slice A l.length cap] w fun e w' => e = .returned (numV (pdN 1 l) (pdB 1 l)) ∧ Below w.heap.size w w' := by
  have hle := hR.le
  have hmx := hR.mx
  have ROW := Lib.hid hR
  obtain ⟨W1, hW1, R1⟩ := RP.start w
  have HW1 := Lib.hid hW1
  have HR1 := Lib.hid R1
  obtain ⟨rn, hrn⟩ : ∃ rn, pdN 1 l = rn := ⟨_, rfl⟩
  obtain ⟨rb, hrb⟩ : ∃ rb, pdB 1 l = rb := ⟨_, rfl⟩
  have HRN := Lib.hid hrn
  have HRB := Lib.hid hrb
  rw [hrn, hrb]
  clear hR hW1 R1 hrn hrb
  generalize hN : l.length = N at *
  have HN := Lib.hid hN
  generalize hn0 : w.heap.size = n0 at *
  clear hN
  go_enter Try.func22, Try.ntmps22
  go_upto_region 2 with (fail)
  rw [HW1.out]
  clear HW1
  go_wp2
  go_loopw [4] (fun i wr => ∃ k : Nat, k ≤ N ∧ i = .int .i64 k ∧ Hid (RP n0 w 1 true wr) ∧ Hid (Ge1 l k)) (fun i _ => N - (intOf i).toNat)
  case atStart => exact ⟨0, Nat.zero_le _, rfl, HR1, Lib.hid (fun x hx => by simp at hx)⟩
  case round =>
    clear HR1
    obtain ⟨k, hk, rfl, HR, hq⟩ := hrel
    by_cases hlt : k < N
    · obtain ⟨b', o, x, rfl, hx, hxw, hbl, hT⟩ := ROW.out.get (k := k) (by rw [HN.out]; exact hlt)
      have hTr := hT.below HR.out.b (by rw [hn0] at hbl; exact hbl)
      have c2 := hTr.c2
      have hi0 : (0 : Int) ≤ (k : Int) := by omega
      have hi1 : (k : Int) < ((N : Nat) : Int) := by omega
      have HX := Lib.hid hx
      clear hT hTr hx hxw
      by_cases ht : x.t < 1
      · have u1 : decide (x.t < 1) = true := decide_eq_true ht
        have HE := Lib.hid (pd_low l 1 ⟨x, List.mem_of_getElem? HX.out, ht⟩)
        have p0 := HR.out.r.c0
        have p1 := HR.out.r.c1
        have pz := HR.out.r.fz
        clear ht
        go_wp2
        exact bodyPost_ret (results_num rfl _ _ n0 0 false rfl (HR.out.r.set 0 false)) rfl ⟨ret_num (HRN.out.symm.trans HE.out.2) (HRB.out.symm.trans HE.out.1), by first | exact below_set2 HR.out.b (Nat.le_refl _) _ _ | (rw [hn0]; exact below_set2 HR.out.b (Nat.le_refl _) _ _)⟩
      · have u1 : decide (x.t < 1) = false := decide_eq_false ht
        have HT := Lib.hid ht
        clear ht
        go_wp2
        go_roundw
        case rel => exact ⟨k + 1, by omega, by go_num, HR, Lib.hid (hq.out.step HX.out HT.out)⟩
        case measure => simp [intOf]; omega
    · obtain rfl : k = N := by omega
      have HGE := hq
      clear hq
      go_wp2
      go_loopw [5] (fun i wr => ∃ (m : Nat) (q : Int) (b : Bool), m ≤ k ∧ i = .int .i64 m ∧ Hid (RP n0 w q b wr) ∧ Hid (PQ l m q b)) (fun i _ => k - (intOf i).toNat)
      case atStart => exact ⟨0, 1, true, Nat.zero_le _, rfl, HR, Lib.hid ⟨⟨by decide, by decide⟩, fun _ => by decide, by rw [List.drop_zero]; rfl, by rw [List.drop_zero]; rfl⟩⟩
      case round =>
        clear HR
        obtain ⟨m, q, b, hm, rfl, HR, HQ⟩ := hrel
        have z0 := HR.out.g.c0
        have z1 := HR.out.g.c1
        have zf := HR.out.g.fz
        by_cases hmk : m < k
        · cases b
          · go_wp2
            go_roundw
            case rel => exact ⟨m + 1, q, false, by omega, by go_num, HR, Lib.hid HQ.out.skip⟩
            case measure => simp [intOf]; omega
          · obtain ⟨b', o, x, rfl, hx, hxw, hbl, hT⟩ := ROW.out.get (k := m) (by rw [HN.out]; exact hmk)
            have hTr := hT.below HR.out.b (by rw [hn0] at hbl; exact hbl)
            have c2 := hTr.c2
            have hi0 : (0 : Int) ≤ (m : Int) := by omega
            have hi1 : (m : Int) < ((k : Nat) : Int) := by omega
            have ht : ¬ x.t < 1 := HGE.out x (List.mem_of_getElem? (i := m) (by rw [List.getElem?_take_of_lt hmk]; exact hx))
            have HNX := Lib.hid (HQ.out.step hx ht hxw.t)
            obtain ⟨t0, t1⟩ := hxw.t
            have K := Lib.hid (fun W => refLcm_any q x.t HQ.out.u.1 HQ.out.u.2 (by omega) (by omega) W)
            have t0' : 0 ≤ x.t := by omega
            have hwt : IntKind.u64.wrap x.t = x.t := by rw [IntKind.wrap_u64]; omega
            generalize lcmN q x.t = q' at *
            generalize lcmB q x.t = b2 at *
            clear hT hTr hx hxw hbl ht
            go_upto_region 11 with (fail)
            go_region_law (go_simp; go_at_call 41; (with_reducible refine (K.out _).mono ?_); rintro e wb ⟨rfl, hb⟩; have HRB2 := Lib.hid (HR.out.later (show Below wr.heap.size wr wb from by first | exact hb | exact Below.trans (below_drew wr) hb)); have b0 := HRB2.out.g.c0; have b1 := HRB2.out.g.c1; have bz := HRB2.out.g.fz; clear hb)
            all_goals
              have HR3 := Lib.hid (HRB2.out.set q' b2)
              go_wp2
              go_roundw
              case rel => exact ⟨m + 1, q', b2, by omega, by go_num, HR3, HNX⟩
              case measure => simp [intOf]; omega
        · obtain rfl : m = k := by omega
          have HE := Lib.hid (HQ.out.fin (by rw [HN.out]; exact Nat.le_refl _))
          have p0 := HR.out.r.c0
          have p1 := HR.out.r.c1
          have pz := HR.out.r.fz
          go_wp2
          exact bodyPost_ret (results_num rfl _ _ n0 q b rfl (HR.out.r.set q b)) rfl ⟨ret_num (HRN.out.symm.trans HE.out.1) (HRB.out.symm.trans HE.out.2), by first | exact below_set2 HR.out.b (Nat.le_refl _) _ _ | (rw [hn0]; exact below_set2 HR.out.b (Nat.le_refl _) _ _)⟩
end Go.Proofs.Ytghijgpelkjohaa
