/- Encode: raw numbers of jobs. -/
import Derived.Test.YthfiodjhjhpiaaaJArr
namespace Go.Proofs.Ythfiodjhjhpiaaa
open Go.RowKit
set_option linter.unusedVariables false
set_option linter.unusedSimpArgs false

/-! ### What is encoded, plainly -/
def gapI (ts : List Ts) (js : List Fv) (j : Fv) : Int := j.a - soonI ts js j.t
def encA (ts : List Ts) : List Fv → List Fv → List Fv
  | _, [] => []
  | js, j :: r => encJ (gapI ts js j) j :: encA ts (js ++ [j]) r
theorem encA_snoc (ts : List Ts) : ∀ (l js : List Fv) (x : Fv), encA ts js (l ++ [x]) = encA ts js l ++ [encJ (gapI ts (js ++ l) x) x]
  | [], js, x => by simp [encA]
  | j :: r, js, x => by
    rw [List.cons_append, encA, encA, encA_snoc ts r]
    simp
theorem encA_len (ts : List Ts) : ∀ (l js : List Fv), (encA ts js l).length = l.length
  | [], js => rfl
  | j :: r, js => by rw [encA, List.length_cons, encA_len ts r, List.length_cons]
theorem encF_some (ts : List Ts) : ∀ (l js : List Fv), (∀ k x, l[k]? = some x → gapI ts (js ++ l.take k) x < 1048576) → encF ts js l = some (encA ts js l)
  | [], js, _ => rfl
  | j :: r, js, h => by
    have h0 := h 0 j rfl
    rw [List.take_zero, List.append_nil, gapI] at h0
    rw [encF, if_neg (by omega), encF_some ts r (js ++ [j]) (fun k x hx => by
      have := h (k + 1) x (by simpa using hx)
      rw [List.take_succ_cons] at this
      simpa using this)]
    rfl
theorem encF_none (ts : List Ts) : ∀ (l js : List Fv) (k : Nat) (x : Fv), l[k]? = some x → 1048576 ≤ gapI ts (js ++ l.take k) x → encF ts js l = none
  | [], js, k, x, hx, _ => by simp at hx
  | j :: r, js, 0, x, hx, h => by
    obtain rfl : j = x := by simpa using hx
    rw [List.take_zero, List.append_nil, gapI] at h
    rw [encF, if_pos (by omega)]
  | j :: r, js, k + 1, x, hx, h => by
    rw [List.take_succ_cons] at h
    have ih := encF_none ts r (js ++ [j]) k x (by simpa using hx) (by simpa using h)
    rw [encF, ih]
    split <;> rfl
theorem legF_get {ts : List Ts} : ∀ (l pre : List Fv) (k : Nat) (x : Fv), legF ts pre l = true → l[k]? = some x → legJ ts (pre ++ l.take k) x = true
  | [], pre, k, x, _, hx => by simp at hx
  | j :: r, pre, 0, x, h, hx => by
    obtain rfl : j = x := by simpa using hx
    rw [legF, Bool.and_eq_true] at h
    rw [List.take_zero, List.append_nil]
    exact h.1
  | j :: r, pre, k + 1, x, h, hx => by
    rw [legF, Bool.and_eq_true] at h
    have := legF_get r (pre ++ [j]) k x h.2 (by simpa using hx)
    rw [List.take_succ_cons]
    simpa using this
theorem soon_nn {ts : List Ts} (hv : Vs ts) {js : List Fv} (h : ∀ j ∈ js, 0 ≤ j.a) (p : Int) : 0 ≤ soonI ts js p := by
  unfold soonI
  cases hl : lastT js p with
  | none => simp
  | some j =>
    have h1 := h j (lastT_mem hl).1
    have h2 := (hv.tk p).t0
    simp only
    omega
theorem legF_good {ts : List Ts} (hv : Vs ts) : ∀ (l pre : List Fv), (∀ j ∈ pre, 0 ≤ j.t ∧ j.t < ts.length ∧ 0 ≤ j.a ∧ j.a ≤ 35184372088832) → legF ts pre l = true → ∀ j ∈ l, 0 ≤ j.t ∧ j.t < ts.length ∧ 0 ≤ j.a ∧ j.a ≤ 35184372088832
  | [], pre, _, _, j, hj => by simp at hj
  | x :: r, pre, hp, h, j, hj => by
    rw [legF, Bool.and_eq_true] at h
    obtain ⟨⟨t0, t1⟩, ⟨a0, a1⟩, -, -, -⟩ := legJ_parts h.1
    have hs := soon_nn hv (fun j hj => (hp j hj).2.2.1) x.t
    have hx : 0 ≤ x.t ∧ x.t < ts.length ∧ 0 ≤ x.a ∧ x.a ≤ 35184372088832 := by omega
    rcases List.mem_cons.1 hj with rfl | hj
    · exact hx
    · refine legF_good hv r (pre ++ [x]) (fun y hy => ?_) h.2 j hj
      rcases List.mem_append.1 hy with hy | hy
      · exact hp y hy
      · obtain rfl := List.mem_singleton.1 hy
        exact hx
theorem fit_len (q : Int) : ∀ (c : List Int) (left : Int), 0 ≤ left → fitB q left c = true → (c.length : Int) ≤ left
  | [], left, h, _ => h
  | a :: r, left, h, hf => by
    simp only [fitB, Bool.and_eq_true, decide_eq_true_eq] at hf
    have := fit_len q r (left - a) (by omega) hf.2
    simp only [List.length_cons]
    omega
theorem fit_pos (q : Int) : ∀ (c : List Int) (left : Int), fitB q left c = true → ∀ x ∈ c, 1 ≤ x
  | [], left, _, x, hx => by simp at hx
  | a :: r, left, hf, x, hx => by
    simp only [fitB, Bool.and_eq_true, decide_eq_true_eq] at hf
    rcases List.mem_cons.1 hx with rfl | hx
    · exact hf.1.1
    · exact fit_pos q r _ hf.2 x hx
theorem encS_good {ts : List Ts} {js : List Fv} (h : legS ts js = true) : encS ts js = encF ts [] js := by rw [encS, if_pos h]
theorem encS_bad {ts : List Ts} {js : List Fv} (h : legS ts js = false) : encS ts js = none := by rw [encS, h]; rfl

/-! ### One job -/
def EncPost (x : Fv) (w : World) (e : Ending) (w' : World) : Prop :=
  ∃ C cc, e = .returned (fvV x C cc) ∧ CRow w' C cc x.c ∧ (x.c ≠ [] → ∀ a, C = some a → w.heap.size ≤ a.block ∧ ∃ cs fr, w'.heap[a.block]? = some (.cells cs 3 fr)) ∧ Below w.heap.size w w'
structure ES (w wr : World) (v0 v1 v2 v3 : Value) (b4 b5 B : Nat) (v : Value) (pre : List Int) : Prop where
  f4 : FB wr b4 49 (.int .i64 0) (.int .i64 0) (.int .i64 0) (.int .i64 0) (.slice none 0 0)
  f5 : FB wr b5 49 v0 v1 v2 v3 v
  row : wr.ownsRow B 3 1 v pre.length (numL pre)
  wf : ∀ y ∈ pre, in64 y
  bel : Below w.heap.size w wr
  lt : b4 < B ∧ b5 < B
  ge : w.heap.size ≤ b4 ∧ w.heap.size ≤ b5
  ne : b4 ≠ b5
  sz : B ≤ wr.heap.size
theorem fb_off {w w' : World} {b : Nat} {T : TypeId} {v0 v1 v2 v3 v4 : Value} (h : FB w b T v0 v1 v2 v3 v4) {row : Option Nat} {B : Nat} (hg : w.grownBy w' row) (hr : ∀ k, row = some k → B ≤ k) (hb : b < B) : FB w' b T v0 v1 v2 v3 v4 := by
  refine h.kept (X := row.toList) (kept_grown hg (fun k hk => by rw [hk]; simp)) (fun hm => ?_)
  rw [Option.mem_toList] at hm
  have := hr b hm
  omega
theorem ES.mid {w wr w4 : World} {v0 v1 v2 v3 : Value} {b4 b5 B : Nat} {v : Value} {pre : List Int} (h : ES w wr v0 v1 v2 v3 b4 b5 B v pre) (o : Obj) (hg : (wr.alloc o).grownBy w4 v.ownBlock) : FB w4 b5 49 v0 v1 v2 v3 v :=
  fb_off (h.f5.later ((Below.refl _ _).alloc (Nat.le_refl _) o)) hg (fun k hk => (h.row.lt k hk).1) h.lt.2
theorem ES.push {w wr w4 : World} {v0 v1 v2 v3 : Value} {b4 b5 B : Nat} {v v' : Value} {pre : List Int} (h : ES w wr v0 v1 v2 v3 b4 b5 B v pre) (o : Obj) (hg : (wr.alloc o).grownBy w4 v.ownBlock) (y : Int) (hy : in64 y)
    (hown : w4.ownsRow B 3 1 v' (pre.length + 1) (numL pre ++ [.int .i64 y])) : ES w (w4.setCell ⟨b5, 4, none⟩ v') v0 v1 v2 v3 b4 b5 B v' (pre ++ [y]) := by
  have ba : Below wr.heap.size wr (wr.alloc o) := (Below.refl _ _).alloc (Nat.le_refl _) o
  have hr : ∀ k, v.ownBlock = some k → B ≤ k := fun k hk => (h.row.lt k hk).1
  have hs := h.sz
  have hl := h.lt
  have hge := h.ge
  have k5 := (Kept.refl [b5] w4).set b5 4 v' (by simp)
  refine ⟨(fb_off (h.f4.later ba) hg hr hl.1).kept k5 (by rw [List.mem_singleton]; exact h.ne), (h.mid o hg).set v' rfl, ?_, fun z hz => ?_, ?_, hl, hge, h.ne, ?_⟩
  · rw [List.length_append, List.length_singleton, numL_snoc]
    exact k5.row hown (fun k hk hm => by rw [List.mem_singleton] at hm; have := (hown.lt k hk).1; omega)
  · rcases List.mem_append.1 hz with hz | hz
    · exact h.wf z hz
    · obtain rfl := List.mem_singleton.1 hz
      exact hy
  · have hb := h.bel.size
    exact (((h.bel.trans (ba.mono hb)).grown hg (by simp; omega) (fun k hk => by have := hr k hk; omega))).setCell (p := ⟨b5, 4, none⟩) hge.2 v'
  · have := hg.size
    simp only [World.size_alloc] at this
    simp only [World.setCell]
    simp
    omega
set_option maxRecDepth 100000 in
set_option maxHeartbeats 4000000 in
theorem encoded_any (x : Fv) (A : Option Addr) (cap : Nat) (g : Int) (w : World) (hx : FvW x) (hR : CRow w A cap x.c) (hg : in64 g) (hr : in64 (x.r - x.a)) (hk : 1 ≤ x.k) (hc : ∀ y ∈ x.c, 1 ≤ y) (hl : x.c.length ≤ 2147483647) :
    Calls Try.prog 46 #[fvV x A cap, .int .i64 g] w (EncPost (encJ g x) w) := by
  obtain ⟨j0, hj, hy0, hy1, hy2⟩ := info_parts infoI
  obtain ⟨xt, xa, xr, xk, xc⟩ := x
  obtain ⟨ht0, ha0, hr0, hk0⟩ := hx
  simp only at hR hr hk hc hl ht0 ha0 hr0 hk0
  have hk1 := hk0
  have hk0 : (-9223372036854775808 : Int) ≤ xk ∧ xk ≤ 9223372036854775807 := hk0
  have hr : (-9223372036854775808 : Int) ≤ xr - xa ∧ xr - xa ≤ 9223372036854775807 := hr
  have hle := hR.le
  have hmx := hR.mx
  have ROW := Lib.hid hR
  have HC := Lib.hid hc
  have HW := Lib.hid (show in64 xt ∧ in64 g ∧ in64 (xr - xa) ∧ in64 (xk - 1) from ⟨ht0, hg, hr, ⟨by omega, by omega⟩⟩)
  clear hR hc hg
  go_enter Try.func46, Try.ntmps46
  go_upto_region 2 with (fail)
  have F0 := FAt.new w ⟨xt, xa, xr, xk, xc⟩ A cap 40 ⟨ht0, ha0, hr0, hk1⟩ ROW.out
  have b1 : Below w.heap.size w (w.alloc (.cells #[.int .i64 xt, .int .i64 xa, .int .i64 xr, .int .i64 xk, .slice A xc.length cap] 40)) := (Below.refl _ _).alloc (Nat.le_refl _) _
  have s1 : (w.alloc (.cells #[.int .i64 xt, .int .i64 xa, .int .i64 xr, .int .i64 xk, .slice A xc.length cap] 40)).heap.size = w.heap.size + 1 := by simp
  generalize (w.alloc (.cells #[.int .i64 xt, .int .i64 xa, .int .i64 xr, .int .i64 xk, .slice A xc.length cap] 40)) = W1 at *
  have b2 : Below W1.heap.size W1 (W1.alloc (.cells #[.int .i64 0, .int .i64 0, .int .i64 0, .int .i64 0, .slice none 0 0] 49)) := (Below.refl _ _).alloc (Nat.le_refl _) _
  have f2 := FB.new W1 49 (.int .i64 0) (.int .i64 0) (.int .i64 0) (.int .i64 0) (.slice none 0 0)
  have s2 : (W1.alloc (.cells #[.int .i64 0, .int .i64 0, .int .i64 0, .int .i64 0, .slice none 0 0] 49)).heap.size = W1.heap.size + 1 := by simp
  generalize (W1.alloc (.cells #[.int .i64 0, .int .i64 0, .int .i64 0, .int .i64 0, .slice none 0 0] 49)) = W2 at *
  have b3 : Below W2.heap.size W2 (W2.alloc (.cells #[.int .i64 xt, .int .i64 g, .int .i64 (xr - xa), .int .i64 (xk - 1), .slice none 0 0] 49)) := (Below.refl _ _).alloc (Nat.le_refl _) _
  have f3 := FB.new W2 49 (.int .i64 xt) (.int .i64 g) (.int .i64 (xr - xa)) (.int .i64 (xk - 1)) (.slice none 0 0)
  have s3 : (W2.alloc (.cells #[.int .i64 xt, .int .i64 g, .int .i64 (xr - xa), .int .i64 (xk - 1), .slice none 0 0] 49)).heap.size = W2.heap.size + 1 := by simp
  have F3 := Lib.hid ((F0.later b2).later b3)
  have hE : ES w (W2.alloc (.cells #[.int .i64 xt, .int .i64 g, .int .i64 (xr - xa), .int .i64 (xk - 1), .slice none 0 0] 49)) (.int .i64 xt) (.int .i64 g) (.int .i64 (xr - xa)) (.int .i64 (xk - 1)) W1.heap.size W2.heap.size (W2.heap.size + 1) (.slice none 0 0) [] :=
    ⟨f2.later b3, f3, World.ownsRow_nil _ _ _ _, by simp, (b1.trans (b2.mono b1.size)).trans (b3.mono (by omega)), by omega, by omega, by omega, by omega⟩
  rw [s1, s2, s1] at hE
  have HE := Lib.hid hE
  generalize (W2.alloc (.cells #[.int .i64 xt, .int .i64 g, .int .i64 (xr - xa), .int .i64 (xk - 1), .slice none 0 0] 49)) = W3 at *
  obtain ⟨N, hN⟩ : ∃ N, w.heap.size = N := ⟨_, rfl⟩
  rw [hN] at HE F3 ⊢
  clear F0 b1 s1 b2 f2 s2 b3 f3 s3 hE ht0 ha0 hr0 hk1
  obtain ⟨q0, q1, q2, q3, q4⟩ := F3.out.z
  generalize N + 1 + 1 + 1 = B at *
  generalize N + 1 + 1 = b5 at *
  generalize N + 1 = b4 at *
  go_wp2
  go_loopw [23] (fun i wr => ∃ (k : Nat) (v : Value), k ≤ xc.length ∧ i = .int .i64 k ∧ Hid (ES w wr (.int .i64 xt) (.int .i64 g) (.int .i64 (xr - xa)) (.int .i64 (xk - 1)) b4 b5 B v ((xc.take k).map (· - 1)))) (fun i _ => xc.length - (intOf i).toNat)
  case atStart => exact ⟨0, _, Nat.zero_le _, rfl, HE⟩
  case round =>
    obtain ⟨k, v, hk, rfl, hE⟩ := hrel
    by_cases hlt : k < xc.length
    · obtain ⟨b, o, y, rfl, hy, hyw, hbl, hcell⟩ := ROW.out.get hlt
      have hcell := cells_below hE.out.bel _ _ _ hcell
      have hi0 : (0 : Int) ≤ (k : Int) := by omega
      have hi1 : (k : Int) < (xc.length : Int) := by omega
      have hyp := HC.out y (List.mem_of_getElem? hy)
      obtain ⟨yl, yh⟩ := hyw
      obtain ⟨z0, z1, z2, z3, z4⟩ := hE.out.f5.z
      have htk := take_one hy
      have HT : Hid ((xc.take (k + 1)).map (· - 1) = (xc.take k).map (· - 1) ++ [y - 1]) := Lib.hid (by rw [htk, List.map_append]; rfl)
      have hpl : ((xc.take k).map (· - 1)).length = k := by rw [List.length_map, List.length_take]; omega
      have HYW : Hid (in64 (y - 1)) := Lib.hid ⟨by omega, by omega⟩
      generalize (xc.take k).map (· - 1) = pre at *
      have HPL := Lib.hid hpl
      obtain ⟨Av, cv, hvv, -, -⟩ := own_len hE.out.row
      subst hvv
      have hsz := hE.out.sz
      have HC1 := Lib.hid (fun (V : World) => cell_one_new V (.int .i64 (y - 1)) 3)
      clear hy htk hpl
      go_wp2_with (at_builtin; refine wpList_append_own _ rfl _ _ 47 rfl B 3 j0 _ 1 8 Try.underlying47 hj hy0 hy1 hy2 rfl (by decide) _ _ _ rfl (hE.out.row.alloc _) ⟨wr.heap.size, 0, none⟩ 1 1 [.int .i64 (y - 1)] rfl rfl (by simpa using HC1.out wr) (by simp [Value.oneCell']) (by rw [HPL.out]; unfold maxLen; omega) (by rw [HPL.out]; omega) (by simp; omega) ?_; intro v' w4 hown' hgrow hnil'; obtain ⟨A', cap', hv', -, -⟩ := own_len hown'; subst hv'; have hFa := hE.out.mid _ hgrow; obtain ⟨zz0, zz1, zz2, zz3, zz4⟩ := hFa.z; have y4 := hFa.fz 4; have HO := Lib.hid hown'; have HGW := Lib.hid hgrow; clear hown' hgrow hnil' hFa z0 z1 z2 z3 z4)
      go_roundw
      case rel => exact ⟨k + 1, _, by omega, by go_num, by rw [HT.out]; exact Lib.hid (hE.out.push _ HGW.out (y - 1) HYW.out HO.out)⟩
      case measure => simp [intOf]; omega
    · obtain rfl : k = xc.length := by omega
      rw [List.take_length] at hE
      have hgg : decide ((xc.length : Int) < (xc.length : Int)) = false := decide_eq_false (by omega)
      obtain ⟨C, cc, hv, hcl, hC, hCs⟩ := crow_own hE.out.row hE.out.wf
      subst hv
      obtain ⟨z0, z1, z2, z3, z4⟩ := hE.out.f5.z
      obtain ⟨u0, u1, u2, u3, u4⟩ := hE.out.f4.z
      have y0 := hE.out.f4.fz 0
      have y1 := hE.out.f4.fz 1
      have y2 := hE.out.f4.fz 2
      have y3 := hE.out.f4.fz 3
      have y4 := hE.out.f4.fz 4
      have HF4 := Lib.hid (((((hE.out.f4.set (i := 0) (.int .i64 xt) rfl).set (i := 1) (.int .i64 g) rfl).set (i := 2) (.int .i64 (xr - xa)) rfl).set (i := 3) (.int .i64 (xk - 1)) rfl).set (i := 4) (.slice C xc.length cc) rfl)
      have HK4 := Lib.hid ((((((Kept.refl [b4] wr).set b4 0 (.int .i64 xt) (by simp)).set b4 1 (.int .i64 g) (by simp)).set b4 2 (.int .i64 (xr - xa)) (by simp)).set b4 3 (.int .i64 (xk - 1)) (by simp)).set b4 4 (.slice C xc.length cc) (by simp))
      have HCS := Lib.hid hCs
      have HCC := Lib.hid hC
      have HLT := hE.out.lt
      have HGE := Lib.hid hE.out.ge
      have HSZ := Lib.hid hE.out.sz
      have HBL := Lib.hid hE.out.bel
      have HWW := HW
      have HNE := Lib.hid (show (xc.map (· - 1)) ≠ [] → ∀ a, C = some a → B ≤ a.block ∧ ∃ cs fr, wr.heap[a.block]? = some (.cells cs 3 fr) from HCS.out)
      clear hCs hC hcl hE
      go_wp2
      generalize (((((wr.setCell ⟨b4, 0, none⟩ (.int .i64 xt)).setCell ⟨b4, 1, none⟩ (.int .i64 g)).setCell ⟨b4, 2, none⟩ (.int .i64 (xr - xa))).setCell ⟨b4, 3, none⟩ (.int .i64 (xk - 1))).setCell ⟨b4, 4, none⟩ (.slice C xc.length cc)) = W9 at *
      refine bodyPost_ret (results_raw rfl _ _ b4 _ _ _ _ _ rfl HF4.out) rfl ?_
      have hne : (xc.map (· - 1)) ≠ [] → ∀ a, C = some a → a.block ∉ [b4] := fun h a ha hm => by
        have := (HNE.out h a ha).1
        rw [List.mem_singleton] at hm
        omega
      refine ⟨C, cc, by simp [fvV, encJ], HCC.out.kept HK4.out hne, fun h a ha => ?_, ?_⟩
      · obtain ⟨h1, cs, fr, h2⟩ := HNE.out h a ha
        refine ⟨by have := HGE.out; omega, cs, fr, (HK4.out.block a.block (Array.getElem?_eq_some_iff.1 h2).1 (hne h a ha)).trans h2⟩
      · exact HBL.out.trans (HK4.out.below HBL.out.size (by simp; have := HGE.out; omega))
end Go.Proofs.Ythfiodjhjhpiaaa
