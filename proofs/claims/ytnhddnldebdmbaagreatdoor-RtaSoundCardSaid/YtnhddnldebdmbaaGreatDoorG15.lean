/- Texts about the program, one after the other: RBnd, REch, RInt, RCon, RAwk, Door. -/
import Derived.Test.YtnhddnldebdmbaaGreatDoorG14
import Derived.Deep.RegionHeld3
import Derived.Test.YtnhddnldebdmbaaGreatDoorG11
import Derived.Laws.AppendOwn
import Derived.Maps.AppendAt
import Derived.LaidMore
import Derived.Lib.LaidTab
import Derived.Stop.Joined
/- rta.numbers, rta.bound, rta.Bound: the walks. -/
namespace Go.Proofs.YtnhddnldebdmbaaGreatDoor
open Go.RowKit Go.Shelf
set_option linter.unusedVariables false
set_option linter.unusedSimpArgs false
attribute [local go_sem] Oper.semAt_some
def nmW (A : Option Addr) (n cap : Nat) (i v : Int) (w : World) : World := ((w.alloc (.cells #[.slice A n cap] 25)).alloc (.cells #[.int .i64 i] 3)).alloc (.cells #[.int .u64 v] 73)
theorem numbers_any (A : Option Addr) (n cap : Nat) (i v : Int) (w : World) :
    Calls Tryz.prog 25 #[.slice A n cap, .int .i64 i, .int .u64 v] w fun e w' => e = .returned (.func (.func 53) #[] #[.pointer (some ⟨w.heap.size + 2, 0, none⟩), .pointer (some ⟨w.heap.size, 0, none⟩), .pointer (some ⟨w.heap.size + 1, 0, none⟩)]) ∧ w' = nmW A n cap i v w := by
  have hmf : ∀ (fn : Fn) (first cap : Array Value) (w : World), (Instr.makeFunc fn first cap).run Tryz.prog w = .ok (.func fn first cap) w := fun _ _ _ _ => rfl
  unfold nmW
  go_enter Tryz.func25, Tryz.ntmps25
  go_wp2
  go_ret
  simp [World.size_alloc]
theorem nm_made {A : Option Addr} {cap k : Nat} {l : List Ts} {v : Int} {w : World} (hR : Row w A cap l) (hT : Tab w) :
    NmS (nmW A l.length cap (k : Int) v w) A cap l k w.heap.size (w.heap.size + 1) ∧ Boxed (nmW A l.length cap (k : Int) v w) (w.heap.size + 2) 73 (.int .u64 v) ∧ Below w.heap.size w (nmW A l.length cap (k : Int) v w) ∧ (nmW A l.length cap (k : Int) v w).heap.size = w.heap.size + 3 := by
  have hb : Below w.heap.size w (nmW A l.length cap (k : Int) v w) := (((Below.refl _ _).alloc (Nat.le_refl _) _).alloc (by simp) _).alloc (by simp; omega) _
  refine ⟨⟨Boxed.alloc (Boxed.alloc (Boxed.new _ _ _) _) _, ?_, hR.later hb, hT.below hb⟩, ?_, hb, by simp [nmW]⟩
  · have := Boxed.alloc (Boxed.new (w.alloc (.cells #[.slice A l.length cap] 25)) 3 (.int .i64 (k : Int))) (.cells #[.int .u64 v] 73)
    rwa [World.size_alloc] at this
  · have := Boxed.new ((w.alloc (.cells #[.slice A l.length cap] 25)).alloc (.cells #[.int .i64 (k : Int)] 3)) 73 (.int .u64 v)
    rwa [World.size_alloc, World.size_alloc] at this
theorem leall_mem {N : Int → Int} (h : Rises N) {M : Int} : ∀ (f : Nat) (v : Int), 0 ≤ v → LeAll N M v → ∀ x ∈ eachF N M f v, 0 ≤ x ∧ LeAll N M x
  | 0, v, h0, hl, x, hx => by
    obtain rfl : x = v := by simpa [eachF] using hx
    exact ⟨h0, hl⟩
  | f + 1, v, h0, hl, x, hx => by
    rw [each_head, eachT] at hx
    rcases List.mem_cons.1 hx with rfl | hx
    · exact ⟨h0, hl⟩
    · split at hx
      · cases hx
      · exact leall_mem h f (N v) (by have := h.pos h0; omega) (leall_next h h0 hl) x hx
/-- What the loop knows. -/
structure BnS (w : World) (b o cap : Nat) (l : List Ts) (k : Nat) (r e : Int) (V : World) : Prop where
  lx : Boxed V w.heap.size 25 (.slice (some ⟨b, o, none⟩) l.length cap)
  ix : Boxed V (w.heap.size + 1) 3 (.int .i64 (k : Int))
  rx : Boxed V (w.heap.size + 2) 2 (.int .i64 r)
  ex : Boxed V (w.heap.size + 3) 34 (.int .i64 e)
  r_ : Row V (some ⟨b, o, none⟩) cap l
  t : Tab V
  b_ : Below w.heap.size w V
section
variable {w V V' : World} {b o cap k : Nat} {l : List Ts} {r e : Int}
theorem BnS.later (h : BnS w b o cap l k r e V) (hb : Below V.heap.size V V') : BnS w b o cap l k r e V' := ⟨boxed_later2 h.lx hb, boxed_later2 h.ix hb, boxed_later2 h.rx hb, boxed_later2 h.ex hb, h.r_.later hb, h.t.below hb, h.b_.trans (hb.mono h.b_.size)⟩
theorem BnS.own {row : Option Nat} {D : Nat} (h : BnS w b o cap l k r e V) (hg : V.grownBy V' row) (hr : ∀ r, row = some r → D ≤ r ∧ ∃ o : Obj, V.heap[r]? = some o ∧ o.isCells = false) (hB : w.heap.size ≤ D) : BnS w b o cap l k r e V' :=
  have hk := keepG_grown hg (fun r e => (hr r e).2)
  have nc := fun r e => (hr r e).2
  ⟨boxed_kept h.lx hg nc, boxed_kept h.ix hg nc, boxed_kept h.rx hg nc, boxed_kept h.ex hg nc, h.r_.keepG hk (fun _ _ _ _ => trivial), hk.tab h.t (fun _ => trivial), h.b_.grown hg h.b_.size (fun k e => by have := (hr k e).1; omega)⟩
theorem BnS.setR (h : BnS w b o cap l k r e V) (hb : b < w.heap.size) (ht : 0 < w.heap.size) (u : Int) : BnS w b o cap l k u e (V.setCell ⟨w.heap.size + 2, 0, none⟩ (.int .i64 u)) :=
  have hk := p1_set h.rx (.int .i64 u)
  ⟨Boxed.other h.lx (by omega) _, Boxed.other h.ix (by omega) _, Boxed.set _ h.rx, Boxed.other h.ex (by omega) _, h.r_.keepG hk (fun b' o' e T => .inl (by cases e; omega)), hk.tab h.t (fun T => .inl (by omega)), h.b_.setCell (p := ⟨w.heap.size + 2, 0, none⟩) (by show w.heap.size ≤ w.heap.size + 2; omega) _⟩
theorem BnS.setE (h : BnS w b o cap l k r e V) (hb : b < w.heap.size) (ht : 0 < w.heap.size) (u : Int) : BnS w b o cap l k r u (V.setCell ⟨w.heap.size + 3, 0, none⟩ (.int .i64 u)) :=
  have hk := p1_set h.ex (.int .i64 u)
  ⟨Boxed.other h.lx (by omega) _, Boxed.other h.ix (by omega) _, Boxed.other h.rx (by omega) _, Boxed.set _ h.ex, h.r_.keepG hk (fun b' o' e T => .inl (by cases e; omega)), hk.tab h.t (fun T => .inl (by omega)), h.b_.setCell (p := ⟨w.heap.size + 3, 0, none⟩) (by show w.heap.size ≤ w.heap.size + 3; omega) _⟩
end
/-- The bound so far. -/
def rOf (j : Int) (pre : List Int) : Int := match pre.getLast? with | none => 0 | some v => v + j
theorem rOf_snoc (j : Int) (pre : List Int) (v : Int) : rOf j (pre ++ [v]) = v + j := by unfold rOf; rw [List.getLast?_append]; rfl
/-- Blocks that a round keeps: all but two. -/
def P2 (B k : Nat) (T : TypeId) : Prop := k ≠ B ∧ k ≠ B + 1
theorem p2_set0 (B : Nat) (V : World) (u : Value) : KeepG (P2 B) V (V.setCell ⟨B, 0, none⟩ u) := KeepG.setCell u fun cs T fr _ hp => hp.1 rfl
theorem p2_set1 (B : Nat) (V : World) (u : Value) : KeepG (P2 B) V (V.setCell ⟨B + 1, 0, none⟩ u) := KeepG.setCell u fun cs T fr _ hp => hp.2 rfl
set_option maxRecDepth 100000 in
set_option maxHeartbeats 8000000 in
theorem bound_in (b o cap : Nat) (l : List Ts) (k : Nat) (y : Ts) (w : World) (hR : Row w (some ⟨b, o, none⟩) cap l) (hc : (chkAll l).2 = 0) (hy : l[k]? = some y) (hT : Tab w) :
    Calls Tryz.prog 19 #[.slice (some ⟨b, o, none⟩) l.length cap, .int .i64 (k : Int)] w fun e w' => e = .returned (.tuple #[.int .i64 (boundI l (k : Int)).1, .int .i64 (boundI l (k : Int)).2]) ∧ Below w.heap.size w w' := by
  have hk : k < l.length := (List.getElem?_eq_some_iff.1 hy).1
  have hm := mOf_get hc hy
  have hbl : b < w.heap.size := by
    obtain ⟨b', o', x, e, _, _, h, _⟩ := hR.get hk
    cases e; exact h
  have htab := hT.pos
  have hj0 := ((vs_of hc).all y (List.mem_of_getElem? hy)).j0
  have hj1 := ((vs_of hc).all y (List.mem_of_getElem? hy)).j1
  have hb1 : Below w.heap.size w ((((w.alloc (.cells #[.slice (some ⟨b, o, none⟩) l.length cap] 25)).alloc (.cells #[.int .i64 (k : Int)] 3)).alloc (.cells #[.int .i64 0] 2)).alloc (.cells #[.int .i64 0] 34)) := ((((Below.refl _ _).alloc (Nat.le_refl _) _).alloc (by simp) _).alloc (by simp; omega) _).alloc (by simp; omega) _
  obtain ⟨W1, hW1, X1, s1⟩ : ∃ W1, (((w.alloc (.cells #[.slice (some ⟨b, o, none⟩) l.length cap] 25)).alloc (.cells #[.int .i64 (k : Int)] 3)).alloc (.cells #[.int .i64 0] 2)).alloc (.cells #[.int .i64 0] 34) = W1 ∧ BnS w b o cap l k 0 0 W1 ∧ W1.heap.size = w.heap.size + 4 := by
    refine ⟨_, rfl, ⟨?_, ?_, ?_, ?_, hR.later hb1, hT.below hb1, hb1⟩, by simp⟩
    · exact Boxed.alloc (Boxed.alloc (Boxed.alloc (Boxed.new _ _ _) _) _) _
    · have := Boxed.alloc (Boxed.alloc (Boxed.new (w.alloc (.cells #[.slice (some ⟨b, o, none⟩) l.length cap] 25)) 3 (.int .i64 (k : Int))) (.cells #[.int .i64 0] 2)) (.cells #[.int .i64 0] 34)
      rwa [World.size_alloc] at this
    · have := Boxed.alloc (Boxed.new ((w.alloc (.cells #[.slice (some ⟨b, o, none⟩) l.length cap] 25)).alloc (.cells #[.int .i64 (k : Int)] 3)) 2 (.int .i64 0)) (.cells #[.int .i64 0] 34)
      rwa [World.size_alloc, World.size_alloc] at this
    · have := Boxed.new (((w.alloc (.cells #[.slice (some ⟨b, o, none⟩) l.length cap] 25)).alloc (.cells #[.int .i64 (k : Int)] 3)).alloc (.cells #[.int .i64 0] 2)) 34 (.int .i64 0)
      rwa [World.size_alloc, World.size_alloc, World.size_alloc] at this
  have KS := Lib.hid (fun V h1 h2 => start_any b o cap l k y V h1 hc hy h2)
  have KM := Lib.hid (fun V => most_any y V (by omega) (by omega))
  have HW1 := Lib.hid hW1
  have HSL := start_le hc hy
  have HSU := (start_U hc hy).1
  have HZ := Lib.hid (And.intro hbl htab)
  have HCY := Lib.hid (And.intro hc hy)
  obtain ⟨s, hs⟩ : ∃ s, startI l k y = s := ⟨_, rfl⟩
  rw [hs] at KS HSL HSU
  have KNB := Lib.hid (fun V => numbers_any (some ⟨b, o, none⟩) l.length cap (k : Int) s V)
  have HLS := Lib.hid (And.intro HSU HSL)
  have HR9 := Lib.hid (need_rises (isB_at hc hy))
  clear hR hT hb1 hW1 HSL HSU hs hbl htab
  refine (callsIn_wide (n := 8)).1 ?_
  refine callsIn_of_wp_marks Tryz.func19 rfl trivial ?_ rfl
  simp only [Tryz.ntmps19, List.size_toArray, List.length_cons, List.length_nil, Nat.reduceAdd, Nat.reduceSub, Array.replicate_succ, Array.replicate_zero, List.push_toArray, List.append_toArray, List.nil_append, List.cons_append]
  refine wpIn_wide.2 ?_
  go_upto_region 1 with (fail)
  refine wp_scope_straight ?_
  go_wp2
  refine wp_label ?_
  go_upto_region 2 with (fail)
  rw [HW1.out]
  clear HW1
  have HX := Lib.hid (X1.later (below_drew W1))
  have HX3 : Hid (w.heap.size + 4 ≤ W1.drew.heap.size) := Lib.hid (by rw [← s1]; exact (below_drew W1).size)
  clear X1
  go_region_held3 (fun W => W.cell? ⟨w.heap.size, 0, none⟩ = some (.slice (some ⟨b, o, none⟩) l.length cap) ∧ W.cell? ⟨w.heap.size + 1, 0, none⟩ = some (.int .i64 (k : Int)))
    (first | (with_reducible assumption) | exact ⟨HX.out.lx.cell, HX.out.ix.cell⟩ | fail)
    (first
    | (go_at_call 26; (with_reducible refine (KS.out _ HX.out.r_ HX.out.t).mono ?_); rintro e w2 ⟨rfl, h⟩; have HX2 := Lib.hid (show w.heap.size + 4 ≤ w2.heap.size by have := h.size; have := HX3.out; omega); have HX := Lib.hid (HX.out.later h); clear h)
    | (go_at_call 25; (with_reducible refine (KNB.out _).mono ?_); rintro e w3 ⟨rfl, rfl⟩; obtain ⟨HN1, HN2, HN3, HN4⟩ := nm_made (k := k) (v := s) HX.out.r_ HX.out.t; have HX := Lib.hid (HX.out.later HN3); have HN := Lib.hid (And.intro HN1 (And.intro HN2 HN4)); clear HN1 HN2 HN3 HN4)
    | fail)
  obtain ⟨W3, hW3⟩ : ∃ W3, nmW (some ⟨b, o, none⟩) l.length cap (k : Int) s w2 = W3 := ⟨_, rfl⟩
  rw [hW3] at HX HN ⊢
  obtain ⟨B2, hB2⟩ : ∃ B2, w2.heap.size = B2 := ⟨_, rfl⟩
  have hw2 : w.heap.size + 4 ≤ B2 := by
    have h1 := HX2.out
    rw [hB2] at h1
    exact h1
  rw [hB2] at HN ⊢
  clear hW3 hB2 HX2
  have hbl := HZ.out.1
  have htab := HZ.out.2
  have HP : Hid (NmK (P2 (w.heap.size + 2)) (some ⟨b, o, none⟩) B2 (B2 + 1)) := Lib.hid ⟨fun _ => ⟨by omega, by omega⟩, fun _ => ⟨by omega, by omega⟩, fun _ => ⟨by omega, by omega⟩, fun b' o' e _ => by cases e; exact ⟨by omega, by omega⟩⟩
  have SQ := Lib.hid (numbers1_seq (8 - 1) (by omega) (some ⟨b, o, none⟩) cap l k y s (B2 + 2) B2 (B2 + 1) (P2 (w.heap.size + 2)) W3 HN.out.1 HN.out.2.1 HP.out HCY.out.1 HCY.out.2 HLS.out.1 HLS.out.2 (mOf l (k : Int) + 1) (by have := HLS.out.1.1; omega))
  have hws := HN.out.2.2
  obtain ⟨M, hM⟩ : ∃ M, y.d - y.j = M := ⟨_, rfl⟩
  have hM0 : 0 ≤ M ∧ M ≤ 2147483647 := by omega
  have HMM := Lib.hid hM
  have HMM2 : Hid ((mOf l (k : Int) : Nat) = M) := Lib.hid (by omega)
  have HLS2 : Hid (LeAll (needI l (k : Int)) ((mOf l (k : Int) : Nat) : Int) s) := Lib.hid (by rw [HMM2.out, ← hM]; exact HLS.out.2)
  rw [hM] at SQ KM
  obtain ⟨L, hL⟩ : ∃ L, eachF (needI l (k : Int)) M (mOf l (k : Int) + 1) s = L := ⟨_, rfl⟩
  rw [hL] at SQ
  have HLL := Lib.hid hL
  clear hL hM hm hc hy HN HP
  go_wp2
  refine (wpIn_wide (n := 8)).1 ?_
  refine wpIn_named fun fr hfr => ?_
  refine rangeG (vals := numU) (gf := 53) (lb := #[.pointer (some ⟨B2 + 2, 0, none⟩), .pointer (some ⟨B2, 0, none⟩), .pointer (some ⟨B2 + 1, 0, none⟩)]) (by rw [hfr]; rfl) (enters_of Tryz.func53 (by kernel_rfl) rfl)
    SQ.out (Below.refl _ _) (fun x => rfl)
    (fun pre V => BnS w b o cap l k (rOf y.j pre) 0 V ∧ ∀ x ∈ pre, x ≤ M) (fun c pre V => c = .exit 0 ∧ BnS w b o cap l k 0 16 V ∧ ∃ x ∈ pre, M < x)
    (fun pre X Y row h hg hr => ⟨h.1.own hg hr (by omega), h.2⟩) (fun c pre X Y row h hg hr => ⟨h.1, h.2.1.own hg hr (by omega), h.2.2⟩) ⟨HX.out, fun _ h => by cases h⟩
    (fun x a' V => a' = { tmps := (fr.tmps.setIfInBounds 15 (.int .u64 x)).setIfInBounds 8 (.int .u64 x), defers := [] })
    (fun x a' _ X Y row hs hg hr => hs)
    ?assign ?body ?done ?stop
  case assign =>
    intro l2 pre x V K hi hK
    subst hfr
    clear SQ
    gi_wp2
    exact hK _ _ (KeepsFrom.refl _ _) (KeepG.refl _ _) hi rfl
  case body =>
    rintro l2 pre x a' V ⟨hi, hle⟩ rfl ⟨r, hr⟩
    have hxm : x ∈ eachF (needI l (k : Int)) M (mOf l (k : Int) + 1) s := by rw [HLL.out, hr]; simp
    have hx0 := (leall_mem HR9.out _ s HLS.out.1.1 (by rw [← HMM.out]; exact HLS.out.2) x hxm).1
    obtain ⟨b', o', z, e, hz, -, hbv, hTz⟩ := hi.r_.get hk
    cases e
    obtain rfl : y = z := by have := HCY.out.2.symm.trans hz; simpa using this
    have c0 := hTz.c0
    have c1 := hTz.c1
    have c2 := hTz.c2
    have c3 := hTz.c3
    have c4 := hTz.c4
    have c5 := hTz.c5
    have c6 := hTz.c6
    have cl := hi.lx.cell
    have ci := hi.ix.cell
    have i0 : (0 : Int) ≤ (k : Int) := by omega
    have i1 : (k : Int) < (l.length : Int) := by omega
    have hcl := hi.r_.le
    have hcm := hi.r_.mx
    have HTz := Lib.hid hTz
    have HI := Lib.hid hi
    have HLE := Lib.hid hle
    by_cases hv : M < x
    · have u1 : decide (x > M) = true := decide_eq_true hv
      have u2 : decide (M < x) = true := decide_eq_true hv
      have HV := Lib.hid hv
      subst hfr
      clear SQ hr hxm hz hTz hi hle hv
      dsimp only [List.setIfInBounds_toArray, List.set_cons_succ, List.set_cons_zero]
      gi_wp2_with (refine ⟨trivial, ?_⟩; gi_at_call 27; refine (CallsIn.inRound l2 (callsIn_wide.2 (KM.out _))).mono ?_; rintro e w5 ⟨rfl, hb⟩; have HI := Lib.hid (HI.out.later hb); have cr := HI.out.rx.cell; have fr1 := HI.out.rx.frozen; have ce := HI.out.ex.cell; have fe := HI.out.ex.frozen; have HKF := Lib.hid (show KeepsFrom W3.heap.size V w5 from keepsFrom_later hb); have HKG := Lib.hid (show KeepG (P2 (w.heap.size + 2)) V w5 from KeepG.below hb); clear hb)
      refine ⟨(HKF.out.trans ((KeepsOthers.setCell _ _ _).from _)).trans ((KeepsOthers.setCell _ _ _).from _), rfl, (HI.out.setR HZ.out.1 HZ.out.2 0).setE HZ.out.1 HZ.out.2 16, x, by simp, HV.out⟩
    · have u1 : decide (x > M) = false := decide_eq_false hv
      have u2 : decide (M < x) = false := decide_eq_false hv
      have w0 : IntKind.i64.wrap x = x := by rw [IntKind.wrap_i64]; omega
      have w1 : IntKind.i64.wrap (x + y.j) = x + y.j := by rw [IntKind.wrap_i64]; omega
      have w1' : wrap64 (x + y.j) = x + y.j := IntWalk.wrap64_in _ (by omega)
      have HV := Lib.hid (show x ≤ M by omega)
      subst hfr
      clear SQ hr hxm hz hTz hi hle hv
      dsimp only [List.setIfInBounds_toArray, List.set_cons_succ, List.set_cons_zero]
      gi_wp2_with (refine ⟨trivial, ?_⟩; gi_at_call 27; refine (CallsIn.inRound l2 (callsIn_wide.2 (KM.out _))).mono ?_; rintro e w5 ⟨rfl, hb⟩; have HI := Lib.hid (HI.out.later hb); have cr := HI.out.rx.cell; have fr1 := HI.out.rx.frozen; have cl := HI.out.lx.cell; have ci := HI.out.ix.cell; have c4 := (HTz.out.later hb).c4; have HKF := Lib.hid (show KeepsFrom W3.heap.size V w5 from keepsFrom_later hb); have HKG := Lib.hid (show KeepG (P2 (w.heap.size + 2)) V w5 from KeepG.below hb); clear hb)
      refine ⟨HKF.out.trans ((KeepsOthers.setCell _ _ _).from _), HKG.out.trans (p2_set0 _ _ _), ?_, fun z hz => ?_⟩
      · rw [rOf_snoc]
        exact HI.out.setR HZ.out.1 HZ.out.2 _
      · rcases List.mem_append.1 hz with hz | hz
        · exact HLE.out z hz
        · rw [List.mem_singleton.1 hz]; exact HV.out
  case done =>
    rintro D V hD ⟨hi, hle⟩ hK
    obtain ⟨z, hz1, hz2⟩ := leall_last HR9.out (mOf l (k : Int)) (mOf l (k : Int) + 1) s HLS.out.1.1 HLS2.out (by have := HLS.out.1.1; omega)
    rw [HMM2.out] at hz1
    have hz3 : L.getLast? = some z := by rw [← HLL.out]; exact hz1
    have hzM : z ≤ M := hle z (List.mem_of_getLast? hz3)
    have HB : Hid (boundI l (k : Int) = (rOf y.j L, 0)) := Lib.hid (by
      rcases hz2 with ⟨h1, _⟩ | ⟨h1, h2, _, h4⟩
      · have := HMM2.out; omega
      · rw [bound_at HCY.out.1 HCY.out.2, h2]
        show (((z.toNat : Nat) : Int) + y.j, (0 : Int)) = _
        unfold rOf
        rw [hz3, show ((z.toNat : Nat) : Int) = z by omega])
    obtain ⟨rr, hrr⟩ : ∃ rr, rOf y.j L = rr := ⟨_, rfl⟩
    rw [hrr] at hi HB
    have cr := hi.rx.cell
    have ce := hi.ex.cell
    have HI := Lib.hid hi
    have HDK := Lib.hid hK
    subst hfr
    clear SQ hi hK hle hz1 hz2 hz3 hzM hrr
    go_upto_region 7 with (fail)
    go_quiet (fail)
    go_wp2
    simp only [Exit.noGoto]
    have hK9 : (V.drewN nq).heap[D]? = some (.deferred (some [])) := HDK.out
    refine ⟨by simp, .inl ⟨_, _, rfl, run_takeDeferred hK9, ?_⟩⟩
    rw [HB.out]
    refine ⟨_, by simp [results, Tryz.f19, go_sem], rfl, (below_drewN HI.out.b_ nq).trans (belowK_b (w := w) (Nat.le_refl _) (V.drewN nq) D _ _ (by omega) hK9 rfl rfl)⟩
  case stop =>
    rintro D c pre x V hD ⟨r, hr⟩ ⟨rfl, hi, q, hq, hqM⟩ hK
    have hql : q ∈ eachF (needI l (k : Int)) M (mOf l (k : Int) + 1) s := by
      rw [HLL.out, hr]
      rcases List.mem_append.1 hq with hq | hq
      · simp [hq]
      · rw [List.mem_singleton.1 hq]; simp
    have hqa := leall_mem HR9.out _ s HLS.out.1.1 (by rw [← HMM.out]; exact HLS.out.2) q hql
    have HB : Hid (boundI l (k : Int) = (0, 16)) := Lib.hid (by
      rw [bound_at HCY.out.1 HCY.out.2, leastF_not (N := needI l (k : Int)) fun u h1 h2 => ?_]
      · rfl
      · have hm2 := HMM2.out
        rcases Int.lt_or_le (u : Int) (needI l (k : Int) u) with h9 | h9
        · exact h9
        · have := hqa.2 u (by omega) (by omega) h9; omega)
    have cr := hi.rx.cell
    have ce := hi.ex.cell
    have HI := Lib.hid hi
    have HDK := Lib.hid hK
    subst hfr
    clear SQ hi hK hr hql hqa hq hqM
    refine wpIn_wide.2 ?_
    go_upto_region 7 with (fail)
    go_quiet (fail)
    go_wp2
    simp only [Exit.noGoto]
    have hK9 : (V.drewN nq).heap[D]? = some (.deferred (some [])) := HDK.out
    refine ⟨by simp, .inl ⟨_, _, rfl, run_takeDeferred hK9, ?_⟩⟩
    rw [HB.out]
    refine ⟨_, by simp [results, Tryz.f19, go_sem], rfl, (below_drewN HI.out.b_ nq).trans (belowK_b (w := w) (Nat.le_refl _) (V.drewN nq) D _ _ (by omega) hK9 rfl rfl)⟩
end Go.Proofs.YtnhddnldebdmbaaGreatDoor
/- rta.Bound, rta.Each. -/
namespace Go.Proofs.YtnhddnldebdmbaaGreatDoor
open Go.RowKit Go.Shelf
set_option linter.unusedVariables false
set_option linter.unusedSimpArgs false
attribute [local go_sem] Oper.semAt_some
set_option maxRecDepth 100000 in
theorem rta_bound (A : Option Addr) (cap : Nat) (l : List Ts) (i : Int) (w : World) (hR : Row w A cap l) (hi : in64 i) (hT : Tab w) :
    Calls Tryz.prog 9 #[.slice A l.length cap, .int .i64 i] w fun e w' => e = .returned (.tuple #[.int .i64 (boundI l i).1, .int .i64 (boundI l i).2]) ∧ Below w.heap.size w w' := by
  have K := Lib.hid (rmay_any A cap l i w hR hi)
  cases hb : isB l i
  · rw [hb] at K
    have e : boundI l i = (0, 1) := by unfold boundI; rw [hb]; rfl
    rw [e]
    clear hb e hR
    generalize l.length = N at *
    go_enter Tryz.func9, Tryz.ntmps9
    go_wp2_with (go_at_call 18; (with_reducible refine K.out.mono ?_); rintro e w1 ⟨rfl, h⟩)
    go_ret2
    exact ⟨rfl, h⟩
  · rw [hb] at K
    obtain ⟨k, y, rfl, hk, hy⟩ := isB_get hb
    obtain ⟨b, o, x, rfl, _, _, _, _⟩ := hR.get hk
    have KB := Lib.hid (fun V (h : Below w.heap.size w V) => bound_in b o cap l k y V (hR.later h) (isB_iff hb).1 hy (hT.below h))
    obtain ⟨⟨br, be⟩, hbr⟩ : ∃ p, boundI l (k : Int) = p := ⟨_, rfl⟩
    rw [hbr] at KB ⊢
    simp only at KB ⊢
    clear hb hbr hR hT hy hk
    generalize l.length = N at *
    go_enter Tryz.func9, Tryz.ntmps9
    go_wp2_with (first
      | (go_at_call 18; (with_reducible refine K.out.mono ?_); rintro e w1 ⟨rfl, h⟩; have HL := Lib.hid h; clear h)
      | (go_at_call 19; (with_reducible refine (KB.out _ HL.out).mono ?_); rintro e w2 ⟨rfl, h⟩; have HL2 := Lib.hid (HL.out.trans (h.mono HL.out.size)); clear h)
      | fail)
    go_ret2
    exact ⟨rfl, HL2.out⟩
def EachP (l : List Ts) (i : Int) (w : World) (e : Ending) (w' : World) : Prop := ∃ (gf : Nat) (lb : Array Value), e = .returned (.func (.func gf) #[] lb) ∧ Below w.heap.size w w' ∧ (∀ args V, (callFunc gf args).run Tryz.prog V = .ok (.enter gf args) V) ∧
  ∀ n, 6 ≤ n → ∀ (N : Nat) (V : World), w'.heap.size ≤ N → Below w'.heap.size w' V → SeqG numU n gf lb (fun k _ => k < N) (eachI l i) V
end Go.Proofs.YtnhddnldebdmbaaGreatDoor
/- Own rows of numbers read as rows of numbers. -/
namespace Go.Proofs.YtnhddnldebdmbaaGreatDoor
open Go.RowKit
set_option linter.unusedVariables false
theorem irow_own {B : Nat} {w : World} {e : TypeId} {v : Value} {ns : List Int} (h : w.ownsRow B e 1 v ns.length (ns.map (Value.int .i64))) : ∃ A cap, v = .slice A ns.length cap ∧ IRowA w A cap ns := by
  obtain ⟨A, cap, hv, hle, hm⟩ := Go.Proofs.YtnhddnldebdmbaaGreatDoor.own_len h
  refine ⟨A, cap, hv, hle, by unfold maxLen at hm; omega, fun k z hz => ?_⟩
  have hk := (List.getElem?_eq_some_iff.1 hz).1
  rcases h.2 with ⟨_, h0⟩ | ⟨g, cap', cur, hv', hB, hh, _⟩
  · omega
  · rw [hv] at hv'
    simp only [Value.slice.injEq] at hv'
    obtain ⟨rfl, _, rfl⟩ := hv'
    have hc := h.cells (g := g) (by rw [hv]; rfl) k (.int .i64 z) (by rw [List.getElem?_map, hz]; rfl)
    rw [add_none, Nat.zero_add] at hc
    exact ⟨g, 0, rfl, (Array.getElem?_eq_some_iff.1 hh).1, by rw [Nat.zero_add]; exact hc⟩
theorem irow_snoc {B : Nat} {w : World} {e : TypeId} {v : Value} {n : Nat} {ns : List Int} {z : Int} (h : w.ownsRow B e 1 v (n + 1) (ns.map (Value.int .i64) ++ [.int .i64 z])) (hn : ns.length = n) : w.ownsRow B e 1 v (ns ++ [z]).length ((ns ++ [z]).map (Value.int .i64)) := by
  rw [List.length_append, List.length_singleton, hn, List.map_append]
  exact h
/-- The bounds, and who has none, one place further. -/
theorem bnds_step (l : List Ts) (n : Nat) : (List.range (n + 1)).map (fun k : Nat => (boundI l (k : Int)).1) = (List.range n).map (fun k : Nat => (boundI l (k : Int)).1) ++ [(boundI l (n : Int)).1] := by
  rw [List.range_succ, List.map_append]; rfl
theorem late_step (l : List Ts) (n : Nat) : ((List.range (n + 1)).filter (fun k : Nat => decide ((boundI l (k : Int)).2 ≠ 0))).map (fun k : Nat => (k : Int)) = ((List.range n).filter (fun k : Nat => decide ((boundI l (k : Int)).2 ≠ 0))).map (fun k : Nat => (k : Int)) ++ (if (boundI l (n : Int)).2 = 0 then [] else [(n : Int)]) := by
  rw [List.range_succ, List.filter_append, List.map_append]
  congr 1
  by_cases h : (boundI l (n : Int)).2 = 0
  · rw [if_pos h]; simp [h]
  · rw [if_neg h]; simp [h]
end Go.Proofs.YtnhddnldebdmbaaGreatDoor
/- rta.All, rta.Tests. -/
namespace Go.Proofs.YtnhddnldebdmbaaGreatDoor
open Go.RowKit
set_option linter.unusedVariables false
set_option linter.unusedSimpArgs false
theorem own_apart {w : World} {B B' : Nat} {e e' : TypeId} {s s' n n' : Nat} {v v' : Value} {xs xs' : List Value} (h : w.ownsRow B e s v n xs) (h' : w.ownsRow B' e' s' v' n' xs') (he : e ≠ e') : v.ownBlock = none ∨ v.ownBlock ≠ v'.ownBlock := by
  rcases h.2 with ⟨rfl, _⟩ | ⟨g, cap, cur, rfl, _, hh, _⟩
  · exact .inl rfl
  · refine .inr fun ee => ?_
    rcases h'.2 with ⟨rfl, _⟩ | ⟨g', cap', cur', rfl, _, hh', _⟩
    · cases ee
    · obtain rfl : g = g' := by simpa [Value.ownBlock] using ee
      rw [hh] at hh'
      cases hh'
      exact he rfl
theorem own_setR {w : World} {B e size n i g : Nat} {v : Value} {xs : List Value} (h : w.ownsRow B e size v n xs) (hg : v.ownBlock = some g) (hi : i < n * size) (u : Value) : (w.setCell ⟨g, i, none⟩ u).ownsRow B e size v n (xs.set i u) := by
  obtain ⟨h1, h2⟩ := h
  rcases h2 with ⟨rfl, _⟩ | ⟨g', cap, cur, rfl, hb, hh, hn, hm, hs, ht⟩
  · simp [Value.ownBlock] at hg
  · simp only [Value.ownBlock, Option.some.injEq] at hg
    subst hg
    refine ⟨by rw [List.length_set]; exact h1, .inr ⟨g', cap, cur.setIfInBounds i u, rfl, hb, ?_, hn, hm, by simpa using hs, ?_⟩⟩
    · rw [setCell_eq_setRow w g' i cur e (0, 0) u hh]
      exact setRow_heap w g' cur _ e _ hh
    · rw [Array.toList_setIfInBounds, ← ht, List.take_set]
theorem infoL : (Tryz.prog.info? 2).map (fun i => (i.zero, i.size, i.bytes)) = some (some (.int .i64 0), 1, 8) := by kernel_rfl
theorem infoIR : (Tryz.prog.info? 3).map (fun i => (i.zero, i.size, i.bytes)) = some (some (.int .i64 0), 1, 8) := by kernel_rfl
def bL (l : List Ts) (n : Nat) : List Int := (List.range n).map (fun k : Nat => (boundI l (k : Int)).1)
def mL (l : List Ts) (n : Nat) : List Int := ((List.range n).filter (fun k : Nat => decide ((boundI l (k : Int)).2 ≠ 0))).map (fun k : Nat => (k : Int))
theorem bL_len (l : List Ts) (n : Nat) : (bL l n).length = n := by simp [bL]
theorem bL_step (l : List Ts) (n : Nat) : bL l (n + 1) = bL l n ++ [(boundI l (n : Int)).1] := bnds_step l n
theorem mL_hit {l : List Ts} {n : Nat} (h : (boundI l (n : Int)).2 ≠ 0) : mL l (n + 1) = mL l n ++ [(n : Int)] := by
  have := late_step l n; rw [if_neg h] at this; exact this
theorem mL_miss {l : List Ts} {n : Nat} (h : (boundI l (n : Int)).2 = 0) : mL l (n + 1) = mL l n := by
  have := late_step l n; rw [if_pos h, List.append_nil] at this; exact this
theorem mL_le (l : List Ts) (n : Nat) : (mL l n).length ≤ n := by
  unfold mL
  rw [List.length_map]
  exact Nat.le_trans (List.length_filter_le _ _) (by simp)
/-- The bounds so far, and noughts. -/
def bR (l : List Ts) (n N : Nat) : List Int := bL l n ++ List.replicate (N - n) 0
theorem bR_len (l : List Ts) {n N : Nat} (h : n ≤ N) : (bR l n N).length = N := by simp [bR, bL_len]; omega
theorem bR_zero (l : List Ts) (N : Nat) : bR l 0 N = List.replicate N 0 := by simp [bR, bL]
theorem bR_full (l : List Ts) (N : Nat) : bR l N N = bL l N := by simp [bR]
theorem bR_step (l : List Ts) {n N : Nat} (h : n < N) : (bR l n N).set n (boundI l (n : Int)).1 = bR l (n + 1) N := by
  unfold bR
  rw [List.set_append_right _ _ (by rw [bL_len]; exact Nat.le_refl _), bL_len, Nat.sub_self, bL_step, show N - n = N - (n + 1) + 1 by omega, List.replicate_succ, List.set_cons_zero, List.append_assoc]
  rfl
structure AlI (l : List Ts) (w : World) (k N g : Nat) (v8 : Value) (wr : World) : Prop where
  b : w.heap.size ≤ wr.heap.size
  r7 : wr.ownsRow w.heap.size 2 1 (.slice (some ⟨g, 0, none⟩) N N) N ((bR l k N).map (Value.int .i64))
  r8 : wr.ownsRow w.heap.size 3 1 v8 (mL l k).length ((mL l k).map (Value.int .i64))
  bel : Lt w wr
theorem one_newI (W : World) (z : Int) (e : TypeId) : ∀ j u, ([Value.int .i64 z])[j]? = some u → (W.alloc (.cells #[.int .i64 z] e)).cell? ((⟨W.heap.size, 0, none⟩ : Addr).add j) = some u := by
  intro j u hj
  rw [add_none, Nat.zero_add, cell_of_row _ _ j _ _ _ (heap_alloc_new W _)]
  simpa using hj
theorem one_oneI (z : Int) : ∀ u ∈ [Value.int .i64 z], u.oneCell' = true := fun u hu => by
  rw [List.mem_singleton] at hu; subst hu; rfl
theorem own_laterI {B : Nat} {w w' : World} {e : TypeId} {s n : Nat} {v : Value} {xs : List Value} (h : w.ownsRow B e s v n xs) (hb : Below w.heap.size w w') : w'.ownsRow B e s v n xs := by
  obtain ⟨h1, h2⟩ := h
  refine ⟨h1, ?_⟩
  rcases h2 with h2 | ⟨g, cap, cur, hv, hg2, hh, r⟩
  · exact .inl h2
  · exact .inr ⟨g, cap, cur, hv, hg2, (hb.block g (Array.getElem?_eq_some_iff.1 hh).1).trans hh, r⟩
theorem own_setI {B B' : Nat} {w : World} {e e' : TypeId} {s n i g N : Nat} {v u : Value} {xs ys : List Value} (h : w.ownsRow B e s v n xs) (h7 : w.ownsRow B' e' 1 (.slice (some ⟨g, 0, none⟩) N N) N ys) (he : e ≠ e') : (w.setCell ⟨g, i, none⟩ u).ownsRow B e s v n xs := by
  have hne := own_apart h h7 he
  obtain ⟨h1, h2⟩ := h
  refine ⟨h1, ?_⟩
  rcases h2 with h2 | ⟨g', cap, cur, rfl, hg2, hh, r⟩
  · exact .inl h2
  · refine .inr ⟨g', cap, cur, rfl, hg2, (heap_setCell_other w ⟨g, i, none⟩ g' u (fun e => ?_)).trans hh, r⟩
    rcases hne with hne | hne
    · cases hne
    · exact hne (by rw [show g' = g from e]; rfl)
theorem AlI.later {l : List Ts} {w wr w' : World} {k N g : Nat} {v8 : Value} (h : AlI l w k N g v8 wr) (hb : Below wr.heap.size wr w') : AlI l w k N g v8 w' :=
  ⟨Nat.le_trans h.b hb.size, own_laterI h.r7 hb, own_laterI h.r8 hb, lt_step _ _ h.bel hb⟩
theorem AlI.cell {l : List Ts} {w wr : World} {k N g : Nat} {v8 : Value} (h : AlI l w k N g v8 wr) (hk : k < N) : wr.cell? ⟨g, k, none⟩ = some (.int .i64 ((bR l k N).getD k 0)) ∧ (∀ i, wr.frozen? ⟨g, i, none⟩ = false) ∧ w.heap.size ≤ g := by
  have hc := h.r7.cells (g := g) rfl k (.int .i64 ((bR l k N).getD k 0)) (by
    rw [List.getElem?_map, List.getD_eq_getElem?_getD, List.getElem?_eq_getElem (by rw [bR_len l (Nat.le_of_lt hk)]; exact hk)]; rfl)
  rw [add_none, Nat.zero_add] at hc
  rcases h.r7.2 with ⟨hv, _⟩ | ⟨g', cap, cur, hv, hg2, hh, _⟩
  · cases hv
  · simp only [Value.slice.injEq, Option.some.injEq, Addr.mk.injEq] at hv
    obtain ⟨⟨rfl, _, _⟩, _⟩ := hv
    exact ⟨hc, fun i => by simp [World.frozen?, hh], hg2⟩
/-- One bound is put down. -/
theorem AlI.put {l : List Ts} {w wr : World} {k N g : Nat} {v8 : Value} {br : Int} (h : AlI l w k N g v8 wr) (hk : k < N) (hb : (boundI l (k : Int)).1 = br) (hm : mL l (k + 1) = mL l k) : AlI l w (k + 1) N g v8 (wr.setCell ⟨g, k, none⟩ (.int .i64 br)) := by
  have hg := (h.cell hk).2.2
  refine ⟨by simpa [World.setCell] using h.b, ?_, ?_, Below.setCell h.bel hg _⟩
  · rw [← bR_step l hk, List.map_set, hb]
    exact own_setR h.r7 rfl (by omega) _
  · rw [hm]
    exact own_setI h.r8 h.r7 (by decide)
/-- The same where one more is late. -/
structure AlJ (l : List Ts) (w : World) (k N g : Nat) (v8 : Value) (wr : World) : Prop where
  b : w.heap.size ≤ wr.heap.size
  r7 : wr.ownsRow w.heap.size 2 1 (.slice (some ⟨g, 0, none⟩) N N) N ((bR l k N).map (Value.int .i64))
  r8 : wr.ownsRow w.heap.size 3 1 v8 (mL l (k + 1)).length ((mL l (k + 1)).map (Value.int .i64))
  bel : Lt w wr
theorem AlJ.cell {l : List Ts} {w wr : World} {k N g : Nat} {v8 : Value} (h : AlJ l w k N g v8 wr) (hk : k < N) : wr.cell? ⟨g, k, none⟩ = some (.int .i64 ((bR l k N).getD k 0)) ∧ (∀ i, wr.frozen? ⟨g, i, none⟩ = false) ∧ w.heap.size ≤ g := by
  have hc := h.r7.cells (g := g) rfl k (.int .i64 ((bR l k N).getD k 0)) (by
    rw [List.getElem?_map, List.getD_eq_getElem?_getD, List.getElem?_eq_getElem (by rw [bR_len l (Nat.le_of_lt hk)]; exact hk)]; rfl)
  rw [add_none, Nat.zero_add] at hc
  rcases h.r7.2 with ⟨hv, _⟩ | ⟨g', cap, cur, hv, hg2, hh, _⟩
  · cases hv
  · simp only [Value.slice.injEq, Option.some.injEq, Addr.mk.injEq] at hv
    obtain ⟨⟨rfl, _, _⟩, _⟩ := hv
    exact ⟨hc, fun i => by simp [World.frozen?, hh], hg2⟩
theorem AlJ.put {l : List Ts} {w wr : World} {k N g : Nat} {v8 : Value} {br : Int} (h : AlJ l w k N g v8 wr) (hk : k < N) (hb : (boundI l (k : Int)).1 = br) : AlI l w (k + 1) N g v8 (wr.setCell ⟨g, k, none⟩ (.int .i64 br)) := by
  have hg := (h.cell hk).2.2
  refine ⟨by simpa [World.setCell] using h.b, ?_, own_setI h.r8 h.r7 (by decide), Below.setCell h.bel hg _⟩
  rw [← bR_step l hk, List.map_set, hb]
  exact own_setR h.r7 rfl (by omega) _
def evL (l : List Ts) (n : Nat) : Int := if mL l n = [] then 0 else 16
theorem evL_hit {l : List Ts} {n : Nat} (h : (boundI l (n : Int)).2 ≠ 0) : evL l (n + 1) = 16 := by unfold evL; rw [mL_hit h, if_neg (by simp)]
theorem bound_late {l : List Ts} {k : Nat} (hc : (chkAll l).2 = 0) (hk : k < l.length) (h : (boundI l (k : Int)).2 ≠ 0) : (boundI l (k : Int)).2 = 16 := by
  rw [bound_at hc (List.getElem?_eq_getElem hk)] at h ⊢
  cases hl : leastF (needI l (k : Int)) (mOf l (k : Int)) with
  | none => rfl
  | some u => rw [hl] at h; exact absurd rfl h
set_option maxRecDepth 100000 in
set_option maxHeartbeats 8000000 in
theorem rta_all (A : Option Addr) (cap : Nat) (l : List Ts) (w : World) (hR : Row w A cap l) (hT : Tab w) :
    Calls Tryz.prog 10 #[.slice A l.length cap] w (AllP l w) := by
  have K := Lib.hid (rmay_any A cap l 0 w hR ⟨by decide, by decide⟩)
  have hle := hR.le
  have hmx := hR.mx
  by_cases hc : (chkAll l).2 = 0
  · have hn1 := (vs_of hc).n1
    have hn0 := (vs_of hc).n0
    have hb0 : isB l 0 = true := isB_at (k := 0) hc (List.getElem?_eq_getElem (show 0 < l.length by omega))
    rw [hb0] at K
    have hlen : l.length ≤ 1024 := by omega
    obtain ⟨b, o, _, rfl, _, _, _, _⟩ := hR.get (show 0 < l.length by omega)
    have KB := Lib.hid (fun W (h : Lt w W) (k : Nat) (hk : k < l.length) => bound_in b o cap l k l[k] W (hR.later h) hc (List.getElem?_eq_getElem hk) (hT.below h))
    have HLT := Lib.hid (fun (k : Nat) (hk : k < l.length) h => bound_late (k := k) hc hk h)
    obtain ⟨iL, hL1, hL2, hL3, hL4⟩ := info_parts infoL
    obtain ⟨iI, hI1, hI2, hI3, hI4⟩ := info_parts infoIR
    have HC := Lib.hid hc
    generalize hN : l.length = N at *
    have HN := Lib.hid hN
    clear hc hR hT hN hb0 hn1 hn0
    go_enter Tryz.func10, Tryz.ntmps10
    go_upto_region 3 with (go_at_call 18; (with_reducible refine K.out.mono ?_); rintro e w1 ⟨rfl, h⟩; have HL := Lib.hid (show Lt w w1 from h); clear h)
    go_upto_region 4 with (at_make; refine wpList_make_full _ rfl _ _ 31 rfl w.heap.size 2 iL _ 1 Tryz.underlying31 hL1 hL2 hL3 .i64 .i64 _ _ N rfl rfl rfl rfl (by rw [hL4]; omega) (by unfold maxLen; omega) (Below.size HL.out) ?_; intro w3 hown hgrow; have HI := Lib.hid (show AlI l w 0 N w1.heap.size (.slice none 0 0) w3 from ⟨Nat.le_trans (Below.size HL.out) hgrow.size, (by rw [bR_zero, List.map_replicate]; rw [show (Value.int IntKind.i64 0).cells = #[Value.int IntKind.i64 0] from rfl, toList_madeCells_one, Nat.mul_one] at hown; exact hown), World.ownsRow_nil _ _ _ _, Below.grown HL.out hgrow (Below.size HL.out) (fun q hq => by cases hq)⟩); clear hown hgrow)
    obtain ⟨g, hg⟩ : ∃ g, w1.heap.size = g := ⟨_, rfl⟩
    rw [hg] at HI ⊢
    clear hg
    go_wp2
    go_loopw [6, 7, 19] (fun v6 v7 i wr => ∃ k : Nat, k ≤ N ∧ i = .int .i64 (k : Int) ∧ v7 = .int .i64 (evL l k) ∧ Hid (AlI l w k N g v6 wr)) (fun _ _ i _ => N - (intOf i).toNat)
    case atStart => exact ⟨0, Nat.zero_le _, rfl, rfl, HI⟩
    case round =>
      clear HI
      obtain ⟨k, hk, rfl, rfl, HI⟩ := hrel
      obtain ⟨A8, c8, hv8, hl8, hm8⟩ := Go.Proofs.YtnhddnldebdmbaaGreatDoor.own_len HI.out.r8
      have hml := mL_le l k
      obtain ⟨q, hq⟩ : ∃ q, (mL l k).length = q := ⟨_, rfl⟩
      rw [hq] at hv8 hl8 hml
      have HQ := Lib.hid hq
      subst hv8
      clear hq
      by_cases hlt : k < N
      · have d1 : decide ((k : Int) < (N : Int)) = true := decide_eq_true (by omega)
        have KBk := Lib.hid (fun W h => KB.out W h k hlt)
        obtain ⟨⟨br, be⟩, hbr⟩ : ∃ p, boundI l (k : Int) = p := ⟨_, rfl⟩
        rw [hbr] at KBk
        simp only at KBk
        have HBR := Lib.hid hbr
        have HII := Lib.hid hlt
        have HWK := Lib.hid (w64 (z := (k : Int) + 1) (by omega) (by omega))
        have i0 : (0 : Int) ≤ (k : Int) := by omega
        have i1 : (k : Int) < (N : Int) := by omega
        clear hbr
        by_cases h0 : be = 0
        · subst h0
          have HM : Hid (mL l (k + 1) = mL l k) := Lib.hid (mL_miss (by rw [HBR.out]))
          go_upto_region 10 with (go_at_call 19; (with_reducible refine (KBk.out _ HI.out.bel).mono ?_); rintro e w5 ⟨rfl, h⟩; have HI := Lib.hid (HI.out.later h); clear h)
          obtain ⟨cc, cf, cg⟩ := HI.out.cell HII.out
          have cf := cf k
          generalize (bR l k N).getD k 0 = z0 at cc
          obtain ⟨hw1, hw1'⟩ := HWK.out
          go_wp2
          clear hw1 hw1'
          go_roundw
          case rel =>
            refine ⟨k + 1, by have := HII.out; omega, by go_num, by unfold evL; rw [HM.out], Lib.hid (HI.out.put HII.out (by rw [HBR.out]) HM.out)⟩
          case measure => have := HII.out; simp [intOf]; omega
        · have t0 : (be != 0) = true := by simpa using h0
          have HM : Hid (mL l (k + 1) = mL l k ++ [(k : Int)]) := Lib.hid (mL_hit (by rw [HBR.out]; exact h0))
          have hbe : be = 16 := by have := HLT.out k HII.out (by rw [HBR.out]; exact h0); rw [HBR.out] at this; exact this
          subst hbe
          have HEV : Hid (evL l (k + 1) = 16) := Lib.hid (evL_hit (by rw [HBR.out]; exact h0))
          clear h0
          go_upto_region 9 with (go_at_call 19; (with_reducible refine (KBk.out _ HI.out.bel).mono ?_); rintro e w5 ⟨rfl, h⟩; have HI := Lib.hid (HI.out.later h); clear h)
          go_upto_region 10 with (at_builtin; refine wpList_append_own _ rfl _ _ 42 rfl w.heap.size 3 iI _ 1 8 Tryz.underlying42 hI1 hI2 hI3 hI4 rfl (by decide) _ q ((mL l k).map (Value.int .i64)) rfl (by have := (HI.out.r8.alloc (.cells #[.int .i64 (k : Int)] 3)); rw [HQ.out] at this; exact this) ⟨w5.heap.size, 0, none⟩ 1 1 [.int .i64 (k : Int)] rfl rfl (one_newI _ _ _) (one_oneI _) (by unfold maxLen; omega) (by omega) (by have := HI.out.b; simp; omega) ?_; intro v8' w6 hown8 hgrow8 hnil8)
          have hb6 : Below w.heap.size w w6 := (((show Below w.heap.size w w5 from HI.out.bel).alloc HI.out.b _).grown hgrow8 (by have := HI.out.b; simp; omega) (fun q hq => (HI.out.r8.lt q hq).1))
          have h7 := HI.out.r7.alloc (.cells #[.int .i64 (k : Int)] 3)
          have HJ := Lib.hid (show AlJ l w k N g v8' w6 from ⟨hb6.size, h7.kept hgrow8 (own_apart h7 (HI.out.r8.alloc (.cells #[.int .i64 (k : Int)] 3)) (by decide)), by rw [HM.out]; exact irow_snoc hown8 HQ.out, hb6⟩)
          clear hown8 hgrow8 hnil8 hb6 h7
          obtain ⟨cc, cf, cg⟩ := HJ.out.cell HII.out
          have cf := cf k
          generalize (bR l k N).getD k 0 = z0 at cc
          obtain ⟨hw1, hw1'⟩ := HWK.out
          go_wp2
          clear hw1 hw1'
          go_roundw
          case rel =>
            refine ⟨k + 1, by have := HII.out; omega, by go_num, by rw [HEV.out], Lib.hid (HJ.out.put HII.out (by rw [HBR.out]))⟩
          case measure => have := HII.out; simp [intOf]; omega
      · obtain rfl : k = N := by omega
        have d1 : decide ((k : Int) < (k : Int)) = false := decide_eq_false (by omega)
        have R7 := HI.out.r7
        rw [bR_full] at R7
        have R7' : wr.ownsRow w.heap.size 2 1 (.slice (some ⟨g, 0, none⟩) k k) (bL l k).length ((bL l k).map (Value.int .i64)) := by rw [bL_len]; exact R7
        obtain ⟨E7, d7, e7, I7⟩ := irow_own R7'
        obtain ⟨E8, d8, e8, I8⟩ := irow_own HI.out.r8
        rw [bL_len] at e7
        rw [HQ.out] at e8
        have X1 : bndsL l = bL l k := by unfold bndsL; rw [if_pos HC.out, HN.out]; rfl
        have X2 : lateL l = mL l k := by unfold lateL; rw [if_pos HC.out, HN.out]; rfl
        have X3 : allE l = evL l k := by unfold allE; rw [if_pos HC.out, X2]; rfl
        have J1 := Lib.hid I7
        have J2 := Lib.hid I8
        obtain ⟨rfl, rfl⟩ : some ⟨g, 0, none⟩ = E7 ∧ k = d7 := by simpa using e7
        obtain ⟨rfl, rfl⟩ : A8 = E8 ∧ c8 = d8 := by simpa using e8
        have HX := Lib.hid (And.intro X1 (And.intro X2 X3))
        clear X1 X2 X3 I7 I8 e7 e8 hlt R7 R7'
        go_wp2
        go_ret3
        obtain ⟨X1, X2, X3⟩ := HX.out
        refine ⟨some ⟨g, 0, none⟩, k, A8, c8, ?_, by rw [X1]; exact J1.out, by rw [X2]; exact J2.out, HI.out.bel⟩
        rw [X1, X2, X3, bL_len, HQ.out]
        rfl
  · have X1 : bndsL l = [] := by unfold bndsL; rw [if_neg hc]
    have X2 : lateL l = [] := by unfold lateL; rw [if_neg hc]
    have X3 : allE l = 1 := by unfold allE; rw [if_neg hc]
    have hb0 : isB l 0 = false := by unfold isB; rw [decide_eq_false hc]; rfl
    rw [hb0] at K
    unfold AllP
    rw [X1, X2, X3]
    generalize l.length = N at *
    clear hc hR hT X1 X2 X3 hb0
    go_enter Tryz.func10, Tryz.ntmps10
    go_wp2_with (first
      | (go_at_call 18; (with_reducible refine K.out.mono ?_); rintro e w1 ⟨rfl, h⟩; have HL := Lib.hid (show Lt w w1 from h); clear h)
      | fail)
    go_ret3
    exact ⟨none, 0, none, 0, rfl, ⟨by simp, by omega, by simp⟩, ⟨by simp, by omega, by simp⟩, HL.out⟩
end Go.Proofs.YtnhddnldebdmbaaGreatDoor
/- The chapter's example. -/
namespace Go.Proofs.YtnhddnldebdmbaaGreatDoor
open Go.RowKit
set_option linter.unusedVariables false
set_option linter.unusedSimpArgs false
abbrev exT (n : UInt8) (c t j q p : Int) : Ts := ⟨{ data := #[n] }, c, t, t, j, q, p⟩
theorem exT_w (n : UInt8) (c t j q p : Int) (hc : in64 c) (ht : in64 t) (hj : in64 j) (hq : in64 q) (hp : in64 p) : TsW (exT n c t j q p) :=
  ⟨(by show (1 : Nat) ≤ _; omega), hc, ht, ht, hj, hq, hp⟩
abbrev exL : List Ts := [exT 97 1 4 0 1 1, exT 98 2 9 1 1 2, exT 99 3 20 0 3 3]
set_option maxRecDepth 100000 in
theorem ex_is : bndsL exL = [3, 7, 7] ∧ lateL exL = [] ∧ allE exL = 0 := by decide +kernel
abbrev exO : Obj := .cells #[.string { data := #[97] }, .int .i64 1, .int .i64 4, .int .i64 4, .int .i64 0, .int .i64 1, .int .i64 1, .string { data := #[98] }, .int .i64 2, .int .i64 9, .int .i64 9, .int .i64 1, .int .i64 1, .int .i64 2, .string { data := #[99] }, .int .i64 3, .int .i64 20, .int .i64 20, .int .i64 0, .int .i64 3, .int .i64 3] 40
theorem ex_row (w : World) : Row (w.alloc exO) (some ⟨w.heap.size, 0, none⟩) 3 exL := by
  have hc := fun i => cell_of_row (w.alloc exO) w.heap.size i _ _ _ (heap_alloc_new w exO)
  refine ⟨by simp, by omega, ?_, fun i x hx => ?_⟩
  · intro x hx
    simp only [List.mem_cons, List.not_mem_nil, or_false] at hx
    rcases hx with rfl | rfl | rfl
    · exact exT_w 97 1 4 0 1 1 ⟨by decide, by decide⟩ ⟨by decide, by decide⟩ ⟨by decide, by decide⟩ ⟨by decide, by decide⟩ ⟨by decide, by decide⟩
    · exact exT_w 98 2 9 1 1 2 ⟨by decide, by decide⟩ ⟨by decide, by decide⟩ ⟨by decide, by decide⟩ ⟨by decide, by decide⟩ ⟨by decide, by decide⟩
    · exact exT_w 99 3 20 0 3 3 ⟨by decide, by decide⟩ ⟨by decide, by decide⟩ ⟨by decide, by decide⟩ ⟨by decide, by decide⟩ ⟨by decide, by decide⟩
  · refine ⟨w.heap.size, 0, rfl, ⟨fun j u hu => ?_⟩⟩
    match i, hx with
    | 0, hx =>
      obtain rfl : exT 97 1 4 0 1 1 = x := by simpa using hx
      rw [hc]
      match j, hu with
      | 0, hu | 1, hu | 2, hu | 3, hu | 4, hu | 5, hu | 6, hu => simpa [tsL] using hu
      | n + 7, hu => simp [tsL] at hu
    | 1, hx =>
      obtain rfl : exT 98 2 9 1 1 2 = x := by simpa using hx
      rw [hc]
      match j, hu with
      | 0, hu | 1, hu | 2, hu | 3, hu | 4, hu | 5, hu | 6, hu => simpa [tsL] using hu
      | n + 7, hu => simp [tsL] at hu
    | 2, hx =>
      obtain rfl : exT 99 3 20 0 3 3 = x := by simpa using hx
      rw [hc]
      match j, hu with
      | 0, hu | 1, hu | 2, hu | 3, hu | 4, hu | 5, hu | 6, hu => simpa [tsL] using hu
      | n + 7, hu => simp [tsL] at hu
    | n + 3, hx => simp at hx
theorem three_any (w : World) : Calls Tryz.prog 11 #[] w fun e w' => e = .returned (.slice (some ⟨w.heap.size, 0, none⟩) 3 3) ∧ w' = w.alloc exO := by
  go_enter Tryz.func11, Tryz.ntmps11
  go_wp2
  go_ret
  exact ⟨rfl, rfl⟩
set_option maxRecDepth 100000 in
set_option maxHeartbeats 2000000 in
theorem awake_any (w : World) (hT : Tab w) : Calls Tryz.prog 4 #[] w fun e w' => e = .returned (.bool true) ∧ Below w.heap.size w w' := by
  have hb : Below w.heap.size w (w.alloc exO) := (Below.refl _ _).alloc (Nat.le_refl _) _
  have K : Calls Tryz.prog 10 #[.slice (some ⟨w.heap.size, 0, none⟩) 3 3] (w.alloc exO) (AllP exL (w.alloc exO)) := rta_all (some ⟨w.heap.size, 0, none⟩) 3 exL (w.alloc exO) (ex_row w) (hT.below hb)
  unfold AllP at K
  rw [ex_is.1, ex_is.2.1, ex_is.2.2] at K
  have K := Lib.hid K
  have HB := Lib.hid hb
  have K3 := Lib.hid (three_any w)
  clear hT hb
  go_enter Tryz.func4, Tryz.ntmps4
  go_wp2_with (first
    | (go_at_call 11; (with_reducible refine K3.out.mono ?_); rintro e w1 ⟨rfl, rfl⟩)
    | (go_at_call 10; go_loud ((with_reducible refine K.out.mono ?_); rintro e w2 ⟨A1, c1, A2, c2, rfl, h1, h2, h⟩; obtain ⟨g, o, hA, hg, k0⟩ := h1.at_ 0 3 rfl; obtain ⟨g1, o1, hA1, _, k1⟩ := h1.at_ 1 7 rfl; obtain ⟨g2, o2, hA2, _, k2⟩ := h1.at_ 2 7 rfl; subst hA; cases hA1; cases hA2; have hc1 := h1.le; have hc2 := h1.mx; have hd1 := h2.le; have hd2 := h2.mx; simp only [List.length_cons, List.length_nil, Nat.reduceAdd, Nat.add_zero] at hc1 hd1 k0; have HB2 := Lib.hid (HB.out.trans (h.mono (Below.size HB.out))); clear h h1 h2))
    | fail)
  go_ret
  exact ⟨rfl, HB2.out⟩
end Go.Proofs.YtnhddnldebdmbaaGreatDoor
/- What the rows' condition on math/bits' table gives the walks, and the heap that meets it. -/
namespace Go.Proofs.YtnhddnldebdmbaaGreatDoor
open Go.ChangeShapes Go.WideShapes Go.ChangeAt Go.RowKit
set_option linter.unusedVariables false

theorem own : ownKnob Tryz.prog.godebug = none := by kernel_rfl
theorem laidOut : laidOutB Tryz.prog = true := by kernel_rfl
/-- The condition's list, as the rows bear it. -/
abbrev LL : List (String × DataW Unit) := Rows.rtaSoundRow.laid
theorem door_met (os : Os) (args : Array Value) : laidMetH Tryz.prog LL ((World.doorLaid Tryz.prog 4000 os).forCall (fun _ _ => 0) ⟨#[], args, []⟩).memory :=
  laidMetH_of_parts3 (fuel := 8) (laidMet_of_run' 8 (by kernel_rfl) (by kernel_rfl)) (by kernel_rfl) (by kernel_rfl)
theorem tab_of_laid {W : World} (h : laidMetH Tryz.prog LL W) : Tab W := by
  rw [MakeChecks.laidMetH_plain _ _ _ (by kernel_rfl)] at h
  have ht := Lib.tabIs_of_head (P := Tryz.prog) (W := W) (k := .u8) (zs := deB.map fun n : Nat => (n : Int)) (rest := []) (g := 0) (t := 162) (e := 5) (n := 64) (by kernel_rfl) (by kernel_rfl) Tryz.underlying162 Tryz.underlying5 (by kernel_rfl) (by kernel_rfl) h
  intro i v hv
  have := World.var?_cell (g := 0) (by kernel_rfl) ht i
  rw [this]
  simp [hv]
end Go.Proofs.YtnhddnldebdmbaaGreatDoor
