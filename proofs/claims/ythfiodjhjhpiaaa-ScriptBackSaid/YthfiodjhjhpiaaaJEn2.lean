/- Encode. -/
import Derived.Test.YthfiodjhjhpiaaaJEnc
import Derived.Test.YthfiodjhjhpiaaaJLeg
import Derived.Deep.RegionHeldLaw
namespace Go.Proofs.Ythfiodjhjhpiaaa
open Go.RowKit
set_option linter.unusedVariables false
set_option linter.unusedSimpArgs false

def EncodePost (r : Option (List Fv)) (w : World) (e : Ending) (w' : World) : Prop :=
  (match r with
  | none => e = .returned (.tuple #[.slice none 0 0, .bool false])
  | some rs => ∃ v gs, e = .returned (.tuple #[v, .bool true]) ∧ FOwn 49 w.heap.size w' v gs ∧ gs.map (·.x) = rs) ∧ Below w.heap.size w w'
structure EIn (w : World) (A : Option Addr) (n cap M : Nat) (wr : World) (v : Value) (rs js : List Fv) : Prop where
  own : ∃ gs, FOwn 49 w.heap.size wr v gs ∧ gs.map (·.x) = rs
  arr : Arr A n cap M wr js
  bel : Below w.heap.size w wr
  ge : w.heap.size ≤ M
def LtE (W1 W : World) : Prop := Below W1.heap.size W1 W
abbrev E8 (W1 : World) (b9 M : Nat) (x : Fv) (A : Option Addr) (n cap : Nat) (W : World) : Prop :=
  W.cell? ⟨b9, 0, none⟩ = some (.int .i64 x.t) ∧ W.cell? ⟨b9, 1, none⟩ = some (.int .i64 x.a) ∧ W.cell? ⟨M + 1, 0, none⟩ = some (.slice A n cap) ∧ W.cell? ⟨M + 1, 1, none⟩ = some (.map (some M)) ∧ LtE W1 W
theorem E8.step {W1 : World} {b9 M : Nat} {x : Fv} {A : Option Addr} {n cap : Nat} {W W' : World} (h : E8 W1 b9 M x A n cap W) (hb : Below W.heap.size W W') : E8 W1 b9 M x A n cap W' := by
  obtain ⟨h0, h1, h2, h3, h4⟩ := h
  have hc := cells_below hb
  exact ⟨hc _ _ _ h0, hc _ _ _ h1, hc _ _ _ h2, hc _ _ _ h3, Below.trans h4 (hb.mono (Below.size h4))⟩
theorem fb_row {w w' : World} {b B e size n : Nat} {T : TypeId} {v0 v1 v2 v3 v4 v : Value} {xs : List Value} (h : FB w b T v0 v1 v2 v3 v4) (hr : w.ownsRow B e size v n xs) (hT : T ≠ e) (hg : w.grownBy w' v.ownBlock) : FB w' b T v0 v1 v2 v3 v4 := by
  refine h.kept (X := v.ownBlock.toList) (kept_grown hg (fun k hk => by rw [hk]; simp)) (fun hm => ?_)
  rw [Option.mem_toList] at hm
  exact own_ne hr h.is hT hm
theorem FAt.news (w : World) (x : Fv) (A : Option Addr) (cap : Nat) (T : TypeId) (hw : FvW x) (hs : CRow w A cap x.c) : ∀ j u, (fvL x A cap)[j]? = some u → (w.alloc (.cells #[.int .i64 x.t, .int .i64 x.a, .int .i64 x.r, .int .i64 x.k, .slice A x.c.length cap] T)).cell? ((⟨w.heap.size, 0, none⟩ : Addr).add j) = some u := fun j u hu => by
  have := (FAt.new w x A cap T hw hs).r j u hu
  rw [Nat.zero_add] at this
  rw [add_none, Nat.zero_add]
  exact this
set_option maxRecDepth 100000 in
set_option maxHeartbeats 2000000 in
theorem encode_bad (A R : Option Addr) (cap rc : Nat) (ts : List Ts) (js : List Fv) (w : World) (hT : Row w A cap ts) (hR : FRow w R rc js) (hb : legS ts js = false) :
    Calls Try.prog 40 #[.slice A ts.length cap, .slice R js.length rc] w (EncodePost none w) := by
  have K := legal_any A R cap rc ts js w hT hR
  rw [hb] at K
  have K := Lib.hid K
  clear hT hR hb
  go_enter Try.func40, Try.ntmps40
  go_wp2_with (go_at_call 17; (with_reducible refine K.out.mono ?_); rintro e w1 ⟨rfl, h1⟩)
  refine bodyPost_ret (results_tmp2 rfl _ _ _) rfl ?_
  exact ⟨rfl, h1⟩
set_option maxRecDepth 100000 in
set_option maxHeartbeats 8000000 in
theorem encode_good (A R : Option Addr) (cap rc : Nat) (ts : List Ts) (js : List Fv) (w : World) (hT : Row w A cap ts) (hR : FRow w R rc js) (hb : legS ts js = true) :
    Calls Try.prog 40 #[.slice A ts.length cap, .slice R js.length rc] w (EncodePost (encF ts [] js) w) := by
  obtain ⟨i0, hi, hz0, hz1, hz2⟩ := info_parts infoRs
  have K := legal_any A R cap rc ts js w hT hR
  rw [hb] at K
  rw [legS, Bool.and_eq_true, decide_eq_true_eq] at hb
  obtain ⟨⟨h0, hl⟩, hlf⟩ := hb
  have hv := vs_of h0
  have hgood := legF_good hv js [] (by simp) hlf
  have hle := hR.le
  have hmx := hR.mx
  have HV := Lib.hid hv
  have ROW := Lib.hid hT
  have RAW := Lib.hid hR
  have HLF := Lib.hid hlf
  have HGD := Lib.hid hgood
  have K := Lib.hid K
  clear h0 hT hR hv hlf hgood
  have hmm := @run_makeMap Try.prog
  go_enter Try.func40, Try.ntmps40
  go_upto_region 5 with (go_at_call 17; (with_reducible refine K.out.mono ?_); rintro e w1 ⟨rfl, h1⟩)
  have A0 := Arr.new A ts.length cap w1
  have B0 : Below w.heap.size w ((w1.alloc (.map #[] 0)).alloc (.cells #[.slice A ts.length cap, .map (some w1.heap.size)] 57)) := (h1.alloc h1.size _).alloc (by have := h1.size; simp; omega) _
  have HM := h1.size
  generalize ((w1.alloc (.map #[] 0)).alloc (.cells #[.slice A ts.length cap, .map (some w1.heap.size)] 57)) = W0 at *
  generalize w1.heap.size = M at *
  have A0 := Lib.hid A0
  have B0 := Lib.hid B0
  clear hmm h1
  go_wp2
  go_loopw [6, 20] (fun v i wr => ∃ k : Nat, k ≤ js.length ∧ i = .int .i64 k ∧ Hid (EIn w A ts.length cap M wr v (encA ts [] (js.take k)) (js.take k)) ∧ Hid (∀ (i : Nat) (x : Fv), i < k → js[i]? = some x → gapI ts (js.take i) x < 1048576)) (fun _ i _ => js.length - (intOf i).toNat)
  case atStart => exact ⟨0, Nat.zero_le _, rfl, Lib.hid ⟨⟨[], FOwn.nil _ _ _, rfl⟩, A0.out, B0.out, HM⟩, Lib.hid (by omega)⟩
  case round =>
    obtain ⟨k, hk, rfl, hI, hgap⟩ := hrel
    by_cases hlt : k < js.length
    · obtain ⟨rb, ro, x, C, cc, rfl, hx, hrb, hF⟩ := RAW.out.get (k := k) hlt
      have hF := hF.later hI.out.bel
      have c0 := hF.c0
      have c1 := hF.c1
      have c2 := hF.c2
      have c3 := hF.c3
      have c4 := hF.c4
      have hi0 : (0 : Int) ≤ (k : Int) := by omega
      have hi1 : (k : Int) < (js.length : Int) := by omega
      have hleg := legF_get js [] k x HLF.out hx
      rw [List.nil_append] at hleg
      obtain ⟨⟨t0, t1⟩, ⟨a0, a1⟩, ⟨r0, r1⟩, ⟨k0, k1⟩, hfit⟩ := legJ_parts hleg
      have hyo := HV.out.tk x.t
      have hn0 := soon_nn HV.out (fun j hj => (HGD.out j (List.mem_of_mem_take hj)).2.2.1) (js := js.take k) x.t
      have hfl := fit_len _ x.c x.k (by omega) hfit
      have hfp := fit_pos _ x.c x.k hfit
      have hgk : ∀ j ∈ js.take k, 0 ≤ j.t ∧ j.t < ts.length ∧ 0 ≤ j.a ∧ j.a ≤ 35184372088832 := fun j hj => HGD.out j (List.mem_of_mem_take hj)
      have HGK := Lib.hid hgk
      have yc1 := hyo.c1
      have yj1 := hyo.j1
      have hxr : in64 (x.r - x.a) := ⟨by omega, by omega⟩
      have hxl : x.c.length ≤ 2147483647 := by omega
      have HX := Lib.hid hx
      have HF := Lib.hid hF
      have HPP := Lib.hid (show in64 (x.r - x.a) ∧ 1 ≤ x.k ∧ (∀ y ∈ x.c, 1 ≤ y) ∧ x.c.length ≤ 2147483647 from ⟨hxr, k0, hfp, hxl⟩)
      have HGI : Hid (gapI ts (js.take k) x = x.a - soonI ts (js.take k) x.t) := Lib.hid rfl
      have hsb : 0 ≤ soonI ts (js.take k) x.t ∧ soonI ts (js.take k) x.t ≤ x.a ∧ x.a ≤ 17592186044416 := ⟨hn0, a0, a1⟩
      clear hF hx hleg t0 t1 a0 a1 r0 r1 k0 k1 hfit hyo hn0 hfl hfp hgk yc1 yj1 hxr hxl
      go_upto_region 8 with (fail)
      have F1 := Lib.hid (FAt.new wr x C cc 40 HF.out.wf HF.out.s)
      have FB1 := Lib.hid (FB.new wr 40 (.int .i64 x.t) (.int .i64 x.a) (.int .i64 x.r) (.int .i64 x.k) (.slice C x.c.length cc))
      have B1 : Hid (Below wr.heap.size wr (wr.alloc (.cells #[.int .i64 x.t, .int .i64 x.a, .int .i64 x.r, .int .i64 x.k, .slice C x.c.length cc] 40))) := Lib.hid ((Below.refl _ _).alloc (Nat.le_refl _) _)
      generalize (wr.alloc (.cells #[.int .i64 x.t, .int .i64 x.a, .int .i64 x.r, .int .i64 x.k, .slice C x.c.length cc] 40)) = W1 at *
      have BW := Lib.hid (hI.out.bel.trans (B1.out.mono hI.out.bel.size))
      have AW := Lib.hid (hI.out.arr.later B1.out)
      have HGE := Lib.hid hI.out.ge
      obtain ⟨gs, hG, hgs⟩ := hI.out.own
      have HG1 := Lib.hid (hG.later B1.out)
      have HGS := Lib.hid hgs
      generalize wr.heap.size = b9 at *
      clear c0 c1 c2 c3 c4 hI hG hgs
      obtain ⟨f0, f1, f2, f3, f4⟩ := F1.out.z
      have HD0 : Hid (E8 W1 b9 M x A ts.length cap W1.drew) := Lib.hid (E8.step (W := W1) ⟨f0, f1, AW.out.c0, AW.out.c1, Below.refl _ _⟩ (below_drew W1))
      have KS : Hid (∀ W, E8 W1 b9 M x A ts.length cap W → Calls Try.prog 28 #[.agg #[.slice A ts.length cap, .map (some M)], .int .i64 x.t] W fun e w' => e = .returned (.int .i64 (soonI ts (js.take k) x.t)) ∧ Below W.heap.size W w') :=
        Lib.hid fun W hD => (AW.out.later hD.2.2.2.2).soon ((ROW.out.later BW.out).later hD.2.2.2.2) HV.out x.t HGK.out
      obtain ⟨hsb1, hsb2, hsb3⟩ := hsb
      have HEN := Lib.hid (fun (W : World) (g : Int) (hb : Below W1.heap.size W1 W) (hg : in64 g) => encoded_any x C cc g W F1.out.wf (F1.out.s.later hb) hg HPP.out.1 HPP.out.2.1 HPP.out.2.2.1 HPP.out.2.2.2)
      generalize soonI ts (js.take k) x.t = sp at *
      have hwg : IntKind.i64.wrap (x.a - sp) = x.a - sp := IntWalk.i64_in _ (by omega)
      clear f0 f1 f2 f3 f4
      go_region_held_law (fun W => E8 W1 b9 M x A ts.length cap W)
        (first | (with_reducible assumption) | (with_reducible exact HD0.out) | (with_reducible exact HD2.out) | fail)
        (first
        | (go_at_call 28; (with_reducible refine (KS.out _ HD0.out).mono ?_); rintro e w2 ⟨rfl, h2⟩; have HD2 := Lib.hid (E8.step HD0.out h2))
        | fail)
      have H2 : Hid (Below W1.heap.size W1 w2) := Lib.hid HD2.out.2.2.2.2
      obtain ⟨g, hg⟩ : ∃ g, x.a - sp = g := ⟨_, rfl⟩
      have hg0 : 0 ≤ g ∧ g ≤ 17592186044416 := by omega
      rw [hg] at HGI ⊢
      clear hwg hg hsb1 hsb2 hsb3
      by_cases hbig : g ≥ 1048576
      · have d1 : decide (g ≥ 1048576) = true := decide_eq_true hbig
        have d2 : decide (1048576 ≤ g) = true := decide_eq_true hbig
        have HN : Hid (encF ts [] js = none) := Lib.hid (encF_none ts js [] k x HX.out (by rw [List.nil_append, HGI.out]; exact hbig))
        go_wp2
        refine bodyPost_ret (results_tmp2 rfl _ _ _) rfl ?_
        exact ⟨by rw [HN.out]; rfl, BW.out.trans (H2.out.mono BW.out.size)⟩
      · have d1 : decide (g ≥ 1048576) = false := decide_eq_false hbig
        have d2 : decide (1048576 ≤ g) = false := decide_eq_false hbig
        have hg64 : in64 g := ⟨by omega, by omega⟩
        have FB2 := Lib.hid (FB1.out.later H2.out)
        obtain ⟨z0, z1, z2, z3, z4⟩ := FB2.out.z
        have hgl : gs.length = k := by
          have := congrArg List.length HGS.out
          rw [List.length_map, encA_len, List.length_take] at this
          omega
        obtain ⟨Av, cv, hvv, -, -⟩ := own_len HG1.out.row
        subst hvv
        rw [hgl] at HG1 ⊢
        have hw := HPP.out
        have HRW : Hid (FvW (encJ g x)) := Lib.hid ⟨F1.out.wf.t, hg64, hw.1, ⟨by have := F1.out.wf.k.1; have := hw.2.1; show _ ≤ x.k - 1; omega, by have := F1.out.wf.k.2; show x.k - 1 ≤ _; omega⟩⟩
        have HEN2 := Lib.hid (HEN.out w2 g H2.out hg64)
        have HGL := Lib.hid hgl
        clear hw hgl
        have hb2s : w.heap.size ≤ w2.heap.size := by have := BW.out.size; have := H2.out.size; omega
        go_upto_region 12 with (first
          | (go_at_call 46; (with_reducible refine HEN2.out.mono ?_); rintro e w3 ⟨C3, cc3, rfl, hC3, hs3, h3⟩; have H3 := Lib.hid h3; have HC3 := Lib.hid hC3; have HS3 := Lib.hid hs3; have hb3s : w.heap.size ≤ w3.heap.size := Nat.le_trans hb2s h3.size; have HFA := Lib.hid (FAt.news w3 (encJ g x) C3 cc3 49 HRW.out hC3); have HG3 := Lib.hid ((HG1.out.later H2.out).later h3); clear hC3 hs3 h3)
          | (at_builtin; refine wpList_append_own _ rfl _ _ 23 rfl w.heap.size 49 i0 _ 5 56 Try.underlying23 hi hz0 hz1 hz2 rfl (by decide) _ k (gvC gs) rfl (by have := HG3.out.row; rw [HGL.out] at this; exact this.alloc _) ⟨w3.heap.size, 0, none⟩ 1 1 (fvL (encJ g x) C3 cc3) rfl rfl HFA.out (fvL_one _ _ _) (by unfold maxLen; omega) (by omega) (by simp; omega) ?_; intro v' w4 hown' hgrow hnil'; obtain ⟨Aw, cw, hvw, -, -⟩ := own_len hown'; subst hvw; have HO := Lib.hid hown'; have HGW := Lib.hid hgrow; clear hown' hgrow hnil'))
        have ba : Below w3.heap.size w3 (w3.alloc (.cells #[.int .i64 (encJ g x).t, .int .i64 (encJ g x).a, .int .i64 (encJ g x).r, .int .i64 (encJ g x).k, .slice C3 (encJ g x).c.length cc3] 49)) := (Below.refl _ _).alloc (Nat.le_refl _) _
        have hO : GOk 49 w.heap.size (w3.alloc (.cells #[.int .i64 (encJ g x).t, .int .i64 (encJ g x).a, .int .i64 (encJ g x).r, .int .i64 (encJ g x).k, .slice C3 (encJ g x).c.length cc3] 49)) ⟨encJ g x, C3, cc3⟩ := ⟨HRW.out, HC3.out.later ba, fun hne a ha => by
          obtain ⟨_, cs, fr, ht⟩ := HS3.out hne a ha
          exact .inr ⟨cs, _, fr, (ba.block a.block (Array.getElem?_eq_some_iff.1 ht).1).trans ht, by decide⟩⟩
        have hrow3 := (HG3.out.later ba).row
        have hG4 := (HG3.out.later ba).push hO (by have := HO.out; rw [HGL.out]; exact this) HGW.out
        have hA4 := (((AW.out.later H2.out).later H3.out).later ba).grown hrow3 (by decide) HGW.out
        have hF4 := fb_row (((FB1.out.later H2.out).later H3.out).later ba) hrow3 (by decide) HGW.out
        have hb13 : Below w.heap.size w w3 := (BW.out.trans (H2.out.mono BW.out.size)).trans (H3.out.mono hb2s)
        have hB4 : Below w.heap.size w w4 := (hb13.trans (ba.mono hb3s)).grown HGW.out (by simp; omega) (fun q hq => (hrow3.lt q hq).1)
        have HG4 := Lib.hid hG4
        have HA4 := Lib.hid hA4
        have HB4 := Lib.hid hB4
        have c1 := hA4.c0
        have c2 := hA4.c1
        have KN := Lib.hid (note_any A C ts.length cap cc M (lastF (js.take k)) x w4 hA4.map)
        obtain ⟨es, mc, hMap⟩ := hA4.map.is
        have HMAP := Lib.hid hMap
        clear z0 z1 z2 z3 z4 ba hO hrow3 hG4 hA4 hb13 hB4 hMap
        obtain ⟨z0, z1, z2, z3, z4⟩ := hF4.z
        clear hF4
        go_wp2_with (go_at_call 29; (with_reducible refine KN.out.mono ?_); rintro e w7 ⟨rfl, hm7, hk7⟩)
        go_roundw
        case rel =>
          refine ⟨k + 1, by omega, by go_num, Lib.hid ⟨⟨_, HG4.out.map hk7 HMAP.out HGE.out, ?_⟩, ?_, HB4.out.trans (hk7.below HB4.out.size (by simp; exact HGE.out)), HGE.out⟩, Lib.hid (fun i y hi hy => ?_)⟩
          · rw [take_one HX.out, encA_snoc, List.nil_append, HGI.out, List.map_append, HGS.out]
            rfl
          · rw [take_one HX.out]
            exact HA4.out.note hm7 hk7
          · rcases Nat.lt_or_ge i k with h | h
            · exact hgap.out i y h hy
            · obtain rfl : i = k := by omega
              have hxy := HX.out
              rw [hy] at hxy
              obtain rfl := Option.some.inj hxy
              rw [HGI.out]
              omega
        case measure => simp [intOf]; omega
    · obtain rfl : k = js.length := by omega
      have hgg : decide ((js.length : Int) < (js.length : Int)) = false := decide_eq_false (by omega)
      obtain ⟨gs, hG, hgs⟩ := hI.out.own
      have HB := Lib.hid hI.out.bel
      have HG := Lib.hid hG
      have HGS := Lib.hid hgs
      have HS : Hid (encF ts [] js = some (encA ts [] js)) := Lib.hid (encF_some ts js [] (fun i x hx => hgap.out i x (List.getElem?_eq_some_iff.1 hx).1 hx))
      clear hG hgs hI
      go_wp2
      refine bodyPost_ret (results_tmp2 rfl _ _ _) rfl ?_
      refine ⟨?_, HB.out⟩
      rw [HS.out]
      refine ⟨_, gs, rfl, HG.out, ?_⟩
      rw [HGS.out, List.take_length]
theorem encode_any (A R : Option Addr) (cap rc : Nat) (ts : List Ts) (js : List Fv) (w : World) (hT : Row w A cap ts) (hR : FRow w R rc js) :
    Calls Try.prog 40 #[.slice A ts.length cap, .slice R js.length rc] w (EncodePost (encS ts js) w) := by
  cases h : legS ts js with
  | true => rw [encS_good h]; exact encode_good A R cap rc ts js w hT hR h
  | false => rw [encS_bad h]; exact encode_bad A R cap rc ts js w hT hR h
end Go.Proofs.Ythfiodjhjhpiaaa
