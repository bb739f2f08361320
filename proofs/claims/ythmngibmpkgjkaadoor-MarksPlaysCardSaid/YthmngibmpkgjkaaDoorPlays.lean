/- MarksPlays: the walk. -/
import Derived.Test.YthmngibmpkgjkaaDoorLooks
import Derived.Test.YthmngibmpkgjkaaDoorSame
import Derived.Deep.CutBlock
namespace Go.Proofs.YthmngibmpkgjkaaDoor
open Go.RowKit
set_option linter.unusedVariables false
set_option linter.unusedSimpArgs false

/-- An act as it lies in memory. -/
structure ActAt (w : World) (p : Addr) (kd n : Int) (raw : Bool) (A : Option Addr) (ll cc : Nat) (zs : List Int) : Prop where
  c0 : w.cell? p = some (.int .i64 kd)
  c1 : w.cell? ⟨p.block, p.off + 1, none⟩ = some (.int .i64 n)
  c2 : w.cell? ⟨p.block, p.off + 2, none⟩ = some (.bool raw)
  c3 : w.cell? ⟨p.block, p.off + 3, none⟩ = some (.slice A ll cc)
  nums : Nums w (.slice A ll cc) zs
  inI : InI zs
  kdb : -9223372036854775808 ≤ kd ∧ kd ≤ 9223372036854775807
  nb : -9223372036854775808 ≤ n ∧ n ≤ 9223372036854775807
theorem ActAt.later {w w' : World} {p : Addr} {kd n : Int} {raw : Bool} {A : Option Addr} {ll cc : Nat} {zs : List Int} (h : ActAt w p kd n raw A ll cc zs) (hb : Below w.heap.size w w') : ActAt w' p kd n raw A ll cc zs :=
  ⟨by rw [hb.cell (World.block_lt_of_cell? w _ h.c0)]; exact h.c0, by rw [hb.cell (World.block_lt_of_cell? w _ h.c1)]; exact h.c1, by rw [hb.cell (World.block_lt_of_cell? w _ h.c2)]; exact h.c2, by rw [hb.cell (World.block_lt_of_cell? w _ h.c3)]; exact h.c3, h.nums.later hb, h.inI, h.kdb, h.nb⟩
theorem k5_bd (o : Int) : 0 ≤ (wrap64 (o.tmod 5 + 5)).tmod 5 ∧ (wrap64 (o.tmod 5 + 5)).tmod 5 < 5 := by
  have ha : -5 < o.tmod 5 ∧ o.tmod 5 < 5 := by
    rcases Int.le_total 0 o with h | h
    · rw [Int.tmod_eq_emod_of_nonneg h]; omega
    · obtain ⟨m, rfl⟩ : ∃ m, o = -m := ⟨-o, by omega⟩
      rw [Int.neg_tmod, Int.tmod_eq_emod_of_nonneg (by omega)]; omega
  generalize o.tmod 5 = a at *
  rw [IntWalk.wrap64_in _ (by omega), Int.tmod_eq_emod_of_nonneg (by omega)]
  omega

theorem putF_false (g : Nat → Bool) (n : Int) : putF g n false = del g n := by
  funext k
  by_cases h : (k : Int) = n <;> simp [putF, del, h]
/-- Put, and what it leaves as it was. -/
theorem put_more {w : World} {r : Nat} {g : Nat → Bool} (h : RBox w r g) (n : Int) (b : Bool) :
    Calls Tryd.prog 16 #[.pointer (some ⟨r, 0, none⟩), .int .i64 n, .bool b] w fun e w' => e = .returned (.tuple #[]) ∧ RBox w' r (putF g n b) ∧ Below r w w' ∧ ∀ a v, a.block ≠ r → w.cell? a = some v → w'.cell? a = some v := by
  by_cases hn : n < 0 ∨ 1024 ≤ n
  · refine (rPut_out _ n b w hn).mono ?_
    rintro e w' ⟨rfl, rfl⟩
    refine ⟨rfl, h.congr fun k hk => ?_, Below.refl _ _, fun a v _ h => h⟩
    rw [putF, if_neg (by omega)]
  · obtain ⟨i, rfl⟩ : ∃ i : Nat, n = (i : Int) := ⟨n.toNat, by omega⟩
    refine (rPut_in r i b g w h (by omega)).mono ?_
    rintro e w' ⟨rfl, rfl⟩
    refine ⟨rfl, h.put i b, (Below.refl r w).setCell (p := ⟨r, i, none⟩) (Nat.le_refl _) _, fun a v ha hv => ?_⟩
    rw [World.cell?_setCell_other _ _ _ _ (by intro e2; exact ha (by rw [← e2]))]
    exact hv
theorem int_not_ref {w : World} {r : Nat} {g : Nat → Bool} (h : RBox w r g) (a : Addr) (z : Int) (hc : w.cell? a = some (.int .i64 z)) : a.block ≠ r := by
  intro e
  have hi := h.is
  rw [← e] at hi
  unfold World.cell? at hc
  rw [hi] at hc
  simp only at hc
  split at hc
  · cases hc
  · by_cases ho : a.off < 1024
    · rw [List.getElem?_toArray, bcells_get g _ ho] at hc; cases hc
    · rw [List.getElem?_toArray, List.getElem?_eq_none (by rw [bcells_length]; omega)] at hc; cases hc
theorem int_not_box {w : World} {b : Nat} {f : Nat → Bool} (h : Box w b f) (a : Addr) (z : Int) (hc : w.cell? a = some (.int .i64 z)) : a.block ≠ b := by
  intro e
  have hi := h.is
  rw [← e] at hi
  unfold World.cell? at hc
  rw [hi] at hc
  simp only at hc
  split at hc
  · cases hc
  · by_cases ho : a.off < 16
    · rw [List.getElem?_toArray, cellsL_get f _ ho] at hc; cases hc
    · rw [List.getElem?_toArray, List.getElem?_eq_none (by rw [cellsL_length]; omega)] at hc; cases hc
/-- The numbers ns lie at A. -/
def Rows (A : Option Addr) (ns : List Int) (W : World) : Prop := ∀ i, i < ns.length → ∃ y, A = some y ∧ W.cell? (y.add i) = some (.int .i64 (ns.getD i 0))
theorem nums_form {W : World} {v : Value} {ns : List Int} (h : Nums W v ns) : ∃ A c, v = .slice A ns.length c ∧ ns.length ≤ c ∧ c ≤ maxLen ∧ Rows A ns W := by
  rcases h with ⟨rfl, rfl⟩ | ⟨x, cap, rfl, hle, hmax, hc⟩
  · exact ⟨none, 0, rfl, Nat.le_refl _, by unfold maxLen; omega, fun i hi => absurd hi (by simp)⟩
  · exact ⟨some x, cap, rfl, hle, hmax, fun i hi => ⟨x, rfl, hc i hi⟩⟩
theorem Rows.later {A : Option Addr} {ns : List Int} {W W' : World} (h : Rows A ns W) (hb : Below W.heap.size W W') : Rows A ns W' := fun i hi => by
  obtain ⟨y, e, hc⟩ := h i hi
  exact ⟨y, e, by rw [hb.cell (World.block_lt_of_cell? W _ hc)]; exact hc⟩
theorem Rows.put {A : Option Addr} {ns : List Int} {W W' : World} {r : Nat} {g : Nat → Bool} (h : Rows A ns W) (R : RBox W r g) (hp : ∀ a v, a.block ≠ r → W.cell? a = some v → W'.cell? a = some v) : Rows A ns W' := fun i hi => by
  obtain ⟨y, e, hc⟩ := h i hi
  exact ⟨y, e, hp _ _ (int_not_ref R _ _ hc) hc⟩
theorem Rows.store {A : Option Addr} {ns : List Int} {W : World} {b : Nat} {f : Nat → Bool} (h : Rows A ns W) (B : Box W b f) (g : Nat → Bool) : Rows A ns (W.setCells b 0 (cellsL g)) := fun i hi => by
  obtain ⟨y, e, hc⟩ := h i hi
  refine ⟨y, e, ?_⟩
  rw [B.stored g]
  exact (World.cell?_of_block (setRow_other W b _ _ (int_not_box B _ _ hc))).trans hc
def delL (f : Nat → Bool) (zs : List Int) : Nat → Bool := zs.foldl del f
theorem delL_snoc (f : Nat → Bool) (zs : List Int) (k : Nat) (hk : k < zs.length) : delL f (zs.take (k + 1)) = del (delL f (zs.take k)) (zs.getD k 0) := by
  unfold delL
  rw [List.take_succ_eq_append_getElem hk, List.foldl_append]
  simp [List.getD_eq_getElem?_getD, hk]
theorem delL_has (zs : List Int) : ∀ (f : Nat → Bool) (k : Nat), delL f zs k = (f k && !decide ((k : Int) ∈ zs)) := by
  induction zs with
  | nil => intro f k; simp [delL]
  | cons z zs ih =>
    intro f k
    show delL (del f z) zs k = _
    rw [ih]
    simp [del, Bool.and_assoc]
theorem or_end (g : Nat → Bool) (ns : List Int) (k : Nat) : insL g ns k = orF g (insL noneF ns) k := by simp [orF, insL_has, noneF]
theorem minus_end (g : Nat → Bool) (ns : List Int) (k : Nat) : delL g ns k = minusF g (insL noneF ns) k := by simp [minusF, delL_has, insL_has, noneF]
/-- What is left when k numbers from 0 on have gone. -/
def fromF (g : Nat → Bool) (j : Nat) : Nat → Bool := fun k => g k && !decide (k < j)
theorem fromF_succ (g : Nat → Bool) (j : Nat) : putF (fromF g j) (j : Int) false = fromF g (j + 1) := by
  funext k
  by_cases e : k = j
  · subst e; simp [putF, fromF]
  · have e1 : ¬ ((k : Int) = (j : Int)) := by omega
    have e2 : decide (k < j + 1) = decide (k < j) := by
      by_cases hj : k < j
      · simp [hj]; omega
      · simp [hj]; omega
    simp [putF, fromF, e1, e2]
theorem fromF_end (g : Nat → Bool) (j : Nat) (n : Int) (h1 : j = 0 ∨ (j : Int) ≤ n) (h2 : ¬ (j : Int) < n ∨ j = 1024) (k : Nat) (hk : k < 1024) : fromF g j k = minusF g (belowF n) k := by
  have : decide (k < j) = decide ((k : Int) < n) := by
    by_cases h : k < j
    · simp [h]; omega
    · simp [h]; omega
  simp [fromF, minusF, belowF, this]
theorem kept_below {w W W' : World} {B : Nat} (h : KeptT w W) (hb : Below B W W') (hB : w.heap.size ≤ B) (h0 : 0 < w.heap.size) : KeptT w W' :=
  ⟨h.1.trans (hb.mono hB), fun i v hv => by rw [hb.cell (p := ⟨0, i, none⟩) (Nat.lt_of_lt_of_le h0 hB)]; exact h.2 i v hv⟩
theorem store_step {w W : World} {b4 r : Nat} {f g : Nat → Bool} (B : Box W b4 f) (R : RBox W r g) (K : KeptT w W) (h4 : w.heap.size ≤ b4) (h0 : 0 < w.heap.size) (hne : b4 < r) (g' : Nat → Bool) :
    ∃ W6, W.setCells b4 0 (cellsL g') = W6 ∧ Box W6 b4 g' ∧ RBox W6 r g ∧ KeptT w W6 :=
  ⟨_, rfl, B.setCells g', ⟨by rw [B.stored g']; exact (setRow_other W b4 r _ (by omega)).trans R.is⟩, tab_store K ⟨f, B⟩ g' h4 h0⟩

set_option maxRecDepth 100000 in
set_option maxHeartbeats 4000000 in
theorem plays_row (x : Addr) (len cap : Nat) (w : World) (hT : Tab w) (hle : len ≤ cap) (hmax : cap ≤ maxLen) (hc : ∀ i, i < len → ∃ kd n raw A ll cc zs, ActAt w (x.add (i * 4)) kd n raw A ll cc zs) :
    Calls Tryd.prog 4 #[.slice (some x) len cap] w fun e w' => e = .returned (.bool true) ∧ Below w.heap.size w w' := by
  unfold maxLen at hmax
  have hp0 := hT.pos
  have HC := Lib.hid hc
  clear hc
  have K0 : KeptT w w := KeptT.refl hT
  go_enter Tryd.func4, Tryd.ntmps4
  go_upto_region 4 with (first
    | (go_at_call 9; refine (awake_any _ hT).mono ?_; rintro e w1 ⟨rfl, h1⟩; have K1 := K0.step h1; clear h1)
    | ((with_reducible show wpList _ _ _ (⟨none, Op.store 26 (.tmp 4) _, _, _, _, _⟩ :: _) _ _); refine wpList_store_mid rfl 26 _ _ rfl _ _ (cellsL noneF).toArray rfl zero_agg' ((zero_box _).there _) (info26' _) (cellsL_all _) ?_; rw [alloc_stored]; obtain ⟨W4, hW4, B4, K4⟩ := held_new K1 noneF; rw [hW4]; clear hW4)
    | ((with_reducible show wpList _ _ _ (⟨some 16, _, _, _, _, _⟩ :: _) _ _); refine wpList_build_ref rfl rfl ?_))
  (try simp only [Act.put, List.setIfInBounds_toArray, List.set_cons_zero, List.set_cons_succ])
  obtain ⟨W5, hW5, R5, B5, K5⟩ : ∃ W5, W4.alloc (.cells (bcells noneF).toArray 37) = W5 ∧ RBox W5 W4.heap.size noneF ∧ Box W5 w1.heap.size noneF ∧ KeptT w W5 := ⟨_, rfl, RBox.new _ _, B4.alloc _, K4.step ((Below.refl _ _).alloc (Nat.le_refl _) _)⟩
  try rw [hW5]
  clear hW5
  have l4 : w1.heap.size < W4.heap.size := B4.lt
  have hB4 : w.heap.size ≤ w1.heap.size := K1.1.size
  have hB5 : w.heap.size ≤ W4.heap.size := K4.1.size
  clear B4 K0 K1 K4 hT
  generalize w1.heap.size = b4 at *
  generalize W4.heap.size = r at *
  go_wp2
  go_loopw [6] (fun i wr => ∃ (k : Nat) (g : Nat → Bool), k ≤ len ∧ k ≤ 20 ∧ i = .int .i64 k ∧ Box wr b4 g ∧ RBox wr r g ∧ KeptT w wr) (fun i _ => len - (intOf i).toNat)
  case atStart => exact ⟨0, noneF, Nat.zero_le _, by omega, rfl, B5, R5, K5⟩
  case round =>
    clear B5 R5 K5
    obtain ⟨k, g, hk, hk20, rfl, B, R, K⟩ := hrel
    by_cases hlt : k < len ∧ k < 20
    · obtain ⟨hlt, hl2⟩ := hlt
      obtain ⟨kd, n, raw, A, ll, cc, zs, ha⟩ := HC.out k hlt
      have hA := ha.later (K.1.mono (Nat.le_refl _))
      have hi0 : (0 : Int) ≤ (k : Int) := by omega
      have hi1 : (k : Int) < (len : Int) := by omega
      have hd4 : decide ((k : Int) < 20) = true := decide_eq_true (by omega)
      have hdl : decide ((k : Int) < (len : Int)) = true := decide_eq_true (by omega)
      have c0 := hA.c0
      have c1 := hA.c1
      have c2 := hA.c2
      have c3 := hA.c3
      have hnm := Lib.hid hA.nums
      have hin := hA.inI
      have hkb := hA.kdb
      have hnb := hA.nb
      go_upto_region 8 with fail
      obtain ⟨W1, hW1, e0, e1, e2, e3, B1, R1, K1, N1⟩ : ∃ W1, wr.alloc (.cells #[.int .i64 kd, .int .i64 n, .bool raw, .slice A ll cc] 39) = W1 ∧ W1.cell? ⟨wr.heap.size, 0, none⟩ = some (.int .i64 kd) ∧ W1.cell? ⟨wr.heap.size, 1, none⟩ = some (.int .i64 n) ∧ W1.cell? ⟨wr.heap.size, 2, none⟩ = some (.bool raw) ∧ W1.cell? ⟨wr.heap.size, 3, none⟩ = some (.slice A ll cc) ∧ Box W1 b4 g ∧ RBox W1 r g ∧ KeptT w W1 ∧ Hid (Nums W1 (.slice A ll cc) zs) :=
        ⟨_, rfl, by simp, by simp, by simp, by simp, B.alloc _, R.alloc _, K.step ((Below.refl _ _).alloc (Nat.le_refl _) _), Lib.hid (hnm.out.later ((Below.refl _ _).alloc (Nat.le_refl _) _))⟩
      try rw [hW1]
      have hk7 : w.heap.size ≤ wr.heap.size := K.1.size
      clear hW1 hA ha c0 c1 c2 c3 B R K hnm
      generalize wr.heap.size = b7 at *
      have a1 := and1023 n
      go_upto_if 36 with fail
      go_cut [8] from 37 to 38 (fun s8 wx => wx = W1 ∧ ∃ n' : Int, s8 = .int .i64 n' ∧ -9223372036854775808 ≤ n' ∧ n' ≤ 9223372036854775807)
      case first =>
        cases raw
        · go_wp2_with fail
          go_meet
          exact ⟨rfl, _, rfl, by omega, by omega⟩
        · go_wp2_with fail
          go_meet
          exact ⟨rfl, _, rfl, hnb.1, hnb.2⟩
      obtain ⟨rfl, n', rfl, hn1, hn2⟩ := hcut
      clear e1 e2 a1
      go_upto_block 2 with (go_at_call 11; (with_reducible refine (some_nums _ _ _ N1.out).mono ?_); rintro e w2 ⟨x2, rfl, m2, h2⟩; have M2 := Lib.hid m2; have K2 := K1.step h2; have B2 := B1.later h2; have R2 := R1.later h2; have e0' : w2.cell? ⟨b7, 0, none⟩ = some (.int .i64 kd) := (by rw [h2.cell (World.block_lt_of_cell? _ _ e0)]; exact e0); clear h2 m2)
      obtain ⟨q, hq⟩ : ∃ q : Nat, (wrap64 (kd.tmod 5 + 5)).tmod 5 = (q : Int) := ⟨_, (Int.toNat_of_nonneg (k5_bd kd).1).symm⟩
      have hq5 : q < 5 := by have := (k5_bd kd).2; omega
      rw [hq]
      clear hq e0 e0' e3 K1 B1 R1 N1 hkb
      have hsz : InI (someL zs) := someL_in zs hin
      generalize someL zs = ns at *
      obtain ⟨A2, c2, rfl, hle2, hmax2, O2⟩ := nums_form M2.out
      unfold maxLen at hmax2
      go_cut [10, 11, 12] from 47 to 114 (fun s10 s11 s12 wx => ∃ g', Box wx b4 g' ∧ RBox wx r g' ∧ KeptT w wx)
      case first =>
        obtain rfl | rfl | rfl | rfl | rfl : q = 0 ∨ q = 1 ∨ q = 2 ∨ q = 3 ∨ q = 4 := by omega
        · go_wp2_with (first
            | ((with_reducible show wpList _ _ _ (⟨some 65, _, _, _, _, _⟩ :: _) _ _); refine wpList_load_mid rfl 26 _ rfl _ _ rfl _ _ B2.range Tryd.underlying26 rfl (info26 _) ?_)
            | (go_at_call 15; refine (with_any g n' _ hn1 hn2).mono ?_; rintro e w3 ⟨rfl, h3⟩; have B3 := B2.later h3; have K3 := K2.step h3; have R3 := R2.later h3; clear h3)
            | ((with_reducible show wpList _ _ _ (⟨none, Op.store 26 (.tmp 4) _, _, _, _, _⟩ :: _) _ _); refine wpList_store_mid rfl 26 _ _ rfl _ _ (cellsL (ins g n')).toArray rfl rfl (B3.there _) (info26' _) (cellsL_all _) ?_; simp only [List.toList_toArray]; obtain ⟨W6, hW6, B6, R6, K6⟩ := store_step B3 R3 K3 hB4 hp0 l4 (ins g n'); rw [hW6]; clear hW6)
            | (go_at_call 16; refine (R6.put_any n' true).mono ?_; rintro e w7 ⟨rfl, R7, h7⟩))
          go_meet
          exact ⟨ins g n', B6.below h7 l4, by rw [← putF_true]; exact R7, kept_below K6 h7 hB5 hp0⟩
        · go_wp2_with (first
            | ((with_reducible show wpList _ _ _ (⟨some 73, _, _, _, _, _⟩ :: _) _ _); refine wpList_load_mid rfl 26 _ rfl _ _ rfl _ _ B2.range Tryd.underlying26 rfl (info26 _) ?_)
            | (go_at_call 17; refine (without_any g n' _ hn1 hn2).mono ?_; rintro e w3 ⟨rfl, h3⟩; have B3 := B2.later h3; have K3 := K2.step h3; have R3 := R2.later h3; clear h3)
            | ((with_reducible show wpList _ _ _ (⟨none, Op.store 26 (.tmp 4) _, _, _, _, _⟩ :: _) _ _); refine wpList_store_mid rfl 26 _ _ rfl _ _ (cellsL (del g n')).toArray rfl rfl (B3.there _) (info26' _) (cellsL_all _) ?_; simp only [List.toList_toArray]; obtain ⟨W6, hW6, B6, R6, K6⟩ := store_step B3 R3 K3 hB4 hp0 l4 (del g n'); rw [hW6]; clear hW6)
            | (go_at_call 16; refine (R6.put_any n' false).mono ?_; rintro e w7 ⟨rfl, R7, h7⟩))
          go_meet
          exact ⟨del g n', B6.below h7 l4, by rw [← putF_false]; exact R7, kept_below K6 h7 hB5 hp0⟩
        · have CC1 := Lib.hid (fun w hv => of_nums (.slice A2 ns.length c2) ns w hv hsz)
          have CC2 := Lib.hid (fun w => or_any g (insL noneF ns) w)
          have HE := Lib.hid (or_end g ns)
          generalize insL noneF ns = gn at *
          generalize hG : orF g gn = G at *
          go_upto_region 25 with fail
          go_cut [9] from 81 to 84 (fun s9 wx => s9 = .slice A2 ns.length c2 ∧ Box wx b4 G ∧ RBox wx r g ∧ KeptT w wx ∧ Rows A2 ns wx)
          case first =>
            refine wp_region_noPanic ?_
            refine wp_region_held_drew (S := fun _ => True) (by kernel_rfl) trivial (fun hHeld => ?_)
            refine wpAnyH_take (i := 1) (oi := ⟨some 82, _, _, _, _, _⟩) (v := .slice A2 ns.length c2) rfl (by kernel_rfl) (by kernel_rfl) (by kernel_rfl) (fun _ _ _ h => h) (Or.inl ⟨by rfl, ?_⟩) trivial ?_
            · intro w0 hSw
              go_simp
              (try with_reducible rfl)
            (try simp only [Act.put, List.setIfInBounds_toArray, List.set_cons_zero, List.set_cons_succ])
            have b2 := B2.drew
            have k2 := K2.step (below_drew w2)
            have r2 := R2.later (below_drew w2)
            have m2 := M2.out.later (below_drew w2)
            have o2 := O2.later (below_drew w2)
            generalize w2.drew = v2 at *
            refine wpAnyH_ready (rs := [0, 2]) (by kernel_rfl) (by simp) ?_
            refine AllReadyH.cons (o := ⟨some 81, _, _, _, _, _⟩) rfl (fun K hK => ?_) (AllReadyH.cons (o := ⟨some 83, _, _, _, _, _⟩) rfl (fun K hK => ?_) AllReadyH.nil)
            · rw [if_pos (by rfl)]
              refine wp_load_mid 26 _ rfl _ 0 rfl (cellsL g) _ (b2).range Tryd.underlying26 rfl (info26 _) ?_
              refine hK.out _ _ trivial (fun hHeld => ?_)
              clear hK K
              (try simp only [Act.put, List.setIfInBounds_toArray, List.set_cons_zero, List.set_cons_succ])
              refine wpAnyH_ready (rs := [2]) (by kernel_rfl) (by simp) ?_
              refine AllReadyH.cons (o := ⟨some 83, _, _, _, _, _⟩) rfl (fun K hK => ?_) AllReadyH.nil
              go_simp
              refine (CC1.out _ m2).mono ?_
              rintro e v3 ⟨rfl, h3⟩
              have b3 := b2.later h3
              have k3 := k2.step h3
              have r3 := r2.later h3
              have o3 := o2.later h3
              refine hK.out _ _ trivial (fun hHeld => ?_)
              clear hK K h3
              (try simp only [Act.put, List.setIfInBounds_toArray, List.set_cons_zero, List.set_cons_succ])
              refine wpAnyH_ready (rs := [3]) (by kernel_rfl) (by simp) ?_
              refine AllReadyH.cons (o := ⟨some 84, _, _, _, _, _⟩) rfl (fun K hK => ?_) AllReadyH.nil
              go_simp
              refine (CC2.out _).mono ?_
              rintro e v4 ⟨rfl, h4⟩
              have b4' := b3.later h4
              have k4 := k3.step h4
              have r4 := r3.later h4
              have o4 := o3.later h4
              refine hK.out _ _ trivial (fun hHeld => ?_)
              clear hK K h4
              (try simp only [Act.put, List.setIfInBounds_toArray, List.set_cons_zero, List.set_cons_succ])
              refine wpAnyH_ready (rs := [4]) (by kernel_rfl) (by simp) ?_
              refine AllReadyH.cons (o := ⟨none, _, _, _, _, _⟩) rfl (fun K hK => ?_) AllReadyH.nil
              rw [if_pos (by rfl)]
              refine wp_store_mid 26 _ _ rfl _ 0 (cellsL G).toArray rfl rfl (b4'.there G) (info26' G) (cellsL_all G) ?_
              simp only [List.toList_toArray]
              have o5 := o4.store b4' G
              obtain ⟨W6, hW6, B6, R6, K6⟩ := store_step b4' r4 k4 hB4 hp0 l4 G
              rw [hW6] at o5 ⊢
              refine hK.out _ _ trivial (fun hHeld => ?_)
              clear hK K
              (try simp only [Act.put, List.setIfInBounds_toArray, List.set_cons_zero, List.set_cons_succ])
              refine wpAnyH_done (by kernel_rfl) ?_ _
              refine NoPanic.normal ?_
              go_wp2_with fail
              go_meet
              exact ⟨rfl, B6, R6, K6, o5⟩
            · go_simp
              refine (CC1.out _ m2).mono ?_
              rintro e v3 ⟨rfl, h3⟩
              have b3 := b2.later h3
              have k3 := k2.step h3
              have r3 := r2.later h3
              have o3 := o2.later h3
              refine hK.out _ _ trivial (fun hHeld => ?_)
              clear hK K h3
              (try simp only [Act.put, List.setIfInBounds_toArray, List.set_cons_zero, List.set_cons_succ])
              refine wpAnyH_ready (rs := [0]) (by kernel_rfl) (by simp) ?_
              refine AllReadyH.cons (o := ⟨some 81, _, _, _, _, _⟩) rfl (fun K hK => ?_) AllReadyH.nil
              rw [if_pos (by rfl)]
              refine wp_load_mid 26 _ rfl _ 0 rfl (cellsL g) _ (b3).range Tryd.underlying26 rfl (info26 _) ?_
              refine hK.out _ _ trivial (fun hHeld => ?_)
              clear hK K
              (try simp only [Act.put, List.setIfInBounds_toArray, List.set_cons_zero, List.set_cons_succ])
              refine wpAnyH_ready (rs := [3]) (by kernel_rfl) (by simp) ?_
              refine AllReadyH.cons (o := ⟨some 84, _, _, _, _, _⟩) rfl (fun K hK => ?_) AllReadyH.nil
              go_simp
              refine (CC2.out _).mono ?_
              rintro e v4 ⟨rfl, h4⟩
              have b4' := b3.later h4
              have k4 := k3.step h4
              have r4 := r3.later h4
              have o4 := o3.later h4
              refine hK.out _ _ trivial (fun hHeld => ?_)
              clear hK K h4
              (try simp only [Act.put, List.setIfInBounds_toArray, List.set_cons_zero, List.set_cons_succ])
              refine wpAnyH_ready (rs := [4]) (by kernel_rfl) (by simp) ?_
              refine AllReadyH.cons (o := ⟨none, _, _, _, _, _⟩) rfl (fun K hK => ?_) AllReadyH.nil
              rw [if_pos (by rfl)]
              refine wp_store_mid 26 _ _ rfl _ 0 (cellsL G).toArray rfl rfl (b4'.there G) (info26' G) (cellsL_all G) ?_
              simp only [List.toList_toArray]
              have o5 := o4.store b4' G
              obtain ⟨W6, hW6, B6, R6, K6⟩ := store_step b4' r4 k4 hB4 hp0 l4 G
              rw [hW6] at o5 ⊢
              refine hK.out _ _ trivial (fun hHeld => ?_)
              clear hK K
              (try simp only [Act.put, List.setIfInBounds_toArray, List.set_cons_zero, List.set_cons_succ])
              refine wpAnyH_done (by kernel_rfl) ?_ _
              refine NoPanic.normal ?_
              go_wp2_with fail
              go_meet
              exact ⟨rfl, B6, R6, K6, o5⟩
          obtain ⟨rfl, B6, R6, K6, o6⟩ := hcut
          clear B2 R2 K2 M2 O2 CC1 CC2
          cases A2 with
          | none =>
            go_wp2
            go_loopw [10] (fun i wr => ∃ j : Nat, j ≤ ns.length ∧ i = .int .i64 j ∧ Box wr b4 G ∧ RBox wr r (insL g (ns.take j)) ∧ KeptT w wr ∧ Rows none ns wr) (fun i _ => ns.length - (intOf i).toNat)
            case atStart => exact ⟨0, Nat.zero_le _, rfl, B6, R6, K6, o6⟩
            case round =>
              clear B6 R6 K6 o6
              obtain ⟨j, hj, rfl, B, R, K, o⟩ := hrel
              by_cases hjl : j < ns.length
              · obtain ⟨y, hy, hcell⟩ := o j hjl
                cases hy
              · obtain rfl : j = ns.length := by omega
                go_wp2_with fail
                go_meet
                exact ⟨G, B, R.congr (fun k hk => by rw [List.take_length, HE.out k]), K⟩
          | some y0 =>
            go_wp2
            go_loopw [10] (fun i wr => ∃ j : Nat, j ≤ ns.length ∧ i = .int .i64 j ∧ Box wr b4 G ∧ RBox wr r (insL g (ns.take j)) ∧ KeptT w wr ∧ Rows (some y0) ns wr) (fun i _ => ns.length - (intOf i).toNat)
            case atStart => exact ⟨0, Nat.zero_le _, rfl, B6, R6, K6, o6⟩
            case round =>
              clear B6 R6 K6 o6
              obtain ⟨j, hj, rfl, B, R, K, o⟩ := hrel
              by_cases hjl : j < ns.length
              · obtain ⟨y, hy, hcell⟩ := o j hjl
                cases hy
                have HS := Lib.hid (insL_snoc g ns j hjl)
                have hi0 : (0 : Int) ≤ (j : Int) := by omega
                have hi1 : (j : Int) < (ns.length : Int) := by omega
                generalize insL g (ns.take j) = gj at *
                generalize ns.getD j 0 = z at *
                go_wp2_with (go_at_call 16; refine (put_more R z true).mono ?_; rintro e w7 ⟨rfl, R7, h7, hp7⟩)
                go_roundw
                case rel => exact ⟨_, _, _, _, _, _, _, _, _, _, _, _, _, ⟨j + 1, by omega, by go_num, B.below h7 l4, by rw [HS.out, ← putF_true]; exact R7, kept_below K h7 hB5 hp0, o.put R hp7⟩, rfl⟩
                case measure => simp [intOf]; omega
              · obtain rfl : j = ns.length := by omega
                go_wp2_with fail
                go_meet
                exact ⟨G, B, R.congr (fun k hk => by rw [List.take_length, HE.out k]), K⟩
        · have CC1 := Lib.hid (fun w hv => of_nums (.slice A2 ns.length c2) ns w hv hsz)
          have CC2 := Lib.hid (fun w => minus_any g (insL noneF ns) w)
          have HE := Lib.hid (minus_end g ns)
          generalize insL noneF ns = gn at *
          generalize hG : minusF g gn = G at *
          go_upto_region 31 with fail
          go_cut [9] from 99 to 102 (fun s9 wx => s9 = .slice A2 ns.length c2 ∧ Box wx b4 G ∧ RBox wx r g ∧ KeptT w wx ∧ Rows A2 ns wx)
          case first =>
            refine wp_region_noPanic ?_
            refine wp_region_held_drew (S := fun _ => True) (by kernel_rfl) trivial (fun hHeld => ?_)
            refine wpAnyH_take (i := 1) (oi := ⟨some 100, _, _, _, _, _⟩) (v := .slice A2 ns.length c2) rfl (by kernel_rfl) (by kernel_rfl) (by kernel_rfl) (fun _ _ _ h => h) (Or.inl ⟨by rfl, ?_⟩) trivial ?_
            · intro w0 hSw
              go_simp
              (try with_reducible rfl)
            (try simp only [Act.put, List.setIfInBounds_toArray, List.set_cons_zero, List.set_cons_succ])
            have b2 := B2.drew
            have k2 := K2.step (below_drew w2)
            have r2 := R2.later (below_drew w2)
            have m2 := M2.out.later (below_drew w2)
            have o2 := O2.later (below_drew w2)
            generalize w2.drew = v2 at *
            refine wpAnyH_ready (rs := [0, 2]) (by kernel_rfl) (by simp) ?_
            refine AllReadyH.cons (o := ⟨some 99, _, _, _, _, _⟩) rfl (fun K hK => ?_) (AllReadyH.cons (o := ⟨some 101, _, _, _, _, _⟩) rfl (fun K hK => ?_) AllReadyH.nil)
            · rw [if_pos (by rfl)]
              refine wp_load_mid 26 _ rfl _ 0 rfl (cellsL g) _ (b2).range Tryd.underlying26 rfl (info26 _) ?_
              refine hK.out _ _ trivial (fun hHeld => ?_)
              clear hK K
              (try simp only [Act.put, List.setIfInBounds_toArray, List.set_cons_zero, List.set_cons_succ])
              refine wpAnyH_ready (rs := [2]) (by kernel_rfl) (by simp) ?_
              refine AllReadyH.cons (o := ⟨some 101, _, _, _, _, _⟩) rfl (fun K hK => ?_) AllReadyH.nil
              go_simp
              refine (CC1.out _ m2).mono ?_
              rintro e v3 ⟨rfl, h3⟩
              have b3 := b2.later h3
              have k3 := k2.step h3
              have r3 := r2.later h3
              have o3 := o2.later h3
              refine hK.out _ _ trivial (fun hHeld => ?_)
              clear hK K h3
              (try simp only [Act.put, List.setIfInBounds_toArray, List.set_cons_zero, List.set_cons_succ])
              refine wpAnyH_ready (rs := [3]) (by kernel_rfl) (by simp) ?_
              refine AllReadyH.cons (o := ⟨some 102, _, _, _, _, _⟩) rfl (fun K hK => ?_) AllReadyH.nil
              go_simp
              refine (CC2.out _).mono ?_
              rintro e v4 ⟨rfl, h4⟩
              have b4' := b3.later h4
              have k4 := k3.step h4
              have r4 := r3.later h4
              have o4 := o3.later h4
              refine hK.out _ _ trivial (fun hHeld => ?_)
              clear hK K h4
              (try simp only [Act.put, List.setIfInBounds_toArray, List.set_cons_zero, List.set_cons_succ])
              refine wpAnyH_ready (rs := [4]) (by kernel_rfl) (by simp) ?_
              refine AllReadyH.cons (o := ⟨none, _, _, _, _, _⟩) rfl (fun K hK => ?_) AllReadyH.nil
              rw [if_pos (by rfl)]
              refine wp_store_mid 26 _ _ rfl _ 0 (cellsL G).toArray rfl rfl (b4'.there G) (info26' G) (cellsL_all G) ?_
              simp only [List.toList_toArray]
              have o5 := o4.store b4' G
              obtain ⟨W6, hW6, B6, R6, K6⟩ := store_step b4' r4 k4 hB4 hp0 l4 G
              rw [hW6] at o5 ⊢
              refine hK.out _ _ trivial (fun hHeld => ?_)
              clear hK K
              (try simp only [Act.put, List.setIfInBounds_toArray, List.set_cons_zero, List.set_cons_succ])
              refine wpAnyH_done (by kernel_rfl) ?_ _
              refine NoPanic.normal ?_
              go_wp2_with fail
              go_meet
              exact ⟨rfl, B6, R6, K6, o5⟩
            · go_simp
              refine (CC1.out _ m2).mono ?_
              rintro e v3 ⟨rfl, h3⟩
              have b3 := b2.later h3
              have k3 := k2.step h3
              have r3 := r2.later h3
              have o3 := o2.later h3
              refine hK.out _ _ trivial (fun hHeld => ?_)
              clear hK K h3
              (try simp only [Act.put, List.setIfInBounds_toArray, List.set_cons_zero, List.set_cons_succ])
              refine wpAnyH_ready (rs := [0]) (by kernel_rfl) (by simp) ?_
              refine AllReadyH.cons (o := ⟨some 99, _, _, _, _, _⟩) rfl (fun K hK => ?_) AllReadyH.nil
              rw [if_pos (by rfl)]
              refine wp_load_mid 26 _ rfl _ 0 rfl (cellsL g) _ (b3).range Tryd.underlying26 rfl (info26 _) ?_
              refine hK.out _ _ trivial (fun hHeld => ?_)
              clear hK K
              (try simp only [Act.put, List.setIfInBounds_toArray, List.set_cons_zero, List.set_cons_succ])
              refine wpAnyH_ready (rs := [3]) (by kernel_rfl) (by simp) ?_
              refine AllReadyH.cons (o := ⟨some 102, _, _, _, _, _⟩) rfl (fun K hK => ?_) AllReadyH.nil
              go_simp
              refine (CC2.out _).mono ?_
              rintro e v4 ⟨rfl, h4⟩
              have b4' := b3.later h4
              have k4 := k3.step h4
              have r4 := r3.later h4
              have o4 := o3.later h4
              refine hK.out _ _ trivial (fun hHeld => ?_)
              clear hK K h4
              (try simp only [Act.put, List.setIfInBounds_toArray, List.set_cons_zero, List.set_cons_succ])
              refine wpAnyH_ready (rs := [4]) (by kernel_rfl) (by simp) ?_
              refine AllReadyH.cons (o := ⟨none, _, _, _, _, _⟩) rfl (fun K hK => ?_) AllReadyH.nil
              rw [if_pos (by rfl)]
              refine wp_store_mid 26 _ _ rfl _ 0 (cellsL G).toArray rfl rfl (b4'.there G) (info26' G) (cellsL_all G) ?_
              simp only [List.toList_toArray]
              have o5 := o4.store b4' G
              obtain ⟨W6, hW6, B6, R6, K6⟩ := store_step b4' r4 k4 hB4 hp0 l4 G
              rw [hW6] at o5 ⊢
              refine hK.out _ _ trivial (fun hHeld => ?_)
              clear hK K
              (try simp only [Act.put, List.setIfInBounds_toArray, List.set_cons_zero, List.set_cons_succ])
              refine wpAnyH_done (by kernel_rfl) ?_ _
              refine NoPanic.normal ?_
              go_wp2_with fail
              go_meet
              exact ⟨rfl, B6, R6, K6, o5⟩
          obtain ⟨rfl, B6, R6, K6, o6⟩ := hcut
          clear B2 R2 K2 M2 O2 CC1 CC2
          cases A2 with
          | none =>
            go_wp2
            go_loopw [11] (fun i wr => ∃ j : Nat, j ≤ ns.length ∧ i = .int .i64 j ∧ Box wr b4 G ∧ RBox wr r (delL g (ns.take j)) ∧ KeptT w wr ∧ Rows none ns wr) (fun i _ => ns.length - (intOf i).toNat)
            case atStart => exact ⟨0, Nat.zero_le _, rfl, B6, R6, K6, o6⟩
            case round =>
              clear B6 R6 K6 o6
              obtain ⟨j, hj, rfl, B, R, K, o⟩ := hrel
              by_cases hjl : j < ns.length
              · obtain ⟨y, hy, hcell⟩ := o j hjl
                cases hy
              · obtain rfl : j = ns.length := by omega
                go_wp2_with fail
                go_meet
                exact ⟨G, B, R.congr (fun k hk => by rw [List.take_length, HE.out k]), K⟩
          | some y0 =>
            go_wp2
            go_loopw [11] (fun i wr => ∃ j : Nat, j ≤ ns.length ∧ i = .int .i64 j ∧ Box wr b4 G ∧ RBox wr r (delL g (ns.take j)) ∧ KeptT w wr ∧ Rows (some y0) ns wr) (fun i _ => ns.length - (intOf i).toNat)
            case atStart => exact ⟨0, Nat.zero_le _, rfl, B6, R6, K6, o6⟩
            case round =>
              clear B6 R6 K6 o6
              obtain ⟨j, hj, rfl, B, R, K, o⟩ := hrel
              by_cases hjl : j < ns.length
              · obtain ⟨y, hy, hcell⟩ := o j hjl
                cases hy
                have HS := Lib.hid (delL_snoc g ns j hjl)
                have hi0 : (0 : Int) ≤ (j : Int) := by omega
                have hi1 : (j : Int) < (ns.length : Int) := by omega
                generalize delL g (ns.take j) = gj at *
                generalize ns.getD j 0 = z at *
                go_wp2_with (go_at_call 16; refine (put_more R z false).mono ?_; rintro e w7 ⟨rfl, R7, h7, hp7⟩)
                go_roundw
                case rel => exact ⟨_, _, _, _, _, _, _, _, _, _, _, _, _, ⟨j + 1, by omega, by go_num, B.below h7 l4, by rw [HS.out, ← putF_false]; exact R7, kept_below K h7 hB5 hp0, o.put R hp7⟩, rfl⟩
                case measure => simp [intOf]; omega
              · obtain rfl : j = ns.length := by omega
                go_wp2_with fail
                go_meet
                exact ⟨G, B, R.congr (fun k hk => by rw [List.take_length, HE.out k]), K⟩
        · have CC1 := Lib.hid (fun w => below_any n' w hn1 hn2)
          have CC2 := Lib.hid (fun w => minus_any g (belowF n') w)
          have HE := Lib.hid (fun j h1 h2 k hk => fromF_end g j n' h1 h2 k hk)
          generalize belowF n' = gn at *
          generalize hG : minusF g gn = G at *
          go_upto_region 13 with fail
          go_cut [8] from 47 to 50 (fun s8 wx => s8 = .int .i64 n' ∧ Box wx b4 G ∧ RBox wx r g ∧ KeptT w wx ∧ Rows A2 ns wx)
          case first =>
            refine wp_region_noPanic ?_
            refine wp_region_held_drew (S := fun _ => True) (by kernel_rfl) trivial (fun hHeld => ?_)
            refine wpAnyH_take (i := 1) (oi := ⟨some 48, _, _, _, _, _⟩) (v := .int .i64 n') rfl (by kernel_rfl) (by kernel_rfl) (by kernel_rfl) (fun _ _ _ h => h) (Or.inl ⟨by rfl, ?_⟩) trivial ?_
            · intro w0 hSw
              go_simp
              (try with_reducible rfl)
            (try simp only [Act.put, List.setIfInBounds_toArray, List.set_cons_zero, List.set_cons_succ])
            have b2 := B2.drew
            have k2 := K2.step (below_drew w2)
            have r2 := R2.later (below_drew w2)
            have m2 := M2.out.later (below_drew w2)
            have o2 := O2.later (below_drew w2)
            generalize w2.drew = v2 at *
            refine wpAnyH_ready (rs := [0, 2]) (by kernel_rfl) (by simp) ?_
            refine AllReadyH.cons (o := ⟨some 47, _, _, _, _, _⟩) rfl (fun K hK => ?_) (AllReadyH.cons (o := ⟨some 49, _, _, _, _, _⟩) rfl (fun K hK => ?_) AllReadyH.nil)
            · rw [if_pos (by rfl)]
              refine wp_load_mid 26 _ rfl _ 0 rfl (cellsL g) _ (b2).range Tryd.underlying26 rfl (info26 _) ?_
              refine hK.out _ _ trivial (fun hHeld => ?_)
              clear hK K
              (try simp only [Act.put, List.setIfInBounds_toArray, List.set_cons_zero, List.set_cons_succ])
              refine wpAnyH_ready (rs := [2]) (by kernel_rfl) (by simp) ?_
              refine AllReadyH.cons (o := ⟨some 49, _, _, _, _, _⟩) rfl (fun K hK => ?_) AllReadyH.nil
              go_simp
              refine (CC1.out _).mono ?_
              rintro e v3 ⟨rfl, h3⟩
              have b3 := b2.later h3
              have k3 := k2.step h3
              have r3 := r2.later h3
              have o3 := o2.later h3
              refine hK.out _ _ trivial (fun hHeld => ?_)
              clear hK K h3
              (try simp only [Act.put, List.setIfInBounds_toArray, List.set_cons_zero, List.set_cons_succ])
              refine wpAnyH_ready (rs := [3]) (by kernel_rfl) (by simp) ?_
              refine AllReadyH.cons (o := ⟨some 50, _, _, _, _, _⟩) rfl (fun K hK => ?_) AllReadyH.nil
              go_simp
              refine (CC2.out _).mono ?_
              rintro e v4 ⟨rfl, h4⟩
              have b4' := b3.later h4
              have k4 := k3.step h4
              have r4 := r3.later h4
              have o4 := o3.later h4
              refine hK.out _ _ trivial (fun hHeld => ?_)
              clear hK K h4
              (try simp only [Act.put, List.setIfInBounds_toArray, List.set_cons_zero, List.set_cons_succ])
              refine wpAnyH_ready (rs := [4]) (by kernel_rfl) (by simp) ?_
              refine AllReadyH.cons (o := ⟨none, _, _, _, _, _⟩) rfl (fun K hK => ?_) AllReadyH.nil
              rw [if_pos (by rfl)]
              refine wp_store_mid 26 _ _ rfl _ 0 (cellsL G).toArray rfl rfl (b4'.there G) (info26' G) (cellsL_all G) ?_
              simp only [List.toList_toArray]
              have o5 := o4.store b4' G
              obtain ⟨W6, hW6, B6, R6, K6⟩ := store_step b4' r4 k4 hB4 hp0 l4 G
              rw [hW6] at o5 ⊢
              refine hK.out _ _ trivial (fun hHeld => ?_)
              clear hK K
              (try simp only [Act.put, List.setIfInBounds_toArray, List.set_cons_zero, List.set_cons_succ])
              refine wpAnyH_done (by kernel_rfl) ?_ _
              refine NoPanic.normal ?_
              go_wp2_with fail
              go_meet
              exact ⟨rfl, B6, R6, K6, o5⟩
            · go_simp
              refine (CC1.out _).mono ?_
              rintro e v3 ⟨rfl, h3⟩
              have b3 := b2.later h3
              have k3 := k2.step h3
              have r3 := r2.later h3
              have o3 := o2.later h3
              refine hK.out _ _ trivial (fun hHeld => ?_)
              clear hK K h3
              (try simp only [Act.put, List.setIfInBounds_toArray, List.set_cons_zero, List.set_cons_succ])
              refine wpAnyH_ready (rs := [0]) (by kernel_rfl) (by simp) ?_
              refine AllReadyH.cons (o := ⟨some 47, _, _, _, _, _⟩) rfl (fun K hK => ?_) AllReadyH.nil
              rw [if_pos (by rfl)]
              refine wp_load_mid 26 _ rfl _ 0 rfl (cellsL g) _ (b3).range Tryd.underlying26 rfl (info26 _) ?_
              refine hK.out _ _ trivial (fun hHeld => ?_)
              clear hK K
              (try simp only [Act.put, List.setIfInBounds_toArray, List.set_cons_zero, List.set_cons_succ])
              refine wpAnyH_ready (rs := [3]) (by kernel_rfl) (by simp) ?_
              refine AllReadyH.cons (o := ⟨some 50, _, _, _, _, _⟩) rfl (fun K hK => ?_) AllReadyH.nil
              go_simp
              refine (CC2.out _).mono ?_
              rintro e v4 ⟨rfl, h4⟩
              have b4' := b3.later h4
              have k4 := k3.step h4
              have r4 := r3.later h4
              have o4 := o3.later h4
              refine hK.out _ _ trivial (fun hHeld => ?_)
              clear hK K h4
              (try simp only [Act.put, List.setIfInBounds_toArray, List.set_cons_zero, List.set_cons_succ])
              refine wpAnyH_ready (rs := [4]) (by kernel_rfl) (by simp) ?_
              refine AllReadyH.cons (o := ⟨none, _, _, _, _, _⟩) rfl (fun K hK => ?_) AllReadyH.nil
              rw [if_pos (by rfl)]
              refine wp_store_mid 26 _ _ rfl _ 0 (cellsL G).toArray rfl rfl (b4'.there G) (info26' G) (cellsL_all G) ?_
              simp only [List.toList_toArray]
              have o5 := o4.store b4' G
              obtain ⟨W6, hW6, B6, R6, K6⟩ := store_step b4' r4 k4 hB4 hp0 l4 G
              rw [hW6] at o5 ⊢
              refine hK.out _ _ trivial (fun hHeld => ?_)
              clear hK K
              (try simp only [Act.put, List.setIfInBounds_toArray, List.set_cons_zero, List.set_cons_succ])
              refine wpAnyH_done (by kernel_rfl) ?_ _
              refine NoPanic.normal ?_
              go_wp2_with fail
              go_meet
              exact ⟨rfl, B6, R6, K6, o5⟩
          obtain ⟨rfl, B6, R6, K6, o6⟩ := hcut
          clear B2 R2 K2 M2 O2 CC1 CC2
          go_wp2
          go_loopw [12] (fun i wr => ∃ j : Nat, j ≤ 1024 ∧ (j = 0 ∨ (j : Int) ≤ n') ∧ i = .int .i64 j ∧ Box wr b4 G ∧ RBox wr r (fromF g j) ∧ KeptT w wr) (fun i _ => 1024 - (intOf i).toNat)
          case atStart => exact ⟨0, by omega, .inl rfl, rfl, B6, R6.congr (fun k hk => by simp [fromF]), K6⟩
          case round =>
            clear B6 R6 K6 o6
            obtain ⟨j, hj, hj1, rfl, B, R, K⟩ := hrel
            by_cases hlt : (j : Int) < n'
            · have hd1 : decide ((j : Int) < n') = true := decide_eq_true hlt
              by_cases hj2 : j < 1024
              · have hd2 : decide ((j : Int) < 1024) = true := decide_eq_true (by omega)
                have HS := Lib.hid (fromF_succ g j)
                generalize fromF g j = gj at *
                go_wp2_with (go_at_call 16; refine (put_more R (j : Int) false).mono ?_; rintro e w7 ⟨rfl, R7, h7, hp7⟩)
                go_roundw
                case rel => exact ⟨j + 1, by omega, .inr (by omega), by go_num, B.below h7 l4, by rw [← HS.out]; exact R7, kept_below K h7 hB5 hp0⟩
                case measure => simp [intOf]; omega
              · obtain rfl : j = 1024 := by omega
                have hd2 : decide (((1024 : Nat) : Int) < 1024) = false := by decide
                have RG : RBox wr r G := R.congr (fun k hk => HE.out 1024 hj1 (.inr rfl) k hk)
                go_wp2_with fail
                go_meet
                exact ⟨G, B, RG, K⟩
            · have hd1 : decide ((j : Int) < n') = false := decide_eq_false hlt
              have RG : RBox wr r G := R.congr (fun k hk => HE.out j hj1 (.inl (by omega)) k hk)
              go_wp2_with fail
              go_meet
              exact ⟨G, B, RG, K⟩
      obtain ⟨g', B3, R3, K3⟩ := hcut
      go_wp2_with (first
        | ((with_reducible show wpList _ _ _ (⟨some 115, _, _, _, _, _⟩ :: _) _ _); refine wpList_load_mid rfl 26 _ rfl _ _ rfl _ _ B3.range Tryd.underlying26 rfl (info26 _) ?_)
        | (go_at_call 13; refine (looks_any g' r _ K3.2 R3).mono ?_; rintro e w4 ⟨rfl, h4⟩; have K4 := K3.step h4; have B4 := B3.later h4; have R4 := R3.later h4; clear h4))
      go_roundw
      case rel => exact ⟨k + 1, g', by omega, by omega, by go_num, B4, R4, K4⟩
      case measure => simp [intOf]; omega
    · by_cases hkl : k = len
      · subst hkl
        have hd1 : decide ((k : Int) < (k : Int)) = false := decide_eq_false (by omega)
        clear hlt
        go_wp2
        go_ret
        exact ⟨rfl, K.1⟩
      · have e20 : k = 20 := by omega
        subst e20
        have hd1 : decide (((20 : Nat) : Int) < (len : Int)) = true := decide_eq_true (by omega)
        have hd2 : decide (((20 : Nat) : Int) < 20) = false := by decide
        clear hlt
        go_wp2
        go_ret
        exact ⟨rfl, K.1⟩
end Go.Proofs.YthmngibmpkgjkaaDoor
