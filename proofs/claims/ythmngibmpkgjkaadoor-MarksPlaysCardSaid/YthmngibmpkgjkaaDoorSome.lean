/- The law's own some: each number as it stands, and by its lowest 10 bits. -/
import Derived.Test.YthmngibmpkgjkaaDoorAwake
import Derived.Maps.AppendAt
import Derived.Laws.AppendOwn
import Derived.Deep.RegionLaw
namespace Go.Proofs.YthmngibmpkgjkaaDoor
open Go.RowKit
set_option linter.unusedVariables false

def cellsI (ns : List Int) : List Value := ns.map (Value.int .i64)
def pairsL (zs : List Int) : List Int := zs.flatMap fun z => [z, z % 1024]
def someL (zs : List Int) : List Int := pairsL (zs.take 40)
theorem pairsL_length (zs : List Int) : (pairsL zs).length = 2 * zs.length := by
  induction zs with
  | nil => rfl
  | cons z zs ih => simp only [pairsL, List.flatMap_cons, List.length_append, List.length_cons, List.length_nil] at *; omega
theorem pairsL_snoc (zs : List Int) (k : Nat) (hk : k < zs.length) : pairsL (zs.take (k + 1)) = pairsL (zs.take k) ++ [zs.getD k 0, zs.getD k 0 % 1024] := by
  rw [List.take_succ_eq_append_getElem hk]
  simp only [pairsL, List.flatMap_append, List.getD_eq_getElem?_getD, List.getElem?_eq_getElem hk, Option.getD_some]
  rfl
theorem pairsL_in (zs : List Int) (h : InI zs) : InI (pairsL zs) := by
  intro n hn
  simp only [pairsL, List.mem_flatMap] at hn
  obtain ⟨z, hz, hn⟩ := hn
  have := h z hz
  simp only [List.mem_cons, List.not_mem_nil, or_false] at hn
  rcases hn with rfl | rfl
  · exact this
  · omega
theorem someL_in (zs : List Int) (h : InI zs) : InI (someL zs) := pairsL_in _ fun n hn => h n (List.mem_of_mem_take hn)

theorem infoI : (Tryd.prog.info? 3).map (fun i => (i.zero, i.size, i.bytes)) = some (some (.int .i64 0), 1, 8) := by kernel_rfl
theorem own_nums {w : World} {B : Nat} {v : Value} {ns : List Int} (h : w.ownsRow B 3 1 v ns.length (cellsI ns)) : Nums w v ns := by
  have hc := fun g (hg : v.ownBlock = some g) => h.cells hg
  rcases h.2 with ⟨hv, h0⟩ | ⟨g, cap, cur, hv, _, _, hle, hmax, _, _⟩
  · exact .inl ⟨hv, List.eq_nil_of_length_eq_zero h0⟩
  · subst hv
    refine .inr ⟨⟨g, 0, none⟩, cap, rfl, hle, hmax, fun i hi => ?_⟩
    refine hc g rfl i _ ?_
    simp [cellsI, List.getD_eq_getElem?_getD, hi]

/-- append onto a row of the call's own, as one step of a region that draws. -/
theorem step_append_own {ops : Array Oper} {o : Oper} {a : Act} {w : World} {K : Act → World → Prop} {Q : Exit → Act → World → Prop} {E : Prop}
    (hg : o.guard = none) (s x : Operand) (hop : o.op = Op.call { callee := Callee.builtin Builtin.append, args := #[s, x], argTypes := #[22, 22] })
    (base : Nat) (v : Value) (n : Nat) (xs : List Value) (hs : a.eval s = v) (hown : w.ownsRow base 3 1 v n xs)
    (ad : Addr) (m c : Nat) (news : List Value) (hx : a.eval x = .slice (some ad) m c) (hn : news.length = m) (hc : ∀ j u, news[j]? = some u → w.cell? (ad.add j) = some u) (h1c : ∀ u ∈ news, u.oneCell' = true)
    (b1 : n + m ≤ 1000000) (hbase : base ≤ w.heap.size)
    (hK : ∀ v' w', w'.ownsRow base 3 1 v' (n + m) (xs ++ news) → w.grownBy w' v.ownBlock → K (a.put o.dst v') w') :
    if Region.wanted o (yielded ops a.tmps) = true then Oper.wp Tryd.prog o a w K Q else E := by
  have hw : Region.wanted o (yielded ops a.tmps) = true := by simp [Region.wanted, hg]
  obtain ⟨i0, hi, hz0, hz1, hz2⟩ := info_parts infoI
  rw [if_pos hw]
  obtain ⟨v', w', hrun, r1, r2, _⟩ := run_append_own (P := Tryd.prog) w base 22 o.type 3 i0 (.int .i64 0) 1 8 Tryd.underlying22 hi hz0 hz1 hz2 rfl (by omega) v n xs hown ad m c news (by omega) hc h1c (by unfold maxLen; omega) (by omega) hbase
  unfold Oper.wp
  simp [execOp, hop, resolve, invoke, builtin, hs, hx, hrun, Result.andThen]
  exact hK v' w' r1 r2

theorem two_new (w : World) (x y : Int) : ∀ j u, [Value.int .i64 x, Value.int .i64 y][j]? = some u → (w.alloc (.cells #[.int .i64 x, .int .i64 y] 3)).cell? ((⟨w.heap.size, 0, none⟩ : Addr).add j) = some u := by
  intro j u hj
  match j, hj with
  | 0, hj => simp at hj; subst hj; simp [Addr.add]
  | 1, hj => simp at hj; subst hj; simp [Addr.add]

/-- What a round of some holds on to. -/
def SB (w : World) (x : Addr) (k : Nat) (W : World) : Prop := Below w.heap.size w W ∧ (x.add k).block < w.heap.size
theorem some_step {w W W' : World} {x : Addr} {k : Nat} {u : Value} (h : W.cell? (x.add k) = some u ∧ SB w x k W) (hb : Below w.heap.size W W') : W'.cell? (x.add k) = some u ∧ SB w x k W' :=
  ⟨by rw [hb.cell (p := x.add k) h.2.2]; exact h.1, h.2.1.trans hb, h.2.2⟩
theorem some_alloc {w W : World} {x : Addr} {k : Nat} {u : Value} (o : Obj) (h : W.cell? (x.add k) = some u ∧ SB w x k W) : (W.alloc o).cell? (x.add k) = some u ∧ SB w x k (W.alloc o) :=
  some_step h ((Below.refl _ _).alloc h.2.1.size _)
theorem some_drew {w W : World} {x : Addr} {k : Nat} {u : Value} (h : W.cell? (x.add k) = some u ∧ SB w x k W) : W.drew.cell? (x.add k) = some u ∧ SB w x k W.drew :=
  some_step h ((Below.refl _ _).drew)
theorem some_grown {w W W' : World} {x : Addr} {k n : Nat} {u v : Value} {xs : List Value} (h : W.cell? (x.add k) = some u ∧ SB w x k W) (ho : W.ownsRow w.heap.size 3 1 v n xs) (hg : W.grownBy W' v.ownBlock) : W'.cell? (x.add k) = some u ∧ SB w x k W' :=
  some_step h ((Below.refl _ _).grown hg h.2.1.size fun k hk => (ho.lt k hk).1)

theorem own_drew {W : World} {B e n : Nat} {v : Value} {xs : List Value} (h : W.ownsRow B e 1 v n xs) : W.drew.ownsRow B e 1 v n xs := h
theorem two_new_drew (w : World) (x y : Int) : ∀ j u, [Value.int .i64 x, Value.int .i64 y][j]? = some u → ((w.alloc (.cells #[.int .i64 x, .int .i64 y] 3)).drew).cell? ((⟨w.heap.size, 0, none⟩ : Addr).add j) = some u := two_new w x y

set_option maxRecDepth 100000 in
set_option maxHeartbeats 2000000 in
theorem some_row (x : Addr) (len cap : Nat) (zs : List Int) (w : World) (hlen : zs.length = len) (hmax : cap ≤ maxLen) (hle : len ≤ cap) (hc : ∀ i, i < len → w.cell? (x.add i) = some (.int .i64 (zs.getD i 0))) :
    Calls Tryd.prog 11 #[.slice (some x) len cap] w fun e w' => ∃ v, e = .returned v ∧ Nums w' v (someL zs) ∧ Below w.heap.size w w' := by
  unfold maxLen at hmax
  have HC := Lib.hid hc
  have HL := Lib.hid hlen
  clear hc hlen
  go_enter Tryd.func11, Tryd.ntmps11
  go_wp2
  go_loopw [3, 4] (fun out i wr => ∃ (k : Nat) (v : Value), out = v ∧ k ≤ len ∧ k ≤ 40 ∧ i = .int .i64 k ∧ wr.ownsRow w.heap.size 3 1 v (2 * k) (cellsI (pairsL (zs.take k))) ∧ Below w.heap.size w wr) (fun _ i _ => len - (intOf i).toNat)
  case atStart => exact ⟨0, _, rfl, Nat.zero_le _, by omega, rfl, World.ownsRow_nil _ _ _ _, Below.refl _ _⟩
  case round =>
    obtain ⟨k, v, rfl, hk, hk4, rfl, hown, hb⟩ := hrel
    by_cases hlt : k < len ∧ k < 40
    · obtain ⟨hlt, hl4⟩ := hlt
      have hkz : k < zs.length := by rw [HL.out]; exact hlt
      have h0 := HC.out k hlt
      have hcell : wr.cell? (x.add k) = some (.int .i64 (zs.getD k 0)) := by
        rw [hb.cell (World.block_lt_of_cell? w _ h0)]; exact h0
      have hSB : SB w x k wr := ⟨hb, World.block_lt_of_cell? w _ h0⟩
      have HS := Lib.hid (pairsL_snoc zs k hkz)
      have a1 := and1023 (zs.getD k 0)
      have hi0 : (0 : Int) ≤ (k : Int) := by omega
      have hi1 : (k : Int) ≤ (len : Int) := by omega
      have hd4 : decide ((k : Int) < 40) = true := decide_eq_true (by omega)
      have HO := Lib.hid hown
      have S0 := And.intro hcell hSB
      clear hkz h0 hown hb hcell hSB
      generalize zs.getD k 0 = z at *
      generalize pairsL (zs.take k) = ns at *
      go_wp2
      go_region_held3 (fun W => W.cell? (x.add k) = some (.int .i64 z) ∧ SB w x k W)
        (first | (exact some_drew S0) | (exact some_drew (some_alloc _ S0)) | assumption)
        (first
        | ((refine step_append_own rfl (.tmp 15) (.tmp 25) rfl w.heap.size _ (2 * k) (cellsI ns) rfl (own_drew (HO.out.alloc _)) _ 2 2 [.int .i64 z, .int .i64 (z % 1024)] rfl rfl (two_new_drew _ _ _) (by simp [Value.oneCell']) (by omega) (by have := S0.2.1.size; simp; omega) ?_); intro v' w' o1 g1; have hS1 := some_grown (some_drew (some_alloc _ S0)) (own_drew (HO.out.alloc _)) g1))
      have o2 : w'.ownsRow w.heap.size 3 1 v' (2 * (k + 1)) (cellsI (pairsL (zs.take (k + 1)))) := by
        rw [HS.out, show 2 * (k + 1) = 2 * k + 2 by omega]
        simpa [cellsI] using o1
      have hb2 : Below w.heap.size w w' := hS1.2.1
      have O2 := Lib.hid o2
      clear g1 o1 o2 hS1 S0 HO a1
      go_wp2
      go_roundw
      case rel => exact ⟨k + 1, _, rfl, by omega, by omega, by go_num, O2.out, hb2⟩
      case measure => simp [intOf]; omega
    · have hn : Nums wr _ (pairsL (zs.take k)) := own_nums (by rw [pairsL_length, List.length_take_of_le (by rw [HL.out]; exact hk)]; exact hown)
      have e : zs.take k = zs.take 40 := by
        by_cases h4 : k = 40
        · rw [h4]
        · rw [List.take_of_length_le (by rw [HL.out]; omega), List.take_of_length_le (by rw [HL.out]; omega)]
      rw [e] at hn
      have HN := Lib.hid hn
      have HB := Lib.hid hb
      clear hn e hown hb
      by_cases h1 : k < len
      · obtain rfl : k = 40 := by omega
        have h40 : decide ((40 : Int) < (len : Int)) = true := decide_eq_true (by omega)
        go_wp2
        go_ret
        exact ⟨_, rfl, HN.out, HB.out⟩
      · obtain rfl : k = len := by omega
        go_wp2
        go_ret
        exact ⟨_, rfl, HN.out, HB.out⟩

theorem some_nums (v : Value) (zs : List Int) (w : World) (hv : Nums w v zs) :
    Calls Tryd.prog 11 #[v] w fun e w' => ∃ v, e = .returned v ∧ Nums w' v (someL zs) ∧ Below w.heap.size w w' := by
  rcases hv with ⟨rfl, rfl⟩ | ⟨x, cap, rfl, hle, hmax, hc⟩
  · go_enter Tryd.func11, Tryd.ntmps11
    go_wp2
    go_rounds 1
    go_ret
    exact ⟨_, rfl, .inl ⟨rfl, rfl⟩, Below.refl _ _⟩
  · exact some_row x _ cap zs w rfl hmax hle hc
end Go.Proofs.YthmngibmpkgjkaaDoor
