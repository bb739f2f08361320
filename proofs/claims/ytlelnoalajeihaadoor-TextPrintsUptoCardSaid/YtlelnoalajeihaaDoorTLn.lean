/- The program's Line. -/
import Derived.Test.YtlelnoalajeihaaDoorMark
import Derived.Test.YtlelnoalajeihaaDoorSet0
import Derived.Deep.RegionHeld3
import Derived.Deep.DrawnRows
namespace Go.Proofs.YtlelnoalajeihaaDoor
open Go.RowKit
set_option linter.unusedVariables false
set_option linter.unusedSimpArgs false

def ahd : Nat → ByteArray
  | 0 => { data := #[32, 99, 61] }
  | 1 => { data := #[32, 116, 61] }
  | 2 => { data := #[32, 100, 61] }
  | 3 => { data := #[32, 106, 61] }
  | 4 => { data := #[32, 113, 61] }
  | _ => { data := #[32, 112, 61] }
def numZ (x : Ts) : Nat → Int
  | 0 => x.c
  | 1 => x.t
  | 2 => x.d
  | 3 => x.j
  | 4 => x.q
  | _ => x.p
theorem ahd_size (k : Nat) : (ahd k).size = 3 := by
  unfold ahd
  split <;> rfl
theorem numZ_in {x : Ts} (h : TsW x) (k : Nat) : in64 (numZ x k) := by
  unfold numZ
  split
  · exact h.c
  · exact h.t
  · exact h.d
  · exact h.j
  · exact h.q
  · exact h.p
/-- A line up to its k-th field. -/
def partL (x : Ts) : Nat → List UInt8
  | 0 => [116, 97, 115, 107, 32] ++ x.n.data.toList
  | k + 1 => partL x k ++ ((ahd k).data.toList ++ Lib.itoa (numZ x k))
theorem itoa_len {n : Int} (h : in64 n) : (Lib.itoa n).length ≤ 21 := by
  obtain ⟨h1, h2⟩ := h
  have key : ∀ u : Nat, u < 18446744073709551616 → (Lib.decDigits u).length ≤ 20 := fun u hu => by
    rw [Lib.decDigits_length]
    by_cases h0 : 1 ≤ u
    · exact dec20 h0 hu
    · rw [Lib.nDigits_small (by omega)]; omega
  unfold Lib.itoa
  split
  · have := key n.natAbs (by omega)
    simp only [List.length_cons]; omega
  · have := key n.toNat (by omega)
    omega
theorem partL_len {x : Ts} (h : TsW x) : ∀ k, (partL x k).length ≤ 5 + x.n.size + 24 * k
  | 0 => by
    have e := Lib.size_eq x.n
    simp only [partL, List.length_append, List.length_cons, List.length_nil]
    omega
  | k + 1 => by
    have ih := partL_len h k
    have h1 := itoa_len (numZ_in h k)
    have h2 : (ahd k).data.toList.length = 3 := by rw [← Lib.size_eq, ahd_size]
    simp only [partL, List.length_append, h2]
    omega
set_option maxRecDepth 100000 in
theorem six_at (x : Ts) (W : World) (k : Nat) (hk : k < 6) :
    (Instr.index 55 (.agg #[.string { data := #[32, 99, 61] }, .int .i64 x.c, .string { data := #[32, 116, 61] }, .int .i64 x.t, .string { data := #[32, 100, 61] }, .int .i64 x.d, .string { data := #[32, 106, 61] }, .int .i64 x.j, .string { data := #[32, 113, 61] }, .int .i64 x.q, .string { data := #[32, 112, 61] }, .int .i64 x.p]) (.int .i64 (k : Int))).run Tryd.prog W = .ok (.agg #[.string (ahd k), .int .i64 (numZ x k)]) W := by
  rcases (by omega : k = 0 ∨ k = 1 ∨ k = 2 ∨ k = 3 ∨ k = 4 ∨ k = 5) with rfl | rfl | rfl | rfl | rfl | rfl <;> rfl
/-- The box of a field. -/
structure FB (w0 : World) (b : Nat) (s : ByteArray) (n : Int) (W : World) : Prop where
  c0 : W.cell? ⟨b, 0, none⟩ = some (.string s)
  c1 : W.cell? ⟨b, 1, none⟩ = some (.int .i64 n)
  lt : b < W.heap.size
  bel : Below w0.heap.size w0 W
theorem FB.step {w0 W W' : World} {b g : Nat} {f : ByteArray} {n : Int} (h : FB w0 b f n W) (hk : Kept [g] W W') (hg : w0.heap.size ≤ g) (hne : b ≠ g) : FB w0 b f n W' := by
  have hb : b ∉ [g] := by simp; exact hne
  exact ⟨(hk.cell h.lt hb).trans h.c0, (hk.cell h.lt hb).trans h.c1, Nat.lt_of_lt_of_le h.lt hk.size, h.bel.trans (hk.below h.bel.size (by simp; exact hg))⟩
theorem FB.new {w0 W : World} (f : ByteArray) (n : Int) (hB : Below w0.heap.size w0 W) : FB w0 W.heap.size f n (W.alloc (.cells #[.string f, .int .i64 n] 54)).drew :=
  ⟨by show (W.alloc _).cell? _ = _; rw [cell_of_row _ _ _ _ _ _ (heap_alloc_new W _)]; rfl, by show (W.alloc _).cell? _ = _; rw [cell_of_row _ _ _ _ _ _ (heap_alloc_new W _)]; rfl, by simp, (hB.alloc hB.size _).trans ((below_drew _).mono (by have := hB.size; simp; omega))⟩
theorem strCells_bytes (s : ByteArray) : Lib.strCells s = Lib.byteCells s.data.toList := rfl
/-- A text turned into bytes. -/
theorem conv_own (W : World) (s : ByteArray) (hs : s.size ≤ 140737488355328) : ∃ cap W', (convert 9 45 (.string s)).run Tryd.prog W = .ok (.slice (some ⟨W.heap.size, 0, none⟩) s.size cap) W' ∧ OwnM W' W.heap.size cap (Lib.strCells s) ∧ Below W.heap.size W W' := by
  have hge := grownCap_ge W s.size 0 5
  have hcm := grownCap_le_maxLen W s.size 0 5 (by unfold maxLen; omega)
  have hz : (bytesRow s (grownCap W s.size 0 5)).size = grownCap W s.size 0 5 := by
    simp only [bytesRow, Array.size_append, Array.size_map, Array.size_replicate]
    have : s.data.size = s.size := rfl
    omega
  refine ⟨_, _, run_bytes_of_string W 9 45 5 s Tryd.underlying9 Tryd.underlying45 Tryd.underlying5, ⟨⟨_, _, heap_alloc_new W.drew _, .inr (by rw [hz]; exact Nat.le_refl _), hz, ?_⟩, by rw [Lib.strCells_length]; exact hge, hcm⟩, below_drew _ |>.trans (((Below.refl _ _).alloc (by simp) _))⟩
  simp only [bytesRow, Array.toList_append]
  rw [Lib.strCells_length]
  have e : s.size = (s.data.map (fun b => Value.int .u8 b.toNat)).toList.length := by
    rw [Lib.size_eq, Array.toList_map, List.length_map]
  rw [e, List.take_left]
  simp [Lib.strCells]
def AppN (n g : Nat) (xs : List Value) (l : List UInt8) (w : World) (e : Ending) (w' : World) : Prop := ∃ g' cap', e = .returned (.slice (some ⟨g', 0, none⟩) (n + l.length) cap') ∧ App g xs (Lib.byteCells l) w g' cap' w'
theorem app_int_n (B g cap n : Nat) (xs : List Value) (i : Int) (w : World) (hn : n = xs.length) (hi : in64 i) (hown : OwnM w g cap xs) (hB : B ≤ g) (hlim : n + 40 ≤ 140737488355328) (htab : Pow B w) :
    Calls Tryd.prog 24 #[.slice (some ⟨g, 0, none⟩) n cap, .int .i64 i, .int .i64 10] w (AppN n g xs (Lib.itoa i) w) := by
  subst hn
  exact app_int B g cap xs i w hi hown hB hlim htab
theorem ten_new (W : World) : ∀ j u', [Value.int .u8 10][j]? = some u' → (W.alloc (.cells #[.int .u8 10] 5)).cell? ((⟨W.heap.size, 0, none⟩ : Addr).add j) = some u' := by
  intro j u' hj
  match j, hj with
  | 0, hj => simp at hj; subst hj; simp [Addr.add]
set_option maxRecDepth 100000 in
set_option maxHeartbeats 16000000 in
theorem line_part (x : Ts) (w : World) (hx : TsW x) (hn : x.n.size ≤ 1099511627776) (htab : Pow w.heap.size w) :
    Calls Tryd.prog 11 #[tsV x] w fun e w' => e = .returned (.string (bs (partL x 6 ++ [10]))) ∧ Below w.heap.size w w' := by
  have HX := Lib.hid hx
  have HT := Lib.hid htab
  have PL := Lib.hid (fun k => partL_len hx k)
  have hcat : ∀ W, (Op.stringOp .add { data := #[116, 97, 115, 107, 32] } x.n).run Tryd.prog W = .ok (.string ({ data := #[116, 97, 115, 107, 32] } ++ x.n)) W := fun W => run_string_add_sum W _ _ (by have : ({ data := #[116, 97, 115, 107, 32] } : ByteArray).size = 5 := rfl; omega)
  have hsz : (({ data := #[116, 97, 115, 107, 32] } : ByteArray) ++ x.n).size = (partL x 0).length := by
    have e := Lib.size_eq x.n
    rw [ByteArray.size_append]
    simp only [partL, List.length_append, List.length_cons, List.length_nil]
    rw [e]
    rfl
  have hce : Lib.strCells (({ data := #[116, 97, 115, 107, 32] } : ByteArray) ++ x.n) = Lib.byteCells (partL x 0) := by
    rw [strCells_bytes, partL]
    congr 1
  generalize ({ data := #[116, 97, 115, 107, 32] } : ByteArray) ++ x.n = r at *
  obtain ⟨cap, W1, hcv, hO, hB1⟩ := conv_own (w.alloc (.cells #[.string x.n, .int .i64 x.c, .int .i64 x.t, .int .i64 x.d, .int .i64 x.j, .int .i64 x.q, .int .i64 x.p] 29)) r (by have := PL.out 0; omega)
  have bc : ∀ i v, (#[.string x.n, .int .i64 x.c, .int .i64 x.t, .int .i64 x.d, .int .i64 x.j, .int .i64 x.q, .int .i64 x.p] : Array Value)[i]? = some v → W1.cell? ⟨w.heap.size, i, none⟩ = some v := fun i v hv => by
    rw [hB1.cell (p := ⟨w.heap.size, i, none⟩) (by simp), cell_of_row _ _ _ _ _ _ (heap_alloc_new w _)]
    exact hv
  have c1 := bc 1 _ rfl
  have c2 := bc 2 _ rfl
  have c3 := bc 3 _ rfl
  have c4 := bc 4 _ rfl
  have c5 := bc 5 _ rfl
  have c6 := bc 6 _ rfl
  have hB2 : Below w.heap.size w W1 := ((Below.refl _ _).alloc (Nat.le_refl _) _).trans (hB1.mono (by simp))
  have SIX := Lib.hid (six_at x)
  have HO := Lib.hid hO
  have HB := Lib.hid hB2
  have HS := Lib.hid hsz
  have HC := Lib.hid hce
  obtain ⟨n, c, t, d, j, q, p⟩ := x
  simp only at hcat hcv c1 c2 c3 c4 c5 c6 hn SIX
  clear hsz hce hx hO hB1 hB2 bc htab
  have hz : (w.alloc (.cells #[.string n, .int .i64 c, .int .i64 t, .int .i64 d, .int .i64 j, .int .i64 q, .int .i64 p] 29)).heap.size = w.heap.size + 1 := by simp
  rw [hz] at HO hcv
  clear hz
  show Calls Tryd.prog 11 #[.agg #[.string n, .int .i64 c, .int .i64 t, .int .i64 d, .int .i64 j, .int .i64 q, .int .i64 p]] w _
  go_enter Tryd.func11, Tryd.ntmps11
  go_wp2
  go_loopw [3, 29] (fun v i wr => ∃ k g cap : Nat, k ≤ 6 ∧ i = .int .i64 k ∧ v = .slice (some ⟨g, 0, none⟩) (partL ⟨n, c, t, d, j, q, p⟩ k).length cap ∧ Hid (OwnM wr g cap (Lib.byteCells (partL ⟨n, c, t, d, j, q, p⟩ k)) ∧ w.heap.size ≤ g) ∧ Hid (Below w.heap.size w wr)) (fun _ i _ => 6 - (intOf i).toNat)
  case atStart => exact ⟨0, w.heap.size + 1, cap, by omega, rfl, by rw [HS.out], Lib.hid ⟨by rw [← HC.out]; exact HO.out, by omega⟩, HB⟩
  case round =>
    obtain ⟨k, g, cap, hk, rfl, rfl, hO, hB⟩ := hrel
    clear HO HB HC HS hcv hcat c1 c2 c3 c4 c5 c6
    by_cases hlt : k < 6
    · have ix := fun W => SIX.out W k hlt
      have hpl := PL.out k
      have hpl : _ ≤ 5 + n.size + 24 * k := hpl
      have hin := numZ_in HX.out k
      have h3 := ahd_size k
      have hstep := Lib.hid (show partL ⟨n, c, t, d, j, q, p⟩ (k + 1) = partL ⟨n, c, t, d, j, q, p⟩ k ++ ((ahd k).data.toList ++ Lib.itoa (numZ ⟨n, c, t, d, j, q, p⟩ k)) from rfl)
      generalize ahd k = f at *
      generalize numZ ⟨n, c, t, d, j, q, p⟩ k = z at *
      generalize partL ⟨n, c, t, d, j, q, p⟩ k = l at *
      generalize hp2 : partL ⟨n, c, t, d, j, q, p⟩ (k + 1) = l2 at *
      have HP2 := Lib.hid hp2
      clear SIX PL hp2
      go_upto_region 5 with (fail)
      have F0 := FB.new (w0 := w) f z hB.out
      have O0 := Lib.hid (hO.out.1.later (((Below.refl _ wr).alloc (Nat.le_refl _) (.cells #[.string f, .int .i64 z] 54)).trans ((below_drew _).mono (by simp))))
      have hgw := hO.out.1.lt
      have hg0 := hO.out.2
      have hln : l.length = (Lib.byteCells l).length := by rw [Lib.byteCells_length]
      have HLN := Lib.hid hln
      obtain ⟨ln, hl⟩ : ∃ ln, l.length = ln := ⟨_, rfl⟩
      rw [hl] at hpl ⊢
      have HL := Lib.hid hl
      have hne : wr.heap.size ≠ g := by omega
      clear ix hln hl
      go_region_held3 (fun W => W.cell? ⟨wr.heap.size, 0, none⟩ = some (.string f) ∧ W.cell? ⟨wr.heap.size, 1, none⟩ = some (.int .i64 z))
        (first | assumption | exact ⟨F0.c0, F0.c1⟩ | exact ⟨F1.c0, F1.c1⟩ | exact ⟨F2.c0, F2.c1⟩)
        (first
          | (refine step_app_str rfl _ _ rfl (HL.out.symm.trans HLN.out) rfl O0.out f rfl (by omega) ?_; intro g1 c1 w1 hA1; have F1 := F0.step hA1.kept hg0 hne; have hg1 : w.heap.size ≤ g1 := (by rcases hA1.or_ with h | h; omega; have := F0.bel.size; omega); have hne1 : wr.heap.size ≠ g1 := (by rcases hA1.or_ with h | h; omega; have := F0.lt; omega))
          | (go_at_call 24; (with_reducible refine (app_int_n w.heap.size g1 c1 _ _ z w1 (by rw [List.length_append, Lib.strCells_length, h3, ← HLN.out, HL.out]) hin hA1.own hg1 (by omega) (HT.out.on F1.bel)).mono ?_); rintro e w2 ⟨g2, c2, rfl, hA2⟩; have F2 := F1.step hA2.kept hg1 hne1))
      have hO2 : OwnM w2 g2 c2 (Lib.byteCells l2) := by
        rw [hstep.out, byteCells_app, byteCells_app, ← strCells_bytes, ← List.append_assoc]
        exact hA2.own
      have hl2 : l2.length = ln + 3 + (Lib.itoa z).length := by
        have e := Lib.size_eq f
        rw [hstep.out, List.length_append, List.length_append, HL.out, ← e, h3]; omega
      have hg2 : w.heap.size ≤ g2 := by
        rcases hA2.or_ with h | h
        · omega
        · have := F1.bel.size; omega
      have HO2 := Lib.hid (And.intro hO2 hg2)
      have HB2 := Lib.hid F2.bel
      have HL2 := Lib.hid hl2
      clear hO2 hl2 hA1 hA2 F0 F1 F2 O0 hstep
      go_wp2
      go_roundw
      case rel => exact ⟨k + 1, g2, c2, by omega, by go_num, by rw [HP2.out, HL2.out], by rw [HP2.out]; exact HO2, HB2⟩
      case measure => simp [intOf]; omega
    · obtain rfl : k = 6 := by omega
      have h6 : decide (((6 : Nat) : Int) < 6) = false := rfl
      have hpl := PL.out 6
      have hpl : _ ≤ 5 + n.size + 24 * 6 := hpl
      generalize hp6 : partL ⟨n, c, t, d, j, q, p⟩ 6 = l at *
      have HP6 := Lib.hid hp6
      clear SIX PL hp6
      have HLN := Lib.hid (show l.length = (Lib.byteCells l).length by rw [Lib.byteCells_length])
      have hO1 := Lib.hid (hO.out.1.later ((Below.refl _ wr).alloc (Nat.le_refl _) (.cells #[.int .u8 10] 5)))
      have hglt := hO.out.1.lt
      have hg0 := hO.out.2
      obtain ⟨ln, hl⟩ : ∃ ln, l.length = ln := ⟨_, rfl⟩
      rw [hl] at hpl ⊢
      have HL := Lib.hid hl
      clear hl
      go_wp2_with (at_builtin; refine wpList_app_row rfl _ _ rfl (HL.out.symm.trans HLN.out) rfl hO1.out ⟨wr.heap.size, 0, none⟩ 1 1 [Value.int .u8 10] rfl rfl (ten_new wr) (by intro u' hu'; simp at hu'; subst hu'; rfl) (by omega) ?_)
      intro g1 c1 w1 hA
      have hO2 : OwnM w1 g1 c1 (Lib.byteCells (l ++ [10])) := by
        rw [byteCells_app]; exact hA.own
      have hb : Below w.heap.size w w1 := (hB.out.alloc hB.out.size _).trans (hA.kept.below (by have := hB.out.size; simp; omega) (by simp; exact hg0))
      have hcv : (convert 45 9 (.slice (some ⟨g1, 0, none⟩) (ln + 1) c1)).run Tryd.prog w1 = .ok (.string (bs (l ++ [10]))) w1 := by
        have e := run_convert_bytes_back w1 45 9 5 ⟨g1, 0, none⟩ c1 (l ++ [10]) Tryd.underlying45 Tryd.underlying5 Tryd.underlying9 (fun j hj => hO2.cells j _ (by rw [Lib.byteCells, List.getElem?_map, List.getElem?_eq_getElem hj]; rfl))
        rw [List.length_append, HL.out] at e
        exact e
      have HB2 := Lib.hid hb
      clear hO2 hA hb
      go_wp2
      go_ret
      exact ⟨by rw [HP6.out]; rfl, HB2.out⟩
end Go.Proofs.YtlelnoalajeihaaDoor
