/- The document's Line. -/
import Derived.Test.YtlelnoalajeihaaDoorDig
import Derived.Deep.RegionHeldLaw
import Derived.Deep.DrawnRows
namespace Go.Proofs.YtlelnoalajeihaaDoor
open Go.RowKit
set_option linter.unusedVariables false
set_option linter.unusedSimpArgs false
attribute [local go_sem ↓] Go.wp_at_zero Go.wp_at_succ

def lineB (n c t d j q p : ByteArray) : ByteArray :=
  { data := #[116, 97, 115, 107, 32] } ++ n ++ { data := #[32, 99, 61] } ++ c ++ { data := #[32, 116, 61] } ++ t ++ { data := #[32, 100, 61] } ++ d ++ { data := #[32, 106, 61] } ++ j ++ { data := #[32, 113, 61] } ++ q ++ { data := #[32, 112, 61] } ++ p ++ chr 10
def dgs (n : Int) : ByteArray := bs (Lib.itoa n)
def lineS (x : Ts) : ByteArray := lineB x.n (dgs x.c) (dgs x.t) (dgs x.d) (dgs x.j) (dgs x.q) (dgs x.p)
theorem dgs_size (n : Int) (h : in64 n) : (dgs n).size ≤ 21 := by
  obtain ⟨h1, h2⟩ := h
  unfold dgs
  rw [bs_size]
  have := dec_bd (u := n.natAbs) (by omega)
  unfold Lib.itoa
  split
  · simp only [List.length_cons]; omega
  · rw [show n.toNat = n.natAbs by omega]; omega
/-- The cells that are read, and what is new. -/
def C7 (w : World) (b : Nat) (n : ByteArray) (c t d j q p : Int) (W : World) : Prop :=
  W.cell? ⟨b, 0, none⟩ = some (.string n) ∧ W.cell? ⟨b, 1, none⟩ = some (.int .i64 c) ∧ W.cell? ⟨b, 2, none⟩ = some (.int .i64 t) ∧ W.cell? ⟨b, 3, none⟩ = some (.int .i64 d) ∧ W.cell? ⟨b, 4, none⟩ = some (.int .i64 j) ∧ W.cell? ⟨b, 5, none⟩ = some (.int .i64 q) ∧ W.cell? ⟨b, 6, none⟩ = some (.int .i64 p) ∧ Below w.heap.size w W ∧ b < W.heap.size
theorem C7.step {w W W' : World} {b : Nat} {n : ByteArray} {c t d j q p : Int} (hB : Below W.heap.size W W') (h : C7 w b n c t d j q p W) : C7 w b n c t d j q p W' := by
  obtain ⟨h0, h1, h2, h3, h4, h5, h6, h7, h8⟩ := h
  have k := fun i => hB.cell (p := ⟨b, i, none⟩) h8
  exact ⟨(k 0).trans h0, (k 1).trans h1, (k 2).trans h2, (k 3).trans h3, (k 4).trans h4, (k 5).trans h5, (k 6).trans h6, h7.trans (hB.mono h7.size), Nat.lt_of_lt_of_le h8 hB.size⟩
theorem C7.al {w W : World} {b : Nat} {n : ByteArray} {c t d j q p : Int} (h : C7 w b n c t d j q p W) (o) : C7 w b n c t d j q p (W.alloc o) :=
  h.step ((Below.refl _ _).alloc (Nat.le_refl _) o)
theorem C7.below {w W : World} {b : Nat} {n : ByteArray} {c t d j q p : Int} (h : C7 w b n c t d j q p W) : Below w.heap.size w W := h.2.2.2.2.2.2.2.1
def ConvIs (g : Nat) (W : World) : Prop := (convert 45 9 (.slice (some ⟨g, 0, none⟩) 1 1)).run Tryd.prog W = .ok (.string (chr 10)) W
theorem conv_cell (W : World) (g : Nat) (h : W.cell? ⟨g, 0, none⟩ = some (.int .u8 10)) : ConvIs g W := by
  unfold ConvIs
  rw [run_convert_bytes_string _ 45 9 5 _ _ _ Tryd.underlying45 Tryd.underlying5 Tryd.underlying9]
  rw [run_bytesToString (ns := [10])]
  · rfl
  · go_simp
theorem cat_is (a b : ByteArray) (h : a.size + b.size ≤ 9223372036854775807) : ∃ r, a ++ b = r ∧ r.size = a.size + b.size ∧ ∀ W, (Op.stringOp .add a b).run Tryd.prog W = .ok (.string r) W :=
  ⟨_, rfl, ByteArray.size_append, fun W => run_string_add_sum W a b h⟩
/-- A world in which a block holds the one byte. -/
def Ten (g : Nat) (W : World) : Prop := W.cell? ⟨g, 0, none⟩ = some (.int .u8 10) ∧ g < W.heap.size
theorem Ten.new {W W' : World} (hB : Below (W.alloc (.cells #[.int .u8 10] 5)).heap.size (W.alloc (.cells #[.int .u8 10] 5)) W') : Ten W.heap.size W' := by
  have hl : W.heap.size < (W.alloc (.cells #[.int .u8 10] 5)).heap.size := by simp
  refine ⟨(hB.cell (p := ⟨W.heap.size, 0, none⟩) hl).trans ?_, Nat.lt_of_lt_of_le hl hB.size⟩
  rw [cell_of_row _ _ 0 _ _ _ (heap_alloc_new W _)]; rfl
theorem Ten.step {g : Nat} {W W' : World} (hB : Below W.heap.size W W') (h : Ten g W) : Ten g W' :=
  ⟨(hB.cell (p := ⟨g, 0, none⟩) h.2).trans h.1, Nat.lt_of_lt_of_le h.2 hB.size⟩

set_option maxRecDepth 100000 in
set_option maxHeartbeats 16000000 in
theorem rline_any (x : Ts) (w : World) (hx : TsW x) (hn : x.n.size ≤ 1099511627776) :
    Calls Tryd.prog 12 #[tsV x] w fun e w' => e = .returned (.string (lineS x)) ∧ Below w.heap.size w w' := by
  obtain ⟨n, c, t, d, j, q, p⟩ := x
  obtain ⟨-, hc, ht, hd, hj, hq, hp⟩ := hx
  simp only at hn hc ht hd hj hq hp
  unfold lineS
  simp only
  have K1 := fun W => rdig_any c W hc
  have K2 := fun W => rdig_any t W ht
  have K3 := fun W => rdig_any d W hd
  have K4 := fun W => rdig_any j W hj
  have K5 := fun W => rdig_any q W hq
  have K6 := fun W => rdig_any p W hp
  have z1 := dgs_size c hc
  have z2 := dgs_size t ht
  have z3 := dgs_size d hd
  have z4 := dgs_size j hj
  have z5 := dgs_size q hq
  have z6 := dgs_size p hp
  unfold DigPost at K1 K2 K3 K4 K5 K6
  have e : ∀ n, bs (Lib.itoa n) = dgs n := fun _ => rfl
  simp only [e] at K1 K2 K3 K4 K5 K6
  clear e
  generalize dgs c = sc at *
  generalize dgs t = st at *
  generalize dgs d = sd at *
  generalize dgs j = sj at *
  generalize dgs q = sq at *
  generalize dgs p = sp at *
  have K1 := Lib.hid K1
  have K2 := Lib.hid K2
  have K3 := Lib.hid K3
  have K4 := Lib.hid K4
  have K5 := Lib.hid K5
  have K6 := Lib.hid K6
  clear hc ht hd hj hq hp
  have hcv := fun W => conv_n W 10 (by omega) (by omega)
  have hcc := fun (W : World) (g : Nat) (h : Ten g W) => conv_cell W g h.1
  have zt := chr_size 10
  unfold lineB
  unfold ConvIs at hcc
  generalize chr 10 = ten at *
  have l5 : ({ data := #[116, 97, 115, 107, 32] } : ByteArray).size = 5 := by decide
  have m0 : ({ data := #[32, 99, 61] } : ByteArray).size = 3 := by decide
  have m1 : ({ data := #[32, 116, 61] } : ByteArray).size = 3 := by decide
  have m2 : ({ data := #[32, 100, 61] } : ByteArray).size = 3 := by decide
  have m3 : ({ data := #[32, 106, 61] } : ByteArray).size = 3 := by decide
  have m4 : ({ data := #[32, 113, 61] } : ByteArray).size = 3 := by decide
  have m5 : ({ data := #[32, 112, 61] } : ByteArray).size = 3 := by decide
  obtain ⟨r1, d1, y1, e1⟩ := cat_is ({ data := #[116, 97, 115, 107, 32] } : ByteArray) n (by skip; omega)
  rw [d1]
  clear d1
  obtain ⟨r2, d2, y2, e2⟩ := cat_is r1 ({ data := #[32, 99, 61] } : ByteArray) (by skip; omega)
  rw [d2]
  clear d2
  obtain ⟨r3, d3, y3, e3⟩ := cat_is r2 sc (by skip; omega)
  rw [d3]
  clear d3
  obtain ⟨r4, d4, y4, e4⟩ := cat_is r3 ({ data := #[32, 116, 61] } : ByteArray) (by skip; omega)
  rw [d4]
  clear d4
  obtain ⟨r5, d5, y5, e5⟩ := cat_is r4 st (by skip; omega)
  rw [d5]
  clear d5
  obtain ⟨r6, d6, y6, e6⟩ := cat_is r5 ({ data := #[32, 100, 61] } : ByteArray) (by skip; omega)
  rw [d6]
  clear d6
  obtain ⟨r7, d7, y7, e7⟩ := cat_is r6 sd (by skip; omega)
  rw [d7]
  clear d7
  obtain ⟨r8, d8, y8, e8⟩ := cat_is r7 ({ data := #[32, 106, 61] } : ByteArray) (by skip; omega)
  rw [d8]
  clear d8
  obtain ⟨r9, d9, y9, e9⟩ := cat_is r8 sj (by skip; omega)
  rw [d9]
  clear d9
  obtain ⟨r10, d10, y10, e10⟩ := cat_is r9 ({ data := #[32, 113, 61] } : ByteArray) (by skip; omega)
  rw [d10]
  clear d10
  obtain ⟨r11, d11, y11, e11⟩ := cat_is r10 sq (by skip; omega)
  rw [d11]
  clear d11
  obtain ⟨r12, d12, y12, e12⟩ := cat_is r11 ({ data := #[32, 112, 61] } : ByteArray) (by skip; omega)
  rw [d12]
  clear d12
  obtain ⟨r13, d13, y13, e13⟩ := cat_is r12 sp (by skip; omega)
  rw [d13]
  clear d13
  obtain ⟨r14, d14, y14, e14⟩ := cat_is r13 ten (by skip; omega)
  rw [d14]
  clear d14
  clear y1 y2 y3 y4 y5 y6 y7 y8 y9 y10 y11 y12 y13 y14 l5 m0 m1 m2 m3 m4 m5 z1 z2 z3 z4 z5 z6 zt
  have hcc := Lib.hid hcc
  obtain ⟨W0, hW0, HC⟩ : ∃ W0, w.alloc (.cells #[.string n, .int .i64 c, .int .i64 t, .int .i64 d, .int .i64 j, .int .i64 q, .int .i64 p] 29) = W0 ∧ C7 w w.heap.size n c t d j q p W0 := by
    refine ⟨_, rfl, ?_, ?_, ?_, ?_, ?_, ?_, ?_, (Below.refl _ _).alloc (Nat.le_refl _) _, by simp⟩ <;> (rw [cell_of_row _ _ _ _ _ _ (heap_alloc_new w _)]; rfl)
  have HW := Lib.hid hW0
  have HC := Lib.hid HC
  clear hW0
  show Calls Tryd.prog 12 #[.agg #[.string n, .int .i64 c, .int .i64 t, .int .i64 d, .int .i64 j, .int .i64 q, .int .i64 p]] w _
  go_enter Tryd.func12, Tryd.ntmps12
  go_upto_region 1 with (fail)
  rw [HW.out]
  have HC1 := Lib.hid ((HC.out).step (below_drew _))
  have hcv2 := hcc.out (W0.alloc (.cells #[.int .u8 10] 5)).drew W0.heap.size (Ten.new (W := W0) (below_drew _))
  clear HC HW
  go_region_held_law (fun W => W.cell? ⟨w.heap.size, 0, none⟩ = some (.string n) ∧ W.cell? ⟨w.heap.size, 1, none⟩ = some (.int .i64 c) ∧ W.cell? ⟨w.heap.size, 2, none⟩ = some (.int .i64 t) ∧ W.cell? ⟨w.heap.size, 3, none⟩ = some (.int .i64 d) ∧ W.cell? ⟨w.heap.size, 4, none⟩ = some (.int .i64 j) ∧ W.cell? ⟨w.heap.size, 5, none⟩ = some (.int .i64 q) ∧ W.cell? ⟨w.heap.size, 6, none⟩ = some (.int .i64 p) ∧ Below w.heap.size w W ∧ w.heap.size < W.heap.size)
    (first | assumption | (exact HC1.out) | (exact (C7.step (w := w) (b := w.heap.size) (n := n) (c := c) (t := t) (d := d) (j := j) (q := q) (p := p) hB (by assumption) : C7 w w.heap.size n c t d j q p _)) | (exact (C7.al (w := w) (b := w.heap.size) (n := n) (c := c) (t := t) (d := d) (j := j) (q := q) (p := p) (by assumption) _ : C7 w w.heap.size n c t d j q p _)))
    (first
    | (go_at_call 25; (first | (with_reducible refine (K1.out _).mono ?_) | (with_reducible refine (K2.out _).mono ?_) | (with_reducible refine (K3.out _).mono ?_) | (with_reducible refine (K4.out _).mono ?_) | (with_reducible refine (K5.out _).mono ?_) | (with_reducible refine (K6.out _).mono ?_)); rintro e w' ⟨rfl, hB⟩; (first | (have hT : Ten W0.heap.size w' := Ten.new (W := W0.drew) hB; have hqq := hcc.out _ _ hT) | (have hT := Ten.new hB; have hqq := hcc.out _ _ hT) | (have hT := Ten.step hB hT; have hqq := hcc.out _ _ hT) | skip)))
  all_goals (go_wp2; go_ret; exact ⟨rfl, (show C7 w w.heap.size n c t d j q p _ from by assumption).below⟩)
end Go.Proofs.YtlelnoalajeihaaDoor
