/- The chapter's examples: awake. -/
import Derived.Test.YtlelnoalajeihaaDoorLaw1
namespace Go.Proofs.YtlelnoalajeihaaDoor
open Go.RowKit
set_option linter.unusedVariables false
set_option linter.unusedSimpArgs false

theorem pcs_t {a : Nat} {c : UInt8} {r : List UInt8} {t : Tk} {l : List Tk} (h : kind c ≠ 0) (h1 : tkOf a c r = t) (h2 : pcs (a + 1 + runLen (kind c) r) (r.drop (runLen (kind c) r)) = l) : pcs a (c :: r) = t :: l := by
  rw [pcs_tok h, h1, h2]
theorem pcs_b {a : Nat} {c : UInt8} {r : List UInt8} {l : List Tk} (h : blank c = true) (h2 : pcs (a + 1) r = l) : pcs a (c :: r) = l := by
  rw [pcs_blank h, h2]
def exA : ByteArray := { data := #[116, 97, 115, 107, 32, 97, 32, 112, 61, 50, 32, 99, 61, 49, 32, 116, 61, 57] }
def exB : ByteArray := { data := #[116, 97, 115, 107, 32, 97, 32, 99, 61, 49, 32, 99, 61, 50] }
def toksA : List Tk := [⟨1, 0, [116, 97, 115, 107], 0⟩, ⟨1, 5, [97], 0⟩, ⟨1, 7, [112], 0⟩, ⟨3, 8, [61], 0⟩, ⟨2, 9, [50], 2⟩, ⟨1, 11, [99], 0⟩, ⟨3, 12, [61], 0⟩, ⟨2, 13, [49], 1⟩, ⟨1, 15, [116], 0⟩, ⟨3, 16, [61], 0⟩, ⟨2, 17, [57], 9⟩]
def toksB : List Tk := [⟨1, 0, [116, 97, 115, 107], 0⟩, ⟨1, 5, [97], 0⟩, ⟨1, 7, [99], 0⟩, ⟨3, 8, [61], 0⟩, ⟨2, 9, [49], 1⟩, ⟨1, 11, [99], 0⟩, ⟨3, 12, [61], 0⟩, ⟨2, 13, [50], 2⟩]
theorem exA_pcs : pieceL exA = toksA := by
  show pcs 0 [116, 97, 115, 107, 32, 97, 32, 112, 61, 50, 32, 99, 61, 49, 32, 116, 61, 57] = _
  refine pcs_t (by decide +kernel) rfl ?_
  show pcs 4 [32, 97, 32, 112, 61, 50, 32, 99, 61, 49, 32, 116, 61, 57] = _
  refine pcs_b (by decide +kernel) (pcs_t (by decide +kernel) rfl ?_)
  show pcs 6 [32, 112, 61, 50, 32, 99, 61, 49, 32, 116, 61, 57] = _
  refine pcs_b (by decide +kernel) (pcs_t (by decide +kernel) rfl ?_)
  show pcs 8 [61, 50, 32, 99, 61, 49, 32, 116, 61, 57] = _
  refine pcs_t (by decide +kernel) rfl ?_
  show pcs 9 [50, 32, 99, 61, 49, 32, 116, 61, 57] = _
  refine pcs_t (by decide +kernel) rfl ?_
  show pcs 10 [32, 99, 61, 49, 32, 116, 61, 57] = _
  refine pcs_b (by decide +kernel) (pcs_t (by decide +kernel) rfl ?_)
  show pcs 12 [61, 49, 32, 116, 61, 57] = _
  refine pcs_t (by decide +kernel) rfl ?_
  show pcs 13 [49, 32, 116, 61, 57] = _
  refine pcs_t (by decide +kernel) rfl ?_
  show pcs 14 [32, 116, 61, 57] = _
  refine pcs_b (by decide +kernel) (pcs_t (by decide +kernel) rfl ?_)
  show pcs 16 [61, 57] = _
  refine pcs_t (by decide +kernel) rfl ?_
  show pcs 17 [57] = _
  refine pcs_t (by decide +kernel) rfl ?_
  show pcs 18 [] = _
  exact pcs_nil _
theorem exB_pcs : pieceL exB = toksB := by
  show pcs 0 [116, 97, 115, 107, 32, 97, 32, 99, 61, 49, 32, 99, 61, 50] = _
  refine pcs_t (by decide +kernel) rfl ?_
  show pcs 4 [32, 97, 32, 99, 61, 49, 32, 99, 61, 50] = _
  refine pcs_b (by decide +kernel) (pcs_t (by decide +kernel) rfl ?_)
  show pcs 6 [32, 99, 61, 49, 32, 99, 61, 50] = _
  refine pcs_b (by decide +kernel) (pcs_t (by decide +kernel) rfl ?_)
  show pcs 8 [61, 49, 32, 99, 61, 50] = _
  refine pcs_t (by decide +kernel) rfl ?_
  show pcs 9 [49, 32, 99, 61, 50] = _
  refine pcs_t (by decide +kernel) rfl ?_
  show pcs 10 [32, 99, 61, 50] = _
  refine pcs_b (by decide +kernel) (pcs_t (by decide +kernel) rfl ?_)
  show pcs 12 [61, 50] = _
  refine pcs_t (by decide +kernel) rfl ?_
  show pcs 13 [50] = _
  refine pcs_t (by decide +kernel) rfl ?_
  show pcs 14 [] = _
  exact pcs_nil _
theorem exA_bad : badP exA = none := by rw [badP, exA_pcs]; rfl
theorem exB_bad : badP exB = none := by rw [badP, exB_pcs]; rfl
def tA : Ts := ⟨{ data := #[97] }, 1, 9, 9, 0, 1, 2⟩
theorem exA_all : allS exA = ([tA], []) := by
  unfold allS
  rw [lexT_none exA_bad, exA_pcs]
  have hf : fieldsS (toksA.drop 2 ++ [endTk 18]) fnone = (true, fset (fset (fset fnone 5 2) 0 1) 1 9, []) := by
    show fieldsS [⟨1, 7, [112], 0⟩, ⟨3, 8, [61], 0⟩, ⟨2, 9, [50], 2⟩, ⟨1, 11, [99], 0⟩, ⟨3, 12, [61], 0⟩, ⟨2, 13, [49], 1⟩, ⟨1, 15, [116], 0⟩, ⟨3, 16, [61], 0⟩, ⟨2, 17, [57], 9⟩, ⟨4, 18, [], 0⟩] fnone = _
    rw [fieldsS_go (k := 5) (by decide) (by decide) (by rfl) rfl rfl, fieldsS_go (k := 0) (by decide) (by decide) (by rfl) rfl rfl, fieldsS_go (k := 1) (by decide) (by decide) (by rfl) rfl rfl, fieldsS_end rfl (by rfl)]
  have := tasksS_ok (x := ⟨1, 0, [116, 97, 115, 107], 0⟩) (y := ⟨1, 5, [97], 0⟩) (by decide) rfl rfl hf
  refine Eq.trans (show _ = tasksS (⟨1, 0, [116, 97, 115, 107], 0⟩ :: ⟨1, 5, [97], 0⟩ :: (toksA.drop 2 ++ [endTk 18])) from rfl) ?_
  rw [this, tasksS_nil]
  rfl
theorem exB_all : ∃ x r, allS exB = ([], x :: r) ∧ x.at' = 11 := by
  unfold allS
  rw [lexT_none exB_bad, exB_pcs]
  have hf : fieldsS (toksB.drop 2 ++ [endTk 14]) fnone = (false, fset fnone 0 1, [⟨1, 11, [99], 0⟩, ⟨3, 12, [61], 0⟩, ⟨2, 13, [50], 2⟩, ⟨4, 14, [], 0⟩]) := by
    show fieldsS [⟨1, 7, [99], 0⟩, ⟨3, 8, [61], 0⟩, ⟨2, 9, [49], 1⟩, ⟨1, 11, [99], 0⟩, ⟨3, 12, [61], 0⟩, ⟨2, 13, [50], 2⟩, ⟨4, 14, [], 0⟩] fnone = _
    rw [fieldsS_go (k := 0) (by decide) (by decide) (by rfl) rfl rfl, fieldsS_twice (k := 0) (by decide) (by decide) (by rfl)]
  have := tasksS_bad (x := ⟨1, 0, [116, 97, 115, 107], 0⟩) (y := ⟨1, 5, [97], 0⟩) (by decide) rfl rfl hf
  exact ⟨_, _, this, rfl⟩
theorem tA_chk : chkAll [tA] = (1, 0) := by
  simp [chkAll, chkFrom, checkE, tA, namedB, word_a, ByteArray.size, rangedB, inB, overB, nameIn, prioIn]
theorem exA_parse : parseS exA = ([tA], 1, 0) := by
  unfold parseS
  rw [readS_ok exA_bad exA_all]
  simp only [if_true, tA_chk]
theorem exB_parse : parseS exB = ([], 11, 10) := by
  obtain ⟨x, r, h, hx⟩ := exB_all
  unfold parseS
  rw [readS_no exB_bad h, hx]
  rfl

set_option maxRecDepth 100000 in
set_option maxHeartbeats 4000000 in
theorem awake5_any (w : World) : Calls Tryd.prog 7 #[] w (OkB w) := by
  have la : ∀ w, Calls Tryd.prog 19 #[.string { data := #[116, 97, 115, 107, 32, 97, 32, 112, 61, 50, 32, 99, 61, 49, 32, 116, 61, 57] }] w fun e w' => ∃ A cap, e = .returned (.tuple #[.slice A 1 cap, .int .i64 1, .int .i64 0]) ∧ Row w' A cap [tA] ∧ Below w.heap.size w w' := fun w => by
    have := parse_any exA w (by decide)
    unfold ParsePost at this
    rw [exA_parse] at this
    exact this
  have lb : ∀ w, Calls Tryd.prog 19 #[.string { data := #[116, 97, 115, 107, 32, 97, 32, 99, 61, 49, 32, 99, 61, 50] }] w fun e w' => ∃ A cap, e = .returned (.tuple #[.slice A 0 cap, .int .i64 11, .int .i64 10]) ∧ Row w' A cap [] ∧ Below w.heap.size w w' := fun w => by
    have := parse_any exB w (by decide)
    unfold ParsePost at this
    rw [exB_parse] at this
    exact this
  have LA := Lib.hid la
  have LB := Lib.hid lb
  clear la lb
  go_enter Tryd.func7, Tryd.ntmps7
  go_upto_region 2 with (go_at_call 19; (with_reducible refine (LA.out _).mono ?_); rintro e w1 ⟨A, cap, rfl, hR, h1⟩)
  have HR := Lib.hid hR
  have H1 := Lib.hid h1
  clear hR h1
  go_upto_region 3 with (go_at_call 19; (with_reducible refine (LB.out _).mono ?_); rintro e w2 ⟨A2, cap2, rfl, -, h2⟩)
  have HR2 := HR.out.later h2
  have hle := HR2.le
  have hmx := HR2.mx
  obtain ⟨b, o, x, rfl, hx, _, _, hT⟩ := HR2.get (k := 0) (by decide)
  obtain rfl : tA = x := by simpa using hx
  have hB := Lib.hid (H1.out.trans (h2.mono H1.out.size))
  have c0 := hT.c0
  have c1 := hT.c1
  have c2 := hT.c2
  have c3 := hT.c3
  have c4 := hT.c4
  have c5 := hT.c5
  have c6 := hT.c6
  simp only [Nat.zero_mul, Nat.add_zero] at c0 c1 c2 c3 c4 c5 c6
  unfold tA at c0 c1 c2 c3 c4 c5 c6
  simp only at c0 c1 c2 c3 c4 c5 c6
  clear HR H1 HR2 hx hT h2
  simp only [List.length_cons, List.length_nil, Nat.reduceAdd] at hle
  go_wp2
  go_ret
  exact ⟨rfl, hB.out⟩
end Go.Proofs.YtlelnoalajeihaaDoor
