/- The program's Print; the document's, of tasks with long names. -/
import Derived.Test.YtlelnoalajeihaaDoorTLn
import Derived.Test.YtlelnoalajeihaaDoorBld
import Derived.Test.YtlelnoalajeihaaDoorRPrint
namespace Go.Proofs.YtlelnoalajeihaaDoor
open Go.RowKit
set_option linter.unusedVariables false
set_option linter.unusedSimpArgs false

theorem part_line (x : Ts) : bs (partL x 6 ++ [10]) = lineS x := by
  obtain ⟨nl, hnl⟩ : ∃ nl, x.n.data.toList = nl := ⟨_, rfl⟩
  have en : bs nl = x.n := by
    rw [← hnl]
    apply ByteArray.ext
    simp [bs]
  unfold lineS lineB dgs
  simp only [partL, numZ, ahd, hnl]
  rw [← en]
  rw [show ({ data := #[116, 97, 115, 107, 32] } : ByteArray) = bs [116, 97, 115, 107, 32] from rfl, show ({ data := #[32, 99, 61] } : ByteArray) = bs [32, 99, 61] from rfl, show ({ data := #[32, 116, 61] } : ByteArray) = bs [32, 116, 61] from rfl, show ({ data := #[32, 100, 61] } : ByteArray) = bs [32, 100, 61] from rfl, show ({ data := #[32, 106, 61] } : ByteArray) = bs [32, 106, 61] from rfl, show ({ data := #[32, 113, 61] } : ByteArray) = bs [32, 113, 61] from rfl, show ({ data := #[32, 112, 61] } : ByteArray) = bs [32, 112, 61] from rfl, show chr 10 = bs [10] from rfl]
  simp only [bs_app, bs_toList]
  simp
theorem line_any (x : Ts) (w : World) (hx : TsW x) (hn : x.n.size ≤ 1099511627776) (htab : Pow w.heap.size w) :
    Calls Tryd.prog 11 #[tsV x] w fun e w' => e = .returned (.string (lineS x)) ∧ Below w.heap.size w w' :=
  (line_part x w hx hn htab).mono fun e w' h => ⟨by rw [h.1, part_line], h.2⟩
/-- Tasks whose names a text can bear. -/
def Longs (l : List Ts) : Prop := ∀ x ∈ l, TsW x ∧ x.n.size ≤ 1099511627776
theorem lineS_size2 {x : Ts} (hx : TsW x) : (lineS x).size ≤ x.n.size + 200 := by
  have z1 := dgs_size x.c hx.c
  have z2 := dgs_size x.t hx.t
  have z3 := dgs_size x.d hx.d
  have z4 := dgs_size x.j hx.j
  have z5 := dgs_size x.q hx.q
  have z6 := dgs_size x.p hx.p
  have zt := chr_size 10
  have e5 : ({ data := #[116, 97, 115, 107, 32] } : ByteArray).size = 5 := by decide
  have e1 : ({ data := #[32, 99, 61] } : ByteArray).size = 3 := by decide
  have e2 : ({ data := #[32, 116, 61] } : ByteArray).size = 3 := by decide
  have e3 : ({ data := #[32, 100, 61] } : ByteArray).size = 3 := by decide
  have e4 : ({ data := #[32, 106, 61] } : ByteArray).size = 3 := by decide
  have e6 : ({ data := #[32, 113, 61] } : ByteArray).size = 3 := by decide
  have e7 : ({ data := #[32, 112, 61] } : ByteArray).size = 3 := by decide
  unfold lineS lineB
  simp only [ByteArray.size_append]
  omega
theorem printS_size2 {l : List Ts} (h : Longs l) : ∀ k, k ≤ l.length → (printS (l.take k)).size ≤ k * 1099511628000
  | 0, _ => by rw [List.take_zero, printS]; exact Nat.zero_le _
  | k + 1, hk => by
    obtain ⟨x, hx⟩ : ∃ x, l[k]? = some x := ⟨l[k], List.getElem?_eq_getElem (by omega)⟩
    have hm := h x (List.mem_of_getElem? hx)
    have := lineS_size2 hm.1
    have ih := printS_size2 h k (by omega)
    rw [printS_take hx, ByteArray.size_append]
    omega
theorem printS_mono (l : List Ts) : ∀ m k, k + m = l.length → (printS (l.take k)).size ≤ (printS l).size
  | 0, k, h => by rw [List.take_of_length_le (by omega)]; exact Nat.le_refl _
  | m + 1, k, h => by
    have ih := printS_mono l m (k + 1) (by omega)
    obtain ⟨x, hx⟩ : ∃ x, l[k]? = some x := ⟨l[k], List.getElem?_eq_getElem (by omega)⟩
    rw [printS_take hx, ByteArray.size_append] at ih
    omega
theorem bld_later {B b : Nat} {xs : List Value} {w w' : World} (h : Lib.IsBuilder 48 5 B b xs w) (hb : Below w.heap.size w w') : Lib.IsBuilder 48 5 B b xs w' := by
  have one : ∀ {p : Value}, Lib.BuilderAt 48 5 B b p xs w → Lib.BuilderAt 48 5 B b p xs w' := fun {p} h => by
    have hlt := h.lt
    obtain ⟨hB, v, hbk, hown, hne⟩ := h
    exact ⟨hB, v, (hb.block b hlt).trans hbk, (Kept.of [] hb).row hown (by simp), hne⟩
  rcases h with h | h
  · exact .inl (one h)
  · exact .inr (one h)
theorem bld_zero {B : Nat} {w : World} (hB : B ≤ w.heap.size) : Lib.IsBuilder 48 5 B w.heap.size [] (w.alloc (.cells #[.pointer none, .slice none 0 0] 48)) :=
  .inl ⟨hB, .slice none 0 0, heap_alloc_new w _, World.ownsRow_nil _ _ _ _, by simp [Value.ownBlock]⟩
theorem empty_array : ({ data := #[] } : ByteArray).data.toList = [] := rfl

set_option maxRecDepth 100000 in
set_option maxHeartbeats 8000000 in
theorem print_any (A : Option Addr) (cap : Nat) (l : List Ts) (w : World) (hR : Row w A cap l) (hS : Longs l) (hl : (printS l).size ≤ 140737488355328) (htab : Lib.TabIs Tryd.prog w "internal/strconv.uint64pow10" .u64 Lib.pow10Tab) :
    Calls Tryd.prog 9 #[.slice A l.length cap] w fun e w' => e = .returned (.string (printS l)) ∧ Below w.heap.size w w' := by
  have hle := hR.le
  have hmx := hR.mx
  have ROW := Lib.hid hR
  have HS := Lib.hid hS
  have HT := Lib.hid (Lib.tabBelow_of_tabIs htab)
  have HZ := Lib.hid (bld_zero (w := w) (Nat.le_refl _))
  clear hR hS htab
  go_enter Tryd.func9, Tryd.ntmps9
  go_wp2
  go_loopw [8] (fun i wr => ∃ k : Nat, k ≤ l.length ∧ i = .int .i64 k ∧ Hid (Lib.IsBuilder 48 5 w.heap.size w.heap.size (Lib.byteCells (printS (l.take k)).data.toList) wr) ∧ Lt w wr) (fun i _ => l.length - (intOf i).toNat)
  case atStart => exact ⟨0, Nat.zero_le _, rfl, by rw [List.take_zero]; exact HZ, (Below.refl _ _).alloc (Nat.le_refl _) _⟩
  case round =>
    obtain ⟨k, hk, rfl, hI, hL⟩ := hrel
    by_cases hlt : k < l.length
    · obtain ⟨b, o, x, rfl, hx, hxw, hbl, hT⟩ := ROW.out.get hlt
      have hTr := hT.later hL
      have c0 := hTr.c0
      have c1 := hTr.c1
      have c2 := hTr.c2
      have c3 := hTr.c3
      have c4 := hTr.c4
      have c5 := hTr.c5
      have c6 := hTr.c6
      have hm := HS.out x (List.mem_of_getElem? hx)
      have z2 := printS_mono l (l.length - (k + 1)) (k + 1) (by omega)
      have e1 := printS_take hx
      have hTB := (HT.out.on hL).here
      have C := line_any x (wr.alloc (.cells #[.string x.n, .int .i64 x.c, .int .i64 x.t, .int .i64 x.d, .int .i64 x.j, .int .i64 x.q, .int .i64 x.p] 29)) hm.1 hm.2 (Lib.tabBelow_of_tabIs (Lib.tabIs_alloc hTB _))
      unfold tsV at C
      have hI1 := bld_later hI.out ((Below.refl _ wr).alloc (Nat.le_refl _) (.cells #[.string x.n, .int .i64 x.c, .int .i64 x.t, .int .i64 x.d, .int .i64 x.j, .int .i64 x.q, .int .i64 x.p] 29))
      have hL1 : Below w.heap.size w (wr.alloc (.cells #[.string x.n, .int .i64 x.c, .int .i64 x.t, .int .i64 x.d, .int .i64 x.j, .int .i64 x.q, .int .i64 x.p] 29)) := hL.alloc hL.size _
      have hcell : (Lib.byteCells (printS (l.take (k + 1))).data.toList) = Lib.byteCells (printS (l.take k)).data.toList ++ Lib.strCells (lineS x) := by
        rw [e1, strCells_bytes, ← byteCells_app]
        congr 1
      have hlen : (Lib.byteCells (printS (l.take k)).data.toList).length + (lineS x).size ≤ 140737488355328 := by
        rw [e1, ByteArray.size_append] at z2
        rw [Lib.byteCells_length, ← Lib.size_eq]
        omega
      have C := Lib.hid C
      have HI := Lib.hid hI1
      have HL := Lib.hid hL1
      have HC := Lib.hid hcell
      have HN := Lib.hid hlen
      have hi0 : (0 : Int) ≤ (k : Int) := by omega
      have hi1 : (k : Int) < (l.length : Int) := by omega
      clear hTr hT hx hm e1 hxw hbl hI hL hI1 hL1 hcell hlen hTB
      go_wp2_with (first
        | (go_at_call 11; (with_reducible refine C.out.mono ?_); rintro e w2 ⟨rfl, hB2⟩; have W2 := Lib.hid (bld_write w.heap.size w.heap.size _ (lineS x) w2 (bld_later HI.out hB2) HN.out (by have := HL.out.size; have := hB2.size; omega)); have L2 := Lib.hid (HL.out.trans (hB2.mono HL.out.size)); clear hB2)
        | (go_at_call 22; (with_reducible refine W2.out.mono ?_); rintro e w3 ⟨rfl, hW, hB3⟩))
      have L3 := Lib.hid (L2.out.trans hB3)
      have W3 := Lib.hid hW
      clear hW hB3
      go_roundw
      case rel => exact ⟨k + 1, by omega, by go_num, Lib.hid (by rw [HC.out]; exact .inr W3.out), L3.out⟩
      case measure => simp [intOf]; omega
    · obtain rfl : k = l.length := by omega
      rw [List.take_length] at hI
      have HL := Lib.hid hL
      have K := Lib.hid (Tryd.Builder_String_any w.heap.size w.heap.size (printS l).data.toList wr hI.out hL.size)
      clear hL hI
      go_wp2_with (go_at_call 23; (with_reducible refine K.out.mono ?_); rintro e w2 ⟨rfl, hB2⟩)
      go_ret
      exact ⟨rfl, HL.out.trans hB2⟩
set_option maxRecDepth 100000 in
set_option maxHeartbeats 4000000 in
theorem rprint_long (A : Option Addr) (cap : Nat) (l : List Ts) (w : World) (hR : Row w A cap l) (hS : Longs l) (hl : l.length ≤ 100) :
    Calls Tryd.prog 10 #[.slice A l.length cap] w fun e w' => e = .returned (.string (printS l)) ∧ Below w.heap.size w w' := by
  have hle := hR.le
  have hmx := hR.mx
  have ROW := Lib.hid hR
  have HS := Lib.hid hS
  clear hR hS
  go_enter Tryd.func10, Tryd.ntmps10
  go_wp2
  go_loopw [3, 4] (fun s i wr => ∃ k : Nat, k ≤ l.length ∧ s = .string (printS (l.take k)) ∧ i = .int .i64 k ∧ Lt w wr) (fun _ i _ => l.length - (intOf i).toNat)
  case atStart => exact ⟨0, Nat.zero_le _, by simp [printS], rfl, Below.refl _ _⟩
  case round =>
    obtain ⟨k, hk, rfl, rfl, hL⟩ := hrel
    by_cases hlt : k < l.length
    · obtain ⟨b, o, x, rfl, hx, hxw, hbl, hT⟩ := ROW.out.get hlt
      have hTr := hT.later hL
      have c0 := hTr.c0
      have c1 := hTr.c1
      have c2 := hTr.c2
      have c3 := hTr.c3
      have c4 := hTr.c4
      have c5 := hTr.c5
      have c6 := hTr.c6
      have hm := HS.out x (List.mem_of_getElem? hx)
      have z1 := lineS_size2 hm.1
      have z2 := printS_size2 HS.out k hk
      have e1 := printS_take hx
      have C := fun W => rline_any x W hm.1 hm.2
      have hsum : (printS (l.take k)).size + (lineS x).size ≤ 9223372036854775807 := by
        have := hm.2
        omega
      unfold tsV at C
      generalize lineS x = r at *
      generalize printS (l.take k) = s at *
      generalize hs2 : printS (l.take (k + 1)) = s2 at *
      have C := Lib.hid C
      have HE := Lib.hid e1
      have HS2 := Lib.hid hs2
      have HL := Lib.hid hL
      have hi0 : (0 : Int) ≤ (k : Int) := by omega
      have hi1 : (k : Int) < (l.length : Int) := by omega
      have hcat := fun W => run_string_add_sum (P := Tryd.prog) W s r hsum
      rw [← e1] at hcat
      clear hTr hT hx hm e1 hL hs2 hxw hbl hsum
      go_wp2_with (go_at_call 12; (with_reducible refine (C.out _).mono ?_); rintro e w' ⟨rfl, hB⟩)
      go_roundw
      case rel => exact ⟨k + 1, by omega, by rw [HS2.out], by go_num, lt_step _ _ HL.out hB⟩
      case measure => simp [intOf]; omega
    · obtain rfl : k = l.length := by omega
      rw [List.take_length]
      have HL := Lib.hid hL
      clear hL
      go_wp2
      go_ret
      exact ⟨rfl, HL.out⟩
end Go.Proofs.YtlelnoalajeihaaDoor
