/- The document's Print. -/
import Derived.Test.YtlelnoalajeihaaDoorRLine
import Derived.Test.YtlelnoalajeihaaDoorMaps
namespace Go.Proofs.YtlelnoalajeihaaDoor
open Go.RowKit
set_option linter.unusedVariables false
set_option linter.unusedSimpArgs false

def printS (l : List Ts) : ByteArray := l.foldl (fun s x => s ++ lineS x) { data := #[] }
theorem printS_snoc (l : List Ts) (x : Ts) : printS (l ++ [x]) = printS l ++ lineS x := by simp [printS]
theorem lineS_size {x : Ts} (hx : TsW x) (hn : x.n.size ≤ 100) : (lineS x).size ≤ 300 := by
  have z1 := dgs_size x.c hx.c
  have z2 := dgs_size x.t hx.t
  have z3 := dgs_size x.d hx.d
  have z4 := dgs_size x.j hx.j
  have z5 := dgs_size x.q hx.q
  have z6 := dgs_size x.p hx.p
  have zt := chr_size 10
  have e5 : ({ data := #[116, 97, 115, 107, 32] } : ByteArray).size = 5 := by decide
  have e1 : ({ data := #[32, 99, 61] } : ByteArray).size = 3 := by decide
  have e2 : ({ data := #[32, 116, 61] } : ByteArray).size = 3 := by decide
  have e3 : ({ data := #[32, 100, 61] } : ByteArray).size = 3 := by decide
  have e4 : ({ data := #[32, 106, 61] } : ByteArray).size = 3 := by decide
  have e6 : ({ data := #[32, 113, 61] } : ByteArray).size = 3 := by decide
  have e7 : ({ data := #[32, 112, 61] } : ByteArray).size = 3 := by decide
  unfold lineS lineB
  simp only [ByteArray.size_append]
  omega
/-- Tasks with short names. -/
def Shorts (l : List Ts) : Prop := ∀ x ∈ l, TsW x ∧ x.n.size ≤ 100
theorem printS_take {l : List Ts} {k : Nat} {x : Ts} (h : l[k]? = some x) : printS (l.take (k + 1)) = printS (l.take k) ++ lineS x := by
  rw [take_ts h, printS_snoc]
theorem printS_size {l : List Ts} (h : Shorts l) : ∀ k, k ≤ l.length → (printS (l.take k)).size ≤ k * 300
  | 0, _ => by rw [List.take_zero, printS]; exact Nat.zero_le _
  | k + 1, hk => by
    obtain ⟨x, hx⟩ : ∃ x, l[k]? = some x := ⟨l[k], List.getElem?_eq_getElem (by omega)⟩
    have hm := h x (List.mem_of_getElem? hx)
    have := lineS_size hm.1 hm.2
    have ih := printS_size h k (by omega)
    rw [printS_take hx, ByteArray.size_append]
    omega

set_option maxRecDepth 100000 in
set_option maxHeartbeats 4000000 in
theorem rprint_any (A : Option Addr) (cap : Nat) (l : List Ts) (w : World) (hR : Row w A cap l) (hS : Shorts l) (hl : l.length ≤ 100) :
    Calls Tryd.prog 10 #[.slice A l.length cap] w fun e w' => e = .returned (.string (printS l)) ∧ Below w.heap.size w w' := by
  have hle := hR.le
  have hmx := hR.mx
  have ROW := Lib.hid hR
  have HS := Lib.hid hS
  clear hR hS
  go_enter Tryd.func10, Tryd.ntmps10
  go_wp2
  go_loopw [3, 4] (fun s i wr => ∃ k : Nat, k ≤ l.length ∧ s = .string (printS (l.take k)) ∧ i = .int .i64 k ∧ Lt w wr) (fun _ i _ => l.length - (intOf i).toNat)
  case atStart => exact ⟨0, Nat.zero_le _, by simp [printS], rfl, Below.refl _ _⟩
  case round =>
    obtain ⟨k, hk, rfl, rfl, hL⟩ := hrel
    by_cases hlt : k < l.length
    · obtain ⟨b, o, x, rfl, hx, hxw, hbl, hT⟩ := ROW.out.get hlt
      have hTr := hT.later hL
      have c0 := hTr.c0
      have c1 := hTr.c1
      have c2 := hTr.c2
      have c3 := hTr.c3
      have c4 := hTr.c4
      have c5 := hTr.c5
      have c6 := hTr.c6
      have hm := HS.out x (List.mem_of_getElem? hx)
      have z1 := lineS_size hm.1 hm.2
      have z2 := printS_size HS.out k hk
      have e1 := printS_take hx
      have C := fun W => rline_any x W hm.1 (by omega)
      unfold tsV at C
      generalize lineS x = r at *
      generalize printS (l.take k) = s at *
      generalize hs2 : printS (l.take (k + 1)) = s2 at *
      have C := Lib.hid C
      have HE := Lib.hid e1
      have HS2 := Lib.hid hs2
      have HL := Lib.hid hL
      have hi0 : (0 : Int) ≤ (k : Int) := by omega
      have hi1 : (k : Int) < (l.length : Int) := by omega
      have hcat := fun W => run_string_add_sum (P := Tryd.prog) W s r (by omega)
      rw [← e1] at hcat
      clear hTr hT hx hm e1 hL hs2 hxw hbl
      go_wp2_with (go_at_call 12; (with_reducible refine (C.out _).mono ?_); rintro e w' ⟨rfl, hB⟩)
      go_roundw
      case rel => exact ⟨k + 1, by omega, by rw [HS2.out], by go_num, lt_step _ _ HL.out hB⟩
      case measure => simp [intOf]; omega
    · obtain rfl : k = l.length := by omega
      rw [List.take_length]
      have HL := Lib.hid hL
      clear hL
      go_wp2
      go_ret
      exact ⟨rfl, HL.out⟩
end Go.Proofs.YtlelnoalajeihaaDoor
