/- TaskMany: the walk. -/
import Derived.Test.YtapeklpnjckfkaaChecksW
namespace Go.Proofs.Ytapeklpnjckfkaa
open Go.RowKit
set_option linter.unusedVariables false
set_option linter.unusedSimpArgs false

/-! ### The names -/
def b3 (x y z : Int) : ByteArray := bs [UInt8.ofNat x.toNat, UInt8.ofNat y.toNat, UInt8.ofNat z.toNat]
theorem conv3 (W : World) (x y z : Int) (hx : 0 ≤ x ∧ x < 256) (hy : 0 ≤ y ∧ y < 256) (hz : 0 ≤ z ∧ z < 256) :
    (convert 52 9 (.slice (some ⟨W.heap.size, 0, none⟩) 3 3)).run Try.prog (W.alloc (.cells #[.int .u8 x, .int .u8 y, .int .u8 z] 5)) = .ok (.string (b3 x y z)) (W.alloc (.cells #[.int .u8 x, .int .u8 y, .int .u8 z] 5)) := by
  rw [run_convert_bytes_string _ 52 9 5 _ _ _ Try.underlying52 Try.underlying5 Try.underlying9]
  rw [run_bytesToString (ns := [x, y, z])]
  · rfl
  · go_simp
def nmT (k : Nat) : ByteArray := ({ data := #[110] } : ByteArray) ++ b3 (97 + (k : Int) % 26) (97 + (k : Int) / 26 % 26) (97 + (k : Int) / 676)
theorem nmT_list (k : Nat) (hk : k < 1040) : (nmT k).data.toList = [110, UInt8.ofNat (97 + k % 26), UInt8.ofNat (97 + k / 26 % 26), UInt8.ofNat (97 + k / 676)] := by
  have e1 : (97 + (k : Int) % 26).toNat = 97 + k % 26 := by omega
  have e2 : (97 + (k : Int) / 26 % 26).toNat = 97 + k / 26 % 26 := by omega
  have e3 : (97 + (k : Int) / 676).toNat = 97 + k / 676 := by omega
  simp [nmT, b3, bs, e1, e2, e3]
theorem toNat_ofNat {n : Nat} (h : n < 256) : (UInt8.ofNat n).toNat = n := by
  show n % 256 = n
  omega
theorem ltr_low {n : Nat} (h1 : 97 ≤ n) (h2 : n ≤ 122) : ltr (UInt8.ofNat n) = true := by
  rw [ltr, toNat_ofNat (by omega)]
  simp; omega
theorem goes_low {n : Nat} (h1 : 97 ≤ n) (h2 : n ≤ 122) : goes 1 (UInt8.ofNat n) = true := by
  simp [goes, ltr_low h1 h2]
theorem nmT_size (k : Nat) (hk : k < 1040) : (nmT k).size = 4 := by rw [Lib.size_eq, nmT_list k hk]; rfl
theorem nmT_word (k : Nat) (hk : k < 1040) : wordB (nmT k) = true := by
  have hd : kind 110 = 1 := by decide +kernel
  rw [wordB_cons (nmT_list k hk)]
  have hr : runLen 1 [UInt8.ofNat (97 + k % 26), UInt8.ofNat (97 + k / 26 % 26), UInt8.ofNat (97 + k / 676)] = 3 := by
    rw [runLen, if_pos (goes_low (by omega) (by omega)), runLen, if_pos (goes_low (by omega) (by omega)), runLen, if_pos (goes_low (by omega) (by omega))]
    rfl
  have hl : [UInt8.ofNat (97 + k % 26), UInt8.ofNat (97 + k / 26 % 26), UInt8.ofNat (97 + k / 676)].length = 3 := rfl
  have hz := nmT_size k hk
  generalize [UInt8.ofNat (97 + k % 26), UInt8.ofNat (97 + k / 26 % 26), UInt8.ofNat (97 + k / 676)] = r at *
  simp [oneT, hd, tkOf, hr, hl, hz]
theorem nmT_inj {i j : Nat} (hi : i < 1040) (hj : j < 1040) (h : nmT i = nmT j) : i = j := by
  have e := congrArg (fun b : ByteArray => b.data.toList.map UInt8.toNat) h
  simp only [nmT_list i hi, nmT_list j hj, List.map_cons, List.map_nil, List.cons.injEq] at e
  rw [toNat_ofNat (by omega), toNat_ofNat (by omega), toNat_ofNat (by omega), toNat_ofNat (by omega), toNat_ofNat (by omega), toNat_ofNat (by omega)] at e
  omega

/-! ### The tasks -/
def tk (n k : Nat) : Ts := ⟨nmT k, 1, 1, 1, 0, 1, (n : Int) - (k : Int)⟩
def tks (n k : Nat) : List Ts := (List.range k).map (tk n)
theorem tks_length (n k : Nat) : (tks n k).length = k := by simp [tks]
theorem tks_snoc (n k : Nat) : tks n (k + 1) = tks n k ++ [tk n k] := by simp [tks, List.range_succ]
theorem tks_get {n m k : Nat} (h : k < m) : (tks n m)[k]? = some (tk n k) := by simp [tks, h]
theorem tks_is {n m k : Nat} {x : Ts} (h : (tks n m)[k]? = some x) : k < m ∧ x = tk n k := by
  have hk := (List.getElem?_eq_some_iff.1 h).1
  rw [tks_length] at hk
  rw [tks_get hk] at h
  exact ⟨hk, (Option.some.inj h).symm⟩
theorem tk_wf {n k : Nat} (hn : n ≤ 1040) (hk : k < 1040) : TsW (tk n k) :=
  ⟨by show (nmT k).size ≤ _; rw [nmT_size k hk]; omega, by show in64 1; unfold in64; omega, by show in64 1; unfold in64; omega, by show in64 1; unfold in64; omega, by show in64 0; unfold in64; omega, by show in64 1; unfold in64; omega, by show in64 ((n : Int) - (k : Int)); unfold in64; omega⟩
theorem ok_of {s : ByteArray} {p : Int} (hs : s.size ≤ 32) (hw : wordB s = true) (h1 : 1 ≤ p) (h2 : p ≤ 1048576) : checkE ⟨s, 1, 1, 1, 0, 1, p⟩ = 0 := by
  have hn : namedB ⟨s, 1, 1, 1, 0, 1, p⟩ = true := by simp [namedB, hs, hw]
  have hr : rangedB ⟨s, 1, 1, 1, 0, 1, p⟩ = true := by simp [rangedB, inB, h1, h2]
  rw [checkE, hn, hr]
  simp [overB]
theorem tk_ok {n k : Nat} (hn : n ≤ 1040) (hk : k < n) : checkE (tk n k) = 0 := ok_of (by rw [nmT_size k (by omega)]; omega) (nmT_word k (by omega)) (by omega) (by omega)

/-- Up to a place nothing is wrong. -/
theorem chk_upto {l : List Ts} (h0 : l.length ≠ 0) (h1 : l.length ≤ 1024) : ∀ m, m ≤ l.length → (∀ k x, k < m → l[k]? = some x → checkE x = 0 ∧ nameIn (l.take k) x = false ∧ prioIn (l.take k) x = false) → chkAll l = chkFrom (l.take m) (l.drop m)
  | 0, _, _ => chk_start h0 h1
  | m + 1, hm, h => by
    have ih := chk_upto h0 h1 m (by omega) (fun k x hk hx => h k x (by omega) hx)
    have hx : l[m]? = some l[m] := List.getElem?_eq_getElem (by omega)
    obtain ⟨e1, e2, e3⟩ := h m _ (by omega) hx
    exact chk_next ih hx e1 e2 e3
theorem tks_fine {n k : Nat} (hn : n ≤ 1024) {x : Ts} (hx : (tks n n)[k]? = some x) : checkE x = 0 ∧ nameIn ((tks n n).take k) x = false ∧ prioIn ((tks n n).take k) x = false := by
  obtain ⟨hk, rfl⟩ := tks_is hx
  refine ⟨tk_ok (by omega) hk, nameIn_none fun i y hi hy => ?_, prioIn_none fun i y hi hy => ?_⟩
  · obtain ⟨hi2, rfl⟩ := tks_is hy
    intro e
    have := nmT_inj (by omega) (by omega) e
    omega
  · obtain ⟨hi2, rfl⟩ := tks_is hy
    show (n : Int) - (i : Int) ≠ (n : Int) - (k : Int)
    omega
theorem tks_all {n : Nat} (h0 : n ≠ 0) (hn : n ≤ 1024) : chkAll (tks n n) = (n, 0) := by
  have := chk_end (chk_upto (l := tks n n) (by rw [tks_length]; exact h0) (by rw [tks_length]; exact hn) _ (Nat.le_refl _) (fun k x _ hx => tks_fine hn hx))
  rwa [tks_length] at this
theorem tks_many {n : Nat} (hn : 1024 < n) : chkAll (tks n n) = (0, 14) := by rw [chkAll, if_pos (by rw [tks_length]; exact .inr hn)]
/-- With one that is like one ahead. -/
theorem tks_dup {n lo hi : Nat} (hn : n ≤ 1024) (h1 : lo < hi) (h2 : hi < n) (x' : Ts) (hok : checkE x' = 0) (hd : (tk n lo).n = x'.n ∨ (tk n lo).p = x'.p) : chkAll ((tks n n).set hi x') = (hi, 13) := by
  have hl : ((tks n n).set hi x').length = n := by rw [List.length_set, tks_length]
  have htake : ∀ k, k ≤ hi → ((tks n n).set hi x').take k = (tks n n).take k := fun k hk => by rw [List.take_set_of_le hk]
  have hget : ∀ k, k < hi → ((tks n n).set hi x')[k]? = (tks n n)[k]? := fun k hk => List.getElem?_set_ne (by omega)
  have := chk_upto (l := (tks n n).set hi x') (by omega) (by omega) hi (by omega) (fun k x hk hx => by
    rw [hget k hk] at hx
    rw [htake k (by omega)]
    exact tks_fine hn hx)
  refine chk_dup this (x := x') (List.getElem?_set_self (by rw [tks_length]; exact h2)) hok ?_
  refine dup_hit (i := lo) (y := tk n lo) h1 (by rw [hget lo h1]; exact tks_get (by omega)) hd
theorem tks_same {n k : Nat} {x' : Ts} (hk : k < n) (h : x' = tk n k) : (tks n n).set k x' = tks n n := by
  subst h
  apply List.ext_getElem?
  intro i
  by_cases e : k = i
  · subst e; rw [List.getElem?_set_self (by rw [tks_length]; exact hk), tks_get hk]
  · rw [List.getElem?_set_ne e]
end Go.Proofs.Ytapeklpnjckfkaa
