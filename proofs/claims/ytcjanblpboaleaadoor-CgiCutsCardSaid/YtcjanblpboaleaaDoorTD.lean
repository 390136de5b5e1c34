/- A part of the proof: what an interpreter answers on partly known states is what the program answers. No condition. -/
import Derived.Test.YtcjanblpboaleaaDoorHXpart4
set_option linter.unusedSimpArgs false
set_option linter.unusedVariables false
namespace Go.AX
def gR (n : Int) : Int := if 65 ≤ n ∧ n ≤ 70 then n - 55 else if 97 ≤ n ∧ n ≤ 102 then n - 87 else if 48 ≤ n ∧ n ≤ 57 then n - 48 else 16
theorem GG (n : Int) : 0 ≤ gR n ∧ gR n ≤ 16 := by
 unfold gR
 split
 ·omega
 ·split
  ·omega
  ·split <;> omega
def fL (B : Int) : List UInt8 → Int → Int
 | [], n => n
 | b :: r, n => fL B r (n * B + gR (b.toNat : Int))
theorem valDrop {B : Int} {s : List UInt8} {i : Nat} {n : Int} (hi : i < s.length) : fL B (s.drop i) n = fL B (s.drop (i + 1)) (n * B + gR (bt s i)) := by
 rw [List.drop_eq_getElem_cons hi, fL]
 unfold bt
 rw [List.getD_eq_getElem?_getD, List.getElem?_eq_getElem hi]; rfl
theorem valEnd {B : Int} {s : List UInt8} {i : Nat} {n : Int} (hi : s.length ≤ i) : fL B (s.drop i) n = n := by
 rw [List.drop_eq_nil_of_le hi]; rfl
theorem powLe {i : Nat} (h : i ≤ 8) : (16 : Int) ^ i ≤ 4294967296 := by
 have : i = 0 ∨ i = 1 ∨ i = 2 ∨ i = 3 ∨ i = 4 ∨ i = 5 ∨ i = 6 ∨ i = 7 ∨ i = 8 := by omega
 rcases this with rfl | rfl | rfl | rfl | rfl | rfl | rfl | rfl | rfl <;> decide
theorem wY {i : Nat} {n B : Int} (hB : B = 10 ∨ B = 16) (h0 : 0 ≤ n) (h1 : n < (16 : Int) ^ i) (h : i ≤ 8) : 0 ≤ n * B ∧ n * B ≤ 68719476736 ∧ n ≤ 4294967296 := by
 have := powLe h
 rcases hB with rfl | rfl <;> omega
theorem numPow {i : Nat} {n B d : Int} (hB : B = 10 ∨ B = 16) (h0 : 0 ≤ n) (h1 : n < (16 : Int) ^ i) (hd : d < B) : n * B + d < (16 : Int) ^ (i + 1) := by
 rw [Int.pow_succ]
 rcases hB with rfl | rfl <;> omega
end Go.AX

