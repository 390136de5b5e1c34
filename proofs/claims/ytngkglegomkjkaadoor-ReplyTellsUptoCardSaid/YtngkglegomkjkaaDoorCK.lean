/- A part of the proof: what an interpreter answers on partly known states is what the program answers. No condition. -/
import Derived.Test.YtngkglegomkjkaaDoorHKN
import Derived.Test.YtngkglegomkjkaaDoorHXpart4
set_option linter.unusedSimpArgs false
set_option linter.unusedVariables false
namespace Go.AX
/- bodies in chunks -/
abbrev BL := List UInt8
def hexS (n : Int) : BL := if n < 16 then [u8 (dg n)] else if n < 256 then [u8 (dg (n / 16)), u8 (dg (n % 16))] else [u8 (dg (n / 256)), u8 (dg (n / 16 % 16)), u8 (dg (n % 16))]
theorem pE {x : Int} (h0 : 0 ≤ x) (h : x < 16) : (48 ≤ dg x ∧ dg x ≤ 57) ∨ (97 ≤ dg x ∧ dg x ≤ 102) := by have := mc x; omega
theorem Ef {n : Int} : 1 ≤ (hexS n).length ∧ (hexS n).length ≤ 3 := by
 unfold hexS; split
 ·simp only [List.length_cons, List.length_nil]; omega
 ·split
  ·simp only [List.length_cons, List.length_nil]; omega
  ·simp only [List.length_cons, List.length_nil]; omega
def LSTS : BL := [u8 48, u8 13, u8 10, u8 13, u8 10]
def dR (x : BL) : BL := if x.length = 0 then [] else hexS (x.length : Int) ++ ([u8 13, u8 10] ++ (x ++ [u8 13, u8 10]))
def ckS : List BL → BL
 | [] => LSTS
 | x :: R => dR x ++ ckS R
def aft (c : BL) (R : List BL) : BL := if c.length = 0 then [u8 13, u8 10] else c ++ (u8 13 :: u8 10 :: ckS R)
def aV (tag : Nat) (X c : BL) (R : List BL) : BL :=
 if tag = 0 then X ++ (u8 13 :: u8 10 :: aft c R) else if tag = 1 then u8 10 :: aft c R else if tag = 2 then c ++ (u8 13 :: u8 10 :: ckS R)
 else if tag = 3 then u8 13 :: u8 10 :: ckS R else if tag = 4 then u8 10 :: ckS R else if tag = 5 then [u8 13, u8 10] else if tag = 6 then [u8 10] else []
end Go.AX

