/- A part of the proof: what an interpreter answers on partly known states is what the program answers. No condition. -/
import Derived.Test.YtngkglegomkjkaaDoorAXcf
namespace Go.AX
theorem FN {w w' : World} (h : Go.RowKit.Below w.heap.size w w') : Below (Fz.lt w.heap.size) w w' :=
 ⟨h.os, h.tape, h.output, h.size, h.block, fun i o hi ho => by
   have hlt : i < w.heap.size := by
    rcases Nat.lt_or_ge i w.heap.size with hh | hh
    ·exact hh
    ·rw [Array.getElem?_eq_none hh] at hi; cases hi
   exact (h.block i hlt).trans hi⟩
where eqArgs : List AV → List AV → Bool
 | [], [] => true
 | a :: l, b :: m => eu 8 a b && eqArgs l m
 | _, _ => false
theorem cT {C : Cx} {x : AV} {b : Bool} (hx : Is C x (.bool b)) (h : b = true) : aS C (.bI x (.b true)) (.b true) :=
 ⟨true, rfl, fun ρ vx vy h1 h2 => ⟨b, true, hx ρ vx h1, by simpa only [Rel] using h2, by rw [h]; rfl⟩⟩
theorem cL {C : Cx} {x : AV} {b : Bool} (hx : Is C x (.bool b)) (h : ¬ b = true) : aS C (.bI x (.b true)) (.b false) :=
 ⟨false, rfl, fun ρ vx vy h1 h2 => ⟨b, true, hx ρ vx h1, by simpa only [Rel] using h2, by cases b <;> first | rfl | exact absurd rfl h⟩⟩
theorem kB0 {C : Cx} {i : Nat} (h : C.nu i = St' []) : aS C (.bytes []) (.x i) := oW (bs := []) .nil (aF h)
def bk (t : Nat) (l : List AV) : aZ := .b ⟨t, .l l, 0, 0, 0, false, false⟩
abbrev I6 (n : Nat) : AV := .i .i64 (.ofNat n)
end Go.AX

