/- A part of the proof: what an interpreter answers on partly known states is what the program answers. No condition. -/
import Derived.Test.YtngkglegomkjkaaDoorHKD
import Derived.Test.YtngkglegomkjkaaDoorHKC
import Derived.Deep.SlicePairs
set_option linter.unusedSimpArgs false
set_option linter.unusedVariables false
namespace Go.AX
open Go.ChangeShapes
def aM (p : List UInt8 × List UInt8) : List Value := [St' p.1, St' p.2]
theorem bH (p : List UInt8 × List UInt8) : (aM p).length = 2 := rfl
theorem range_get {α : Type} {f : Nat → α} {n j : Nat} {x : α} (h : ((List.range n).map f)[j]? = some x) : j < n ∧ x = f j := by
 rw [List.getElem?_map] at h
 cases hr : (List.range n)[j]? with
 | none => rw [hr] at h; cases h
 | some m =>
  rw [hr] at h
  obtain ⟨hlt, e⟩ := List.getElem?_eq_some_iff.1 hr
  simp at hlt e
  subst e
  simp at h
  exact ⟨hlt, h.symm⟩
end Go.AX

