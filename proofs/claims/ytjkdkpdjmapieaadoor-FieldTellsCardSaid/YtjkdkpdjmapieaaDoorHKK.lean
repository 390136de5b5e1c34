/- A part of the proof: what an interpreter answers on partly known states is what the program answers. No condition. -/
import Derived.Test.YtjkdkpdjmapieaaDoorHKJ
set_option linter.unusedSimpArgs false
set_option linter.unusedVariables false
namespace Go.AX
section
variable {C : Cx} {x y h r : AV} {α : Type} {f : α → List Value} {l m : List α} {sz : Nat}
end
end Go.AX
namespace Go.AX
theorem yZ {C : Cx} {b b' : Code} {l : LF} (e : b = b') (h : dQ C b' l) : dQ C b l := e ▸ h
end Go.AX

