/- A part of the proof: what an interpreter answers on partly known states is what the program answers. No condition. -/
import Derived.Test.YtcjanblpboaleaaDoorHKD
import Derived.Test.YtcjanblpboaleaaDoorHKC
import Derived.Deep.SlicePairs
set_option linter.unusedSimpArgs false
set_option linter.unusedVariables false
namespace Go.AX
open Go.ChangeShapes
def aO (p : List UInt8 × List UInt8) : List Value := [St' p.1, St' p.2]
theorem cL (p : List UInt8 × List UInt8) : (aO p).length = 2 := rfl
end Go.AX

