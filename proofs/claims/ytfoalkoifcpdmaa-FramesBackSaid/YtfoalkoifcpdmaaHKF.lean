/- A part of the proof: an interpreter of the model's own code on partly known states, and that what it answers is what the program answers. No condition of its own. -/
import Derived.Test.YtfoalkoifcpdmaaHKE
set_option linter.unusedSimpArgs false
set_option linter.unusedVariables false
namespace Go.AX
open Go.ChangeShapes
def reC (r : Int × Int × List UInt8 × Int) : List Value := [.int .i64 r.1, .int .i64 r.2.1, St' r.2.2.1, .int .i64 r.2.2.2]
theorem aC3 (r : Int × Int × List UInt8 × Int) : (reC r).length = 4 := rfl
end Go.AX

