/- A part of the proof: what an interpreter answers on partly known states is what the program answers. No condition. -/
import Derived.Test.YtngkglegomkjkaaDoorHXpart4
set_option linter.unusedSimpArgs false
set_option linter.unusedVariables false
namespace Go.AX
end Go.AX

