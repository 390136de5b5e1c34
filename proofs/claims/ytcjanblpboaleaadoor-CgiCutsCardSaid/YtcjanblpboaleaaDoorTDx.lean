/- A part of the proof: what an interpreter answers on partly known states is what the program answers. No condition. -/
import Derived.Test.YtcjanblpboaleaaDoorHXpart4
import Derived.Test.YtcjanblpboaleaaDoorTD
namespace Go.AX
end Go.AX

