/- A part of the proof: what an interpreter answers on partly known states is what the program answers. No condition. -/
import Derived.Test.YtjkdkpdjmapieaaDoorHXpart4
import Derived.Test.YtjkdkpdjmapieaaDoorTD
namespace Go.AX
end Go.AX

