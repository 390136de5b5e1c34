/- A part of the proof: an interpreter of the model's own code on partly known states, and that what it answers is what the program answers. No condition of its own. -/
import Derived.Test.YtbipkiiaajklhaaDoorHXpart4
import Derived.Test.YtbipkiiaajklhaaDoorTD
namespace Go.AX
end Go.AX

