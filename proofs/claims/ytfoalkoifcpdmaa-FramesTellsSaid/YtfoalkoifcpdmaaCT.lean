/- A part of the proof: an interpreter of the model's own code on partly known states, and that what it answers is what the program answers. No condition of its own. -/
import Derived.Test.YtfoalkoifcpdmaaHKK
import Derived.Test.YtfoalkoifcpdmaaHKG
set_option linter.unusedSimpArgs false
set_option linter.unusedVariables false
namespace Go.AX
/- records out of bytes -/
abbrev RC := Int × Int × List UInt8 × Int
theorem bt_appL {a b : List UInt8} {i : Nat} (h : i < a.length) : bt (a ++ b) i = bt a i := by
  unfold bt; rw [List.getD_eq_getElem?_getD, List.getD_eq_getElem?_getD, List.getElem?_append_left h]
section
variable {m : Int} {a b : List UInt8}
end
/- bytes of records -/
end Go.AX

