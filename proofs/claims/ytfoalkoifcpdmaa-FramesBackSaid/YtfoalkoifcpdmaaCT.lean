/- A part of the proof: an interpreter of the model's own code on partly known states, and that what it answers is what the program answers. No condition of its own. -/
import Derived.Test.YtfoalkoifcpdmaaHKK
import Derived.Test.YtfoalkoifcpdmaaHKG
set_option linter.unusedSimpArgs false
set_option linter.unusedVariables false
namespace Go.AX
/- records out of bytes -/
abbrev RC := Int × Int × List UInt8 × Int
theorem bt_appL {a b : List UInt8} {i : Nat} (h : i < a.length) : bt (a ++ b) i = bt a i := by
  unfold bt; rw [List.getD_eq_getElem?_getD, List.getD_eq_getElem?_getD, List.getElem?_append_left h]
section
variable {m : Int} {a b : List UInt8}
end
/- bytes of records -/
abbrev isRB (r : RC) : Prop := 1 ≤ r.1 ∧ r.1 ≤ 255 ∧ 0 ≤ r.2.1 ∧ r.2.1 ≤ 65535 ∧ (r.2.2.1.length : Int) ≤ 65535 ∧ 0 ≤ r.2.2.2 ∧ r.2.2.2 ≤ 255
def rbP (r : RC) : List UInt8 := [u8 1, u8 (r.1 % 256), u8 ((r.2.1 / 256) % 256), u8 (r.2.1 % 256), u8 (((r.2.2.1.length : Int) / 256) % 256), u8 ((r.2.2.1.length : Int) % 256), u8 (r.2.2.2 % 256), u8 0] ++ (r.2.2.1 ++ List.replicate (Int.toNat r.2.2.2) 0)
def rbO (r : RC) : List UInt8 := if isRB r then rbP r else []
theorem bP1 (r : RC) : (rbP r).length = 8 + r.2.2.1.length + r.2.2.2.toNat := by
  unfold rbP; simp only [List.length_append, List.length_cons, List.length_nil, List.length_replicate]; omega
end Go.AX

