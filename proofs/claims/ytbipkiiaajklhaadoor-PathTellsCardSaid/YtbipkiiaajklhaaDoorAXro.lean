/- A part of the proof: an interpreter of the model's own code on partly known states, and that what it answers is what the program answers. No condition of its own. -/
import Derived.Test.YtbipkiiaajklhaaDoorHXpart4
set_option linter.unusedSimpArgs false
set_option linter.unusedVariables false
namespace Go.AX
noncomputable section
end
end Go.AX
namespace Go.AX
noncomputable section
structure InRow (w : World) (sz : Nat) (cs : List Value) (blk base cap es : Nat) : Prop where
  room : cap ≤ es
  pos : 1 ≤ sz
  len : cs.length = cap * sz
  cells : ∃ arr t fz, w.heap[blk]? = some (.cells arr t fz) ∧ ∀ (j : Nat) (x : Value), cs[j]? = some x → arr[base + j]? = some x ∧ x.oneCell' = true
end
end Go.AX

