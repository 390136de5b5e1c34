/- A part of the proof: an interpreter of the model's own code on partly known states, and that what it answers is what the program answers. No condition of its own. -/
import Derived.Test.YtkhcgoeccmkmdaaP1RecordRowsO2
set_option maxRecDepth 100000
set_option linter.unusedVariables false
set_option linter.unusedSimpArgs false
set_option maxHeartbeats 4000000
namespace Go.Proofs.Ytkhcgoeccmkmdaa.recordRows
open Go Go.AX Go.Proofs Go.Proofs.Ytkhcgoeccmkmdaa
variable {nu : Nat → Value} {one : ∀ i, i < 1000000 → (nu i).oneCell' = true} {E' : Cx} {x' : Ex} {e' : LA} {h' : LE}
theorem rep2 : allN (repI ) 32 16 = true := by kernel_rfl
theorem rep6 : allN (repI ) 96 16 = true := by kernel_rfl
theorem rep10 : allN (repI ) 160 16 = true := by kernel_rfl
theorem rep14 : allN (repI ) 224 16 = true := by kernel_rfl
end Go.Proofs.Ytkhcgoeccmkmdaa.recordRows
