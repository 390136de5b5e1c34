/- A part of the proof: an interpreter of the model's own code on partly known states, and that what it answers is what the program answers. No condition of its own. -/
import Derived.Test.YtacflaaahanhgaaC1RecordJunkO
set_option maxRecDepth 100000
set_option linter.unusedVariables false
set_option linter.unusedSimpArgs false
namespace Go.Proofs.Ytacflaaahanhgaa.recordJunk
open Go Go.AX Go.Proofs Go.Proofs.Ytacflaaahanhgaa
theorem rep0 : allN (repI ) 0 16 = true := by kernel_rfl
theorem rep4 : allN (repI ) 64 16 = true := by kernel_rfl
theorem rep8 : allN (repI ) 128 16 = true := by kernel_rfl
theorem rep12 : allN (repI ) 192 16 = true := by kernel_rfl
end Go.Proofs.Ytacflaaahanhgaa.recordJunk
