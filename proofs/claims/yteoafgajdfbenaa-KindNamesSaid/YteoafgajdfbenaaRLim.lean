/- A part of the proof: an interpreter of the model's own code on partly known states, and that what it answers is what the program answers. No condition of its own. -/
import Derived.Test.YteoafgajdfbenaaSeatOk
set_option maxRecDepth 100000
set_option linter.unusedVariables false
namespace Go.Proofs.Yteoafgajdfbenaa.recordLimits
open Go Go.AX Go.Proofs Go.Proofs.Yteoafgajdfbenaa
open Go.RowKit (Below)
def isTrue : Option (AV × St) → Bool
  | some (.b true, _) => true
  | _ => false
theorem isTrue_inv : ∀ {r : Option (AV × St)}, isTrue r = true → ∃ S, r = some (.b true, S)
  | some (.b true, S), _ => ⟨S, rfl⟩
def hy (a b : Int) : List (HK × AV) := [(.bin .rem (.x 0) (.i .u8 3), .i .u8 a), (.bin .rem (.x 1) (.i .u8 3), .i .u8 b)]
noncomputable def tabH (a b : Int) : Tab := { tab with hyp := hy a b }
theorem r00 : isTrue (call (tabH 0 0) 400 4 [.x 0, .x 1] ⟨.leaf, 1, 0, 0⟩) = true := by kernel_rfl
theorem r01 : isTrue (call (tabH 0 1) 400 4 [.x 0, .x 1] ⟨.leaf, 1, 0, 0⟩) = true := by kernel_rfl
theorem r02 : isTrue (call (tabH 0 2) 400 4 [.x 0, .x 1] ⟨.leaf, 1, 0, 0⟩) = true := by kernel_rfl
theorem r10 : isTrue (call (tabH 1 0) 400 4 [.x 0, .x 1] ⟨.leaf, 1, 0, 0⟩) = true := by kernel_rfl
theorem r11 : isTrue (call (tabH 1 1) 400 4 [.x 0, .x 1] ⟨.leaf, 1, 0, 0⟩) = true := by kernel_rfl
theorem r12 : isTrue (call (tabH 1 2) 400 4 [.x 0, .x 1] ⟨.leaf, 1, 0, 0⟩) = true := by kernel_rfl
theorem r20 : isTrue (call (tabH 2 0) 400 4 [.x 0, .x 1] ⟨.leaf, 1, 0, 0⟩) = true := by kernel_rfl
theorem r21 : isTrue (call (tabH 2 1) 400 4 [.x 0, .x 1] ⟨.leaf, 1, 0, 0⟩) = true := by kernel_rfl
theorem r22 : isTrue (call (tabH 2 2) 400 4 [.x 0, .x 1] ⟨.leaf, 1, 0, 0⟩) = true := by kernel_rfl
end Go.Proofs.Yteoafgajdfbenaa.recordLimits
