/- A part of the proof: an interpreter of the model's own code on partly known states, and that what it answers is what the program answers. No condition of its own. -/
import Derived.Test.YtlemmcoefpcpmaaDoorA1PathEscapesR0
import Derived.Test.YtlemmcoefpcpmaaDoorA1PathEscapesR1
import Derived.Test.YtlemmcoefpcpmaaDoorA1PathEscapesR2
import Derived.Test.YtlemmcoefpcpmaaDoorA1PathEscapesR3
set_option maxRecDepth 100000
set_option linter.unusedVariables false
namespace Go.Proofs.YtlemmcoefpcpmaaDoor.pathEscapes
open Go Go.AX Go.Proofs Go.Proofs.YtlemmcoefpcpmaaDoor
theorem allRuns : ∀ i, i < 256 → runI i = true := by
  intro i hi
  by_cases h124 : i < 124
  · by_cases h62 : i < 62
    · by_cases h31 : i < 31
      · exact allN_at (r0 ) i (by omega) (by omega)
      · exact allN_at (r31 ) i (by omega) (by omega)
    · by_cases h93 : i < 93
      · exact allN_at (r62 ) i (by omega) (by omega)
      · exact allN_at (r93 ) i (by omega) (by omega)
  · by_cases h186 : i < 186
    · by_cases h155 : i < 155
      · exact allN_at (r124 ) i (by omega) (by omega)
      · exact allN_at (r155 ) i (by omega) (by omega)
    · by_cases h217 : i < 217
      · exact allN_at (r186 ) i (by omega) (by omega)
      · by_cases h248 : i < 248
        · exact allN_at (r217 ) i (by omega) (by omega)
        · exact allN_at (r248 ) i (by omega) (by omega)
theorem runs (c0 : Nat) (h0 : c0 < 256) : run c0 = true := by
  have h := allRuns (c0) (by omega)
  unfold runI at h
  have e0 : Nat.mod (c0) 256 = c0 := by show (c0) % 256 = c0; omega
  rw [e0] at h
  exact h
theorem nu_one0 : ∀ i, ((fun _ : Nat => Value.bool true) i).oneCell' = true := fun _ => rfl
theorem walk (a0 : Int) (w0 : (Lit.int .u8 a0).wf = true) (w : World) (hl : laidE w) :
    Calls Tryd.prog 9 #[.int .u8 a0] w fun e w' => e = .returned (.bool true) ∧ Go.AX.Below w.heap.size w w' := by
  obtain ⟨fi, hfi, hb⟩ : ∃ fi, tabk.fn.get 9 = some fi ∧ fi.body.isSome = true := ⟨_, rfl, by kernel_rfl⟩
  obtain ⟨x0, rfl, hx0⟩ := natOf (M := 255) w0 rfl rfl
  have hall := tabkOk _ nu_one0
  exact runD hall rfl hfi hb (runs x0 (by omega)) (args := [.int .u8 (.ofNat x0)]) (by simp only [RelL, Rel]; exact ⟨_, _, rfl, rfl, rfl⟩) w hl
end Go.Proofs.YtlemmcoefpcpmaaDoor.pathEscapes
