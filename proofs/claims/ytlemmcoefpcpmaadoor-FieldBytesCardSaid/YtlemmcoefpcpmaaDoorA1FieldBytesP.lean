/- A part of the proof: an interpreter of the model's own code on partly known states, and that what it answers is what the program answers. No condition of its own. -/
import Derived.Test.YtlemmcoefpcpmaaDoorA1FieldBytesR0
import Derived.Test.YtlemmcoefpcpmaaDoorA1FieldBytesR1
import Derived.Test.YtlemmcoefpcpmaaDoorA1FieldBytesR2
import Derived.Test.YtlemmcoefpcpmaaDoorA1FieldBytesR3
set_option maxRecDepth 100000
set_option linter.unusedVariables false
namespace Go.Proofs.YtlemmcoefpcpmaaDoor.fieldBytes
open Go Go.AX Go.Proofs Go.Proofs.YtlemmcoefpcpmaaDoor
theorem allRuns : ∀ i, i < 256 → runI i = true := by
  intro i hi
  by_cases h125 : i < 125
  · by_cases h50 : i < 50
    · by_cases h25 : i < 25
      · exact allN_at (r0 ) i (by omega) (by omega)
      · exact allN_at (r25 ) i (by omega) (by omega)
    · by_cases h75 : i < 75
      · exact allN_at (r50 ) i (by omega) (by omega)
      · by_cases h100 : i < 100
        · exact allN_at (r75 ) i (by omega) (by omega)
        · exact allN_at (r100 ) i (by omega) (by omega)
  · by_cases h200 : i < 200
    · by_cases h150 : i < 150
      · exact allN_at (r125 ) i (by omega) (by omega)
      · by_cases h175 : i < 175
        · exact allN_at (r150 ) i (by omega) (by omega)
        · exact allN_at (r175 ) i (by omega) (by omega)
    · by_cases h225 : i < 225
      · exact allN_at (r200 ) i (by omega) (by omega)
      · by_cases h250 : i < 250
        · exact allN_at (r225 ) i (by omega) (by omega)
        · exact allN_at (r250 ) i (by omega) (by omega)
theorem runs (c0 : Nat) (h0 : c0 < 256) : run c0 = true := by
  have h := allRuns (c0) (by omega)
  unfold runI at h
  have e0 : Nat.mod (c0) 256 = c0 := by show (c0) % 256 = c0; omega
  rw [e0] at h
  exact h
theorem nu_one0 : ∀ i, ((fun _ : Nat => Value.bool true) i).oneCell' = true := fun _ => rfl
theorem walk (a0 : Int) (w0 : (Lit.int .u8 a0).wf = true) (w : World) (hl : laidE w) :
    Calls Tryd.prog 4 #[.int .u8 a0] w fun e w' => e = .returned (.bool true) ∧ Go.AX.Below w.heap.size w w' := by
  obtain ⟨fi, hfi, hb⟩ : ∃ fi, tabk.fn.get 4 = some fi ∧ fi.body.isSome = true := ⟨_, rfl, by kernel_rfl⟩
  obtain ⟨x0, rfl, hx0⟩ := natOf (M := 255) w0 rfl rfl
  have hall := tabkOk _ nu_one0
  exact runD hall rfl hfi hb (runs x0 (by omega)) (args := [.int .u8 (.ofNat x0)]) (by simp only [RelL, Rel]; exact ⟨_, _, rfl, rfl, rfl⟩) w hl
end Go.Proofs.YtlemmcoefpcpmaaDoor.fieldBytes
