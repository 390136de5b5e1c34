/- A part of the proof: an interpreter of the model's own code on partly known states, and that what it answers is what the program answers. No condition of its own. -/
import Derived.Test.YtckjigiafmiieaaGreatDoorA4AnswerKeepsR0
import Derived.Test.YtckjigiafmiieaaGreatDoorA4AnswerKeepsR1
import Derived.Test.YtckjigiafmiieaaGreatDoorA4AnswerKeepsR2
import Derived.Test.YtckjigiafmiieaaGreatDoorA4AnswerKeepsR3
set_option maxRecDepth 100000
set_option linter.unusedVariables false
namespace Go.Proofs.YtckjigiafmiieaaGreatDoor.answerKeeps
open Go Go.AX Go.Proofs Go.Proofs.YtckjigiafmiieaaGreatDoor
theorem allRuns (e1 : Nat) (e6 : Nat) : ∀ i, i < 16 → runI e1 e6 i = true := by
  intro i hi
  by_cases h8 : i < 8
  · by_cases h4 : i < 4
    · exact allN_at (r0 e1 e6 ) i (by omega) (by omega)
    · exact allN_at (r4 e1 e6 ) i (by omega) (by omega)
  · by_cases h12 : i < 12
    · exact allN_at (r8 e1 e6 ) i (by omega) (by omega)
    · exact allN_at (r12 e1 e6 ) i (by omega) (by omega)
theorem runs (e1 : Nat) (e6 : Nat) (b0 : Bool) (b1 : Bool) (b2 : Bool) (b3 : Bool) : run e1 e6 b0 b1 b2 b3 = true := by
  have hb0 := nOf_lt b0
  have hb1 := nOf_lt b1
  have hb2 := nOf_lt b2
  have hb3 := nOf_lt b3
  have h := allRuns e1 e6 ((nOf b0 + 2 * (nOf b1 + 2 * (nOf b2 + 2 * nOf b3)))) (by omega)
  unfold runI at h
  have e0 : Nat.mod ((nOf b0 + 2 * (nOf b1 + 2 * (nOf b2 + 2 * nOf b3)))) 2 = nOf b0 := by show ((nOf b0 + 2 * (nOf b1 + 2 * (nOf b2 + 2 * nOf b3)))) % 2 = nOf b0; omega
  have d0 : Nat.div ((nOf b0 + 2 * (nOf b1 + 2 * (nOf b2 + 2 * nOf b3)))) 2 = (nOf b1 + 2 * (nOf b2 + 2 * nOf b3)) := by show ((nOf b0 + 2 * (nOf b1 + 2 * (nOf b2 + 2 * nOf b3)))) / 2 = (nOf b1 + 2 * (nOf b2 + 2 * nOf b3)); omega
  rw [e0, d0, bOf_nOf] at h
  have e1 : Nat.mod ((nOf b1 + 2 * (nOf b2 + 2 * nOf b3))) 2 = nOf b1 := by show ((nOf b1 + 2 * (nOf b2 + 2 * nOf b3))) % 2 = nOf b1; omega
  have d1 : Nat.div ((nOf b1 + 2 * (nOf b2 + 2 * nOf b3))) 2 = (nOf b2 + 2 * nOf b3) := by show ((nOf b1 + 2 * (nOf b2 + 2 * nOf b3))) / 2 = (nOf b2 + 2 * nOf b3); omega
  rw [e1, d1, bOf_nOf] at h
  have e2 : Nat.mod ((nOf b2 + 2 * nOf b3)) 2 = nOf b2 := by show ((nOf b2 + 2 * nOf b3)) % 2 = nOf b2; omega
  have d2 : Nat.div ((nOf b2 + 2 * nOf b3)) 2 = nOf b3 := by show ((nOf b2 + 2 * nOf b3)) / 2 = nOf b3; omega
  rw [e2, d2, bOf_nOf] at h
  have e3 : Nat.mod (nOf b3) 2 = nOf b3 := by show (nOf b3) % 2 = nOf b3; omega
  rw [e3, bOf_nOf] at h
  exact h
theorem nu_one0 : ∀ i, ((fun _ : Nat => Value.bool true) i).oneCell' = true := fun _ => rfl
theorem walk (a0 : Bool) (a1 : Bool) (a2 : Bool) (a3 : Bool) (w : World) (hl : laidE w) :
    Calls Tryz.prog 3 #[.bool a0, .bool a1, .bool a2, .bool a3] w fun e w' => e = .returned (.bool true) ∧ Go.AX.Below w.heap.size w w' := by
  obtain ⟨fi, hfi, hb⟩ : ∃ fi, tabk.fn.get 3 = some fi ∧ fi.body.isSome = true := ⟨_, rfl, by kernel_rfl⟩
  have hall := tabkOk _ nu_one0
  exact runD hall rfl hfi hb (fun e1 e6 => runs e1 e6 a0 a1 a2 a3) (args := [.bool a0, .bool a1, .bool a2, .bool a3]) (by simp only [RelL, Rel]; exact ⟨_, _, rfl, rfl, ⟨_, _, rfl, rfl, ⟨_, _, rfl, rfl, ⟨_, _, rfl, rfl, rfl⟩⟩⟩⟩) w hl
end Go.Proofs.YtckjigiafmiieaaGreatDoor.answerKeeps
