/- A part of the proof: an interpreter of the model's own code on partly known states, and that what it answers is what the program answers. No condition of its own. -/
import Derived.Test.YtpccllhgbbpocaaDoorCSA
import Derived.Test.YtpccllhgbbpocaaDoorCSB
set_option maxRecDepth 100000
set_option linter.unusedVariables false
namespace Go.Proofs.YtpccllhgbbpocaaDoor
open Go Go.AX Go.Proofs
open Go.RowKit (Below)
namespace cgiStatus
theorem nu_one : ∀ i, ((fun _ : Nat => Value.bool true) i).oneCell' = true := fun _ => rfl
theorem runs (a b c d : Bool) (e : Nat) : run e a b c d = true := by
  cases a <;> cases b <;> cases c <;> cases d
  · exact r_ffff e
  · exact r_ffft e
  · exact r_fftf e
  · exact r_fftt e
  · exact r_ftff e
  · exact r_ftft e
  · exact r_fttf e
  · exact r_fttt e
  · exact r_tfff e
  · exact r_tfft e
  · exact r_tftf e
  · exact r_tftt e
  · exact r_ttff e
  · exact r_ttft e
  · exact r_tttf e
  · exact r_tttt e
theorem walk (a0 a1 a2 a3 : Bool) (w : World) (hl : laidE w) :
    Calls Tryd.prog 9 #[.bool a0, .bool a1, .bool a2, .bool a3] w fun e w' => e = .returned (.bool true) ∧ Below w.heap.size w w' := by
  obtain ⟨fi, hfi, hb⟩ : ∃ fi, tab16.fn.get 9 = some fi ∧ fi.body.isSome = true := ⟨_, rfl, by kernel_rfl⟩
  exact runD (tab16Ok _ nu_one) rfl hfi hb (fun e => runs a0 a1 a2 a3 e) (args := [.bool a0, .bool a1, .bool a2, .bool a3]) (by simp only [RelL, Rel]; exact ⟨_, _, rfl, rfl, _, _, rfl, rfl, _, _, rfl, rfl, _, _, rfl, rfl, rfl⟩) w hl
end cgiStatus
end Go.Proofs.YtpccllhgbbpocaaDoor
