/- A part of the proof: an interpreter of the model's own code on partly known states, and that what it answers is what the program answers. No condition of its own. -/
import Derived.Test.YteoafgajdfbenaaRLim2
set_option maxRecDepth 100000
set_option linter.unusedVariables false
namespace Go.Proofs.Yteoafgajdfbenaa
open Go Go.AX Go.Proofs
open Go.RowKit (Below)
namespace kinds
theorem isTrue_inv {r : Option (AV × St)} (h : recordLimits.isTrue r = true) : ∃ S, r = some (.b true, S) := recordLimits.isTrue_inv h
theorem k4 : recordLimits.isTrue (call tab 400 14 [] ⟨.leaf, 1, 0, 0⟩) = true := by kernel_rfl
theorem fi14 : (tab.fn.get 14).isSome = true := by kernel_rfl
noncomputable def f14 : FI := ⟨Try.f14.body, Try.f14.ntmps, Try.f14.results.toList, 0, none⟩
theorem f14_at : tab.fn.get 14 = some f14 := by kernel_rfl
theorem f14_body : f14.body.isSome = true := by kernel_rfl
section
variable (nu : Nat → Value) (one : ∀ i, (nu i).oneCell' = true)
theorem sum14 : SumOk (cx nu one) 14 (.b true) := fun w => by
  obtain ⟨S, hS⟩ := isTrue_inv k4
  refine (run_ok (tabOk nu one) f14_at f14_body hS (args := []) (by simp only [RelL]) w).mono fun e w' he => ?_
  obtain ⟨x, ρ, rfl, hx, hb⟩ := he
  exact ⟨x, rfl, by simpa only [Rel] using hx, hb⟩
noncomputable def tab4 : Tab := addSum tab 14 f14 (.b true)
theorem tab4Ok : AllOk (cx nu one) tab4 := (tabOk nu one).sum (by omega) f14_at f14_body (sum14 nu one)
end
end kinds
end Go.Proofs.Yteoafgajdfbenaa
