/- A part of the proof: an interpreter of the model's own code on partly known states, and that what it answers is what the program answers. No condition of its own. -/
import Derived.Test.YtipdlfkjablekaaDoorHKN
set_option linter.unusedSimpArgs false
set_option linter.unusedVariables false
namespace Go.AX
noncomputable section
section
variable {C : Cx} {x i y r : AV} {l : List (List UInt8)}
/-- a row of texts of nothing (make) -/
theorem kRz {k : IntKind} {a : Int} (hx : Is C x (.int k a)) (h0 : 0 ≤ a) (h1 : a * 16 ≤ 140737488355328) (hr : Den C r (rwS (List.replicate (Int.toNat a) []))) : HOk C (.rz x) r := by
  intro ρ vx g1
  have e1 := hx ρ vx g1; subst e1
  refine ⟨k, a.toNat, by congr 1; show a = ((a.toNat : Nat) : Int); omega, by omega, ?_⟩
  have h := hr ρ
  unfold rwS at h
  rw [List.map_replicate] at h
  exact h
/-- a text set at a place -/
theorem kRs {k : IntKind} {a : Int} {j : Nat} {s : List UInt8} (hx : Is C x (rwS l)) (hi : Is C i (.int k a)) (hy : Is C y (St' s)) (hr : Den C r (rwS (l.set j s))) (ha : a = (j : Int)) (hj : j < l.length) : HOk C (.rs x i y) r := by
  intro ρ vx vi vy g1 g2 g3
  have e1 := hx ρ vx g1; subst e1
  have e2 := hi ρ vi g2; subst e2
  have e3 := hy ρ vy g3; subst e3
  subst ha
  have h := hr ρ
  unfold rwS at h
  rw [List.map_set] at h
  exact ⟨l.map St', k, j, ⟨⟨s⟩⟩, rfl, rfl, by rw [List.length_map]; exact hj, rfl, h⟩
end
end
end Go.AX
