/- A part of the proof: an interpreter of the model's own code on partly known states, and that what it answers is what the program answers. No condition of its own. -/
import Derived.Test.YtbipkiiaajklhaaDoorHKJ
set_option linter.unusedSimpArgs false
set_option linter.unusedVariables false
namespace Go.AX
section
variable {C : Cx} {x y h r : AV} {α : Type} {f : α → List Value} {l m : List α} {sz : Nat}
theorem kRrS {l m : List (List UInt8)} (hx : Is C x (rwS l)) (hy : Is C y (rwS m)) (hr : Den C r (rwS (l ++ m))) : HOk C (.rr x y) r := by
  intro ρ vx vy g1 g2
  have e1 := hx ρ vx g1; subst e1
  have e2 := hy ρ vy g2; subst e2
  refine ⟨l.map St', m.map St', rfl, rfl, ?_⟩
  have h := hr ρ
  unfold rwS at h
  rw [List.map_append] at h
  exact h
theorem kRtS {k : IntKind} {a : Int} {j : Nat} {l : List (List UInt8)} (hx : Is C x (rwS l)) (hh : Is C h (.int k a)) (hr : Den C r (rwS (l.take j))) (ha : a = (j : Int)) (hj : j ≤ l.length) : HOk C (.rt x h 1) r := by
  intro ρ vx vh g1 g2
  have e1 := hx ρ vx g1; subst e1
  have e2 := hh ρ vh g2; subst e2
  subst ha
  refine ⟨l.map St', k, j, rfl, rfl, by simpa using hj, ?_⟩
  have h := hr ρ
  unfold rwS at h
  rw [List.map_take] at h
  rw [Nat.mul_one]; exact h
end
end Go.AX
namespace Go.AX
end Go.AX

