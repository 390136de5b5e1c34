/- A part of the proof: what an interpreter answers on partly known states is what the program answers. No condition. -/
import Derived.Test.YtcjanblpboaleaaDoorHKJ
set_option linter.unusedSimpArgs false
set_option linter.unusedVariables false
namespace Go.AX
section
variable {C : Cx} {x y h r : AV} {α : Type} {f : α → List Value} {l m : List α} {sz : Nat}
theorem kRr (hx : Is C x (aN f l)) (hy : Is C y (aN f m)) (hr : Den C r (aN f (l ++ m))) : aM C (.rr x y) r := by
 intro ρ vx vy g1 g2
 have e1 := hx ρ vx g1; subst e1
 have e2 := hy ρ vy g2; subst e2
 refine ⟨l.flatMap f, m.flatMap f, rfl, rfl, ?_⟩
 have h := hr ρ
 unfold aN at h
 rw [List.flatMap_append] at h
 exact h
end
end Go.AX
namespace Go.AX
end Go.AX

