/- A part of the proof: an interpreter of the model's own code on partly known states, and that what it answers is what the program answers. No condition of its own. -/
import Derived.Test.YtfoalkoifcpdmaaHKJ
set_option linter.unusedSimpArgs false
set_option linter.unusedVariables false
namespace Go.AX
section
variable {C : Cx} {x y h r : AV} {α : Type} {f : α → List Value} {l m : List α} {sz : Nat}
theorem kRr (hx : Is C x (rwG f l)) (hy : Is C y (rwG f m)) (hr : Den C r (rwG f (l ++ m))) : HOk C (.rr x y) r := by
  intro ρ vx vy g1 g2
  have e1 := hx ρ vx g1; subst e1
  have e2 := hy ρ vy g2; subst e2
  refine ⟨l.flatMap f, m.flatMap f, rfl, rfl, ?_⟩
  have h := hr ρ
  unfold rwG at h
  rw [List.flatMap_append] at h
  exact h
theorem cT0 (hf : ∀ a, (f a).length = sz) : ∀ (l : List α) (j : Nat), (l.take j).flatMap f = (l.flatMap f).take (j * sz)
  | [], j => by simp
  | a :: l, 0 => by simp
  | a :: l, j + 1 => by
    rw [List.take_succ_cons, List.flatMap_cons, List.flatMap_cons, cT0 hf l j, List.take_append, hf a]
    have e1 : (f a).take ((j + 1) * sz) = f a := List.take_of_length_le (by rw [hf a, Nat.succ_mul]; omega)
    rw [e1, show (j + 1) * sz - sz = j * sz by rw [Nat.succ_mul]; omega]
theorem kRt {k : IntKind} {a : Int} {j : Nat} (hf : ∀ a, (f a).length = sz) (hx : Is C x (rwG f l)) (hh : Is C h (.int k a)) (hr : Den C r (rwG f (l.take j))) (ha : a = (j : Int)) (hj : j ≤ l.length) : HOk C (.rt x h sz) r := by
  intro ρ vx vh g1 g2
  have e1 := hx ρ vx g1; subst e1
  have e2 := hh ρ vh g2; subst e2
  subst ha
  refine ⟨l.flatMap f, k, j, rfl, rfl, ?_, ?_⟩
  · rw [bD4 hf l]; exact Nat.mul_le_mul_right _ hj
  · have h := hr ρ
    unfold rwG at h
    rw [cT0 hf] at h
    exact h
end
end Go.AX
namespace Go.AX
end Go.AX

