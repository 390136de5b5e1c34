/- A part of the proof: what an interpreter answers on partly known states is what the program answers. No condition. -/
import Derived.Test.YtngkglegomkjkaaDoorHKJ
set_option linter.unusedSimpArgs false
set_option linter.unusedVariables false
namespace Go.AX
section
variable {C : Cx} {x y h r : AV} {α : Type} {f : α → List Value} {l m : List α} {sz : Nat}
theorem kr (hx : Is C x (aN f l)) (hy : Is C y (aN f m)) (hr : Den C r (aN f (l ++ m))) : aS C (.rr x y) r := by
 intro ρ vx vy g1 g2
 have e1 := hx ρ vx g1; subst e1
 have e2 := hy ρ vy g2; subst e2
 refine ⟨l.flatMap f, m.flatMap f, rfl, rfl, ?_⟩
 have h := hr ρ
 unfold aN at h
 rw [List.flatMap_append] at h
 exact h
theorem Eo (hf : ∀ a, (f a).length = sz) : ∀ (l : List α) (j : Nat), (l.take j).flatMap f = (l.flatMap f).take (j * sz)
 | [], j => by simp
 | a :: l, 0 => by simp
 | a :: l, j + 1 => by
  rw [List.take_succ_cons, List.flatMap_cons, List.flatMap_cons, Eo hf l j, List.take_append, hf a]
  have e1 : (f a).take ((j + 1) * sz) = f a := List.take_of_length_le (by rw [hf a, Nat.succ_mul]; omega)
  rw [e1, show (j + 1) * sz - sz = j * sz by rw [Nat.succ_mul]; omega]
theorem kRt {k : IntKind} {a : Int} {j : Nat} (hf : ∀ a, (f a).length = sz) (hx : Is C x (aN f l)) (hh : Is C h (.int k a)) (hr : Den C r (aN f (l.take j))) (ha : a = (j : Int)) (hj : j ≤ l.length) : aS C (.rt x h sz) r := by
 intro ρ vx vh g1 g2
 have e1 := hx ρ vx g1; subst e1
 have e2 := hh ρ vh g2; subst e2
 subst ha
 refine ⟨l.flatMap f, k, j, rfl, rfl, ?_, ?_⟩
 ·rw [mT hf l]; exact Nat.mul_le_mul_right _ hj
 ·have h := hr ρ
  unfold aN at h
  rw [Eo hf] at h
  exact h
theorem kRc {l : List (List UInt8 × List UInt8)} {e : Nat} {k : IntKind} {a : Int} {j : Nat} (hi : ∃ i, C.P.info? e = some i ∧ i.zero = some (.agg #[.string ⟨#[]⟩, .string ⟨#[]⟩]) ∧ i.size = 2) (hx : Is C x (aN aM l)) (hh : Is C h (.int k a)) (hr : Den C r (aN aM (l.take j ++ List.replicate (l.length - j) ([], [])))) (ha : a = (j : Int)) (hj : j ≤ l.length) : aS C (.rc e x h) r := by
 intro ρ vx vh g1 g2
 have e1 := hx ρ vx g1; subst e1
 have e2 := hh ρ vh g2; subst e2
 subst ha
 obtain ⟨i, q1, q2, q4⟩ := hi
 refine ⟨l.flatMap aM, k, j, l.length - j, i, _, rfl, rfl, q1, q2, by rw [q4]; rfl, fun y hy => ?_, ?_, ?_⟩
 ·have hy : y ∈ [Value.string ⟨#[]⟩, .string ⟨#[]⟩] := hy
  simp only [List.mem_cons, List.not_mem_nil, or_false] at hy
  rcases hy with rfl | rfl <;> rfl
 ·rw [mT bH, q4, show j + (l.length - j) = l.length by omega]
 ·have hz := hr ρ
  unfold aN at hz
  rw [List.flatMap_append, Eo bH, show (List.replicate (l.length - j) (([] : List UInt8), ([] : List UInt8))).flatMap aM = (List.replicate (l.length - j) [Value.string ⟨#[]⟩, .string ⟨#[]⟩]).flatten by rw [List.flatMap_def, List.map_replicate]; rfl] at hz
  rw [q4]
  exact hz
end
end Go.AX
namespace Go.AX
end Go.AX

