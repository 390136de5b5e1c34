/- A part of the proof: an interpreter of the model's own code on partly known states, and that what it answers is what the program answers. No condition of its own. -/
import Derived.Test.YtfoalkoifcpdmaaHKQ
import Derived.Test.YtfoalkoifcpdmaaHKG
set_option linter.unusedSimpArgs false
set_option linter.unusedVariables false
namespace Go.AX
theorem kRg {C : Cx} {x r : AV} {e : Nat} {k : IntKind} {a : Int} (hi : ∃ i, C.P.info? e = some i ∧ i.zero = some (.agg #[.int .i64 0, .int .i64 0, .string ⟨#[]⟩, .int .i64 0]) ∧ i.bytes = 40 ∧ i.size = 4) (hx : Is C x (.int k a)) (h0 : 0 ≤ a) (h1 : a * 40 ≤ 140737488355328)
    (hr : Den C r (rwG reC (List.replicate (Int.toNat a) (0, 0, [], 0)))) : HOk C (.rg e x) r := by
  intro ρ vx g1
  have e1 := hx ρ vx g1; subst e1
  obtain ⟨i, q1, q2, q3, q4⟩ := hi
  refine ⟨k, a.toNat, i, _, by congr 1; show a = ((a.toNat : Nat) : Int); omega, q1, q2, by rw [q4]; rfl, fun y hy => ?_, by rw [q3]; omega, by omega, ?_⟩
  · have hy : y ∈ [Value.int .i64 0, .int .i64 0, .string ⟨#[]⟩, .int .i64 0] := hy
    simp only [List.mem_cons, List.not_mem_nil, or_false] at hy
    rcases hy with rfl | rfl | rfl | rfl <;> rfl
  · have h := hr ρ
    unfold rwG at h
    rw [List.flatMap_def, List.map_replicate] at h
    exact h
end Go.AX

