/- A part of the proof: an interpreter of the model's own code on partly known states, and that what it answers is what the program answers. No condition of its own. -/
import Derived.Test.YteoafgajdfbenaaRLim
import Derived.Test.YteoafgajdfbenaaRows
import Derived.WalkKit
import Derived.ProofKit
import Derived.OpenShut
namespace Go.Proofs.Yteoafgajdfbenaa.recordLimits
open Go Go.AX Go.Proofs Go.Proofs.Yteoafgajdfbenaa
open Go.ChangeShapes Go.WideShapes Go.ChangeAt Go.RowKit
set_option linter.unusedVariables false
def nu (a0 a1 : Int) : Nat → Value
  | 0 => .int .u8 a0
  | _ => .int .u8 a1
theorem nu_one (a0 a1 : Int) : ∀ i, (nu a0 a1 i).oneCell' = true
  | 0 => rfl
  | _ + 1 => rfl
theorem remRun (P : Program) (t : TypeId) (a : Int) (w : World) : (binOp .rem t (.int .u8 a) (.int .u8 3)).run P w = .ok (.int .u8 (a.tmod 3)) w := by
  simp [binOp, Op.intDiv]
theorem hyOk (a0 a1 : Int) : ∀ k r, (k, r) ∈ hy (a0.tmod 3) (a1.tmod 3) → HOk (cx (nu a0 a1) (nu_one a0 a1)) k r := by
  intro k r h
  simp only [hy, List.mem_cons, List.not_mem_nil, or_false, Prod.mk.injEq] at h
  rcases h with ⟨rfl, rfl⟩ | ⟨rfl, rfl⟩
  · intro ρ vx vy hx hy'
    simp only [Rel] at hx hy'
    subst hx; subst hy'
    exact ⟨.inl ⟨.u8, a0, 3, rfl, rfl⟩, _, by simp only [Rel], fun t w => remRun _ t a0 w⟩
  · intro ρ vx vy hx hy'
    simp only [Rel] at hx hy'
    subst hx; subst hy'
    exact ⟨.inl ⟨.u8, a1, 3, rfl, rfl⟩, _, by simp only [Rel], fun t w => remRun _ t a1 w⟩
theorem runs {a b : Int} (ha : a = 0 ∨ a = 1 ∨ a = 2) (hb : b = 0 ∨ b = 1 ∨ b = 2) : ∃ S, call (tabH a b) 400 4 [.x 0, .x 1] ⟨.leaf, 1, 0, 0⟩ = some (.b true, S) := by
  rcases ha with rfl | rfl | rfl <;> rcases hb with rfl | rfl | rfl
  · exact isTrue_inv r00
  · exact isTrue_inv r01
  · exact isTrue_inv r02
  · exact isTrue_inv r10
  · exact isTrue_inv r11
  · exact isTrue_inv r12
  · exact isTrue_inv r20
  · exact isTrue_inv r21
  · exact isTrue_inv r22
theorem three {a : Int} (h : (Lit.int .u8 a).wf = true) : a.tmod 3 = 0 ∨ a.tmod 3 = 1 ∨ a.tmod 3 = 2 := by
  simp only [Lit.wf, Bool.and_eq_true, decide_eq_true_eq] at h
  simp [IntKind.min, IntKind.signed] at h
  rw [Int.tmod_eq_emod_of_nonneg (by omega)]
  omega
theorem walk (a0 : Int) (a1 : Int) (w0 : (Lit.int .u8 a0).wf = true) (w1 : (Lit.int .u8 a1).wf = true) (w : World) :
    Calls Try.prog 4 #[.int .u8 a0, .int .u8 a1] w fun e w' => e = .returned (.bool true) ∧ Below w.heap.size w w' := by
  obtain ⟨S, hS⟩ := runs (three w0) (three w1)
  have hall : AllOk (cx (nu a0 a1) (nu_one a0 a1)) (tabH (a0.tmod 3) (a1.tmod 3)) := (tabOk (nu a0 a1) (nu_one a0 a1)).hyps (hyOk a0 a1)
  obtain ⟨fi, hfi, hb⟩ : ∃ fi, tab.fn.get 4 = some fi ∧ fi.body.isSome = true := ⟨_, rfl, by kernel_rfl⟩
  refine (run_ok hall hfi hb hS (args := [.int .u8 a0, .int .u8 a1]) (by simp only [RelL, Rel]; exact ⟨_, _, rfl, rfl, _, _, rfl, rfl, rfl⟩) w).mono fun e w' he => ?_
  obtain ⟨x, ρ, rfl, hx, hb⟩ := he
  simp only [Rel] at hx
  exact ⟨by rw [hx], hb⟩
end Go.Proofs.Yteoafgajdfbenaa.recordLimits
