/- A part of the proof: an interpreter of the model's own code on partly known states, and that what it answers is what the program answers. No condition of its own. -/
import Derived.Test.YtckjigiafmiieaaDoorA3RuleWaresR0
import Derived.Test.YtckjigiafmiieaaDoorA3RuleWaresR1
set_option maxRecDepth 100000
set_option linter.unusedVariables false
namespace Go.Proofs.YtckjigiafmiieaaDoor.ruleWares
open Go Go.AX Go.Proofs Go.Proofs.YtckjigiafmiieaaDoor
theorem allRuns : ∀ i, i < 36 → runI i = true := by
  intro i hi
  by_cases h19 : i < 19
  · exact allN_at (r0 ) i (by omega) (by omega)
  · exact allN_at (r19 ) i (by omega) (by omega)
theorem runs (c0 : Nat) (h0 : c0 < 36) : run c0 = true := by
  have h := allRuns (c0) (by omega)
  unfold runI at h
  have e0 : Nat.mod (c0) 36 = c0 := by show (c0) % 36 = c0; omega
  rw [e0] at h
  exact h
def nu (x0 : Nat) : Nat → Value
  | 0 => .int .u8 (.ofNat x0)
  | 1 => .int .u8 (.ofNat (x0 / 2))
  | _ => .bool true
theorem nu_one (x0 : Nat) : ∀ i, (nu x0 i).oneCell' = true := by
  intro i; unfold nu; split <;> rfl
theorem hyOk (x0 : Nat) (c0 : Nat) (hc0 : x0 % 36 = c0) (hx0 : x0 ≤ 255) : ∀ k r, (k, r) ∈ hy c0 → HOk (cx (nu x0) (nu_one x0) 0 laidE laidE_stab) k r := by
  intro k r h
  simp only [hy, List.mem_cons, List.not_mem_nil, or_false, Prod.mk.injEq] at h
  rcases h with ⟨rfl, rfl⟩ | ⟨rfl, rfl⟩ | ⟨rfl, rfl⟩ | ⟨rfl, rfl⟩
  · exact hRemX (x := x0) rfl (by omega) (show (x0) % 2 = (c0) % 2 by omega)
  · exact hQuoX (x := x0) rfl (by omega) rfl (fits8 (by omega))
  · exact hRemX (x := x0 / 2) rfl (by omega) (show (x0 / 2) % 6 = (c0 / 2) % 6 by omega)
  · exact hRemX (x := x0 / 2) rfl (by omega) (show (x0 / 2) % 9 = (c0 / 2) % 9 by omega)
theorem walk (a0 : Int) (w0 : (Lit.int .u8 a0).wf = true) (w : World) (hl : laidE w) :
    Calls Tryd.prog 4 #[.int .u8 a0] w fun e w' => e = .returned (.bool true) ∧ Go.AX.Below w.heap.size w w' := by
  obtain ⟨fi, hfi, hb⟩ : ∃ fi, tabk.fn.get 4 = some fi ∧ fi.body.isSome = true := ⟨_, rfl, by kernel_rfl⟩
  obtain ⟨x0, rfl, hx0⟩ := natOf (M := 255) w0 rfl rfl
  have hall : AllOk (cx (nu x0) (nu_one x0) 0 laidE laidE_stab) (tabC (x0 % 36)) := (tabkOk (nu x0) (nu_one x0)).hyps (hyOk x0 _ rfl hx0)
  exact runD hall rfl hfi hb (runs (x0 % 36) (Nat.mod_lt _ (by omega))) (args := [.int .u8 (.ofNat x0)]) (by simp only [RelL, Rel]; exact ⟨_, _, rfl, rfl, rfl⟩) w hl
end Go.Proofs.YtckjigiafmiieaaDoor.ruleWares
