/- A part of the proof: an interpreter of the model's own code on partly known states, and that what it answers is what the program answers. No condition of its own. -/
import Derived.Test.YtlemmcoefpcpmaaGreatDoorA2RequestLinesR0
set_option maxRecDepth 100000
set_option linter.unusedVariables false
namespace Go.Proofs.YtlemmcoefpcpmaaGreatDoor.requestLines
open Go Go.AX Go.Proofs Go.Proofs.YtlemmcoefpcpmaaGreatDoor
theorem allRuns : ∀ i, i < 7 → runI i = true := by
  intro i hi
  exact allN_at (r0 ) i (by omega) (by omega)
theorem runs (c0 : Nat) (h0 : c0 < 7) : run c0 = true := by
  have h := allRuns (c0) (by omega)
  unfold runI at h
  have e0 : Nat.mod (c0) 7 = c0 := by show (c0) % 7 = c0; omega
  rw [e0] at h
  exact h
def nu (x0 : Nat) : Nat → Value
  | 0 => .int .u8 (.ofNat x0)
  | _ => .bool true
theorem nu_one (x0 : Nat) : ∀ i, (nu x0 i).oneCell' = true := by
  intro i; unfold nu; split <;> rfl
theorem hyOk (x0 : Nat) (c0 : Nat) (hc0 : x0 % 7 = c0) (hx0 : x0 ≤ 255) : ∀ k r, (k, r) ∈ hy c0 → HOk (cx (nu x0) (nu_one x0) 0 laidE laidE_stab) k r := by
  intro k r h
  simp only [hy, List.mem_cons, List.not_mem_nil, or_false, Prod.mk.injEq] at h
  obtain ⟨rfl, rfl⟩ := h
  exact hRemX (x := x0) rfl (by omega) hc0
theorem walk (a0 : Int) (w0 : (Lit.int .u8 a0).wf = true) (w : World) (hl : laidE w) :
    Calls Tryz.prog 5 #[.int .u8 a0] w fun e w' => e = .returned (.bool true) ∧ Go.AX.Below w.heap.size w w' := by
  obtain ⟨fi, hfi, hb⟩ : ∃ fi, tabk.fn.get 5 = some fi ∧ fi.body.isSome = true := ⟨_, rfl, by kernel_rfl⟩
  obtain ⟨x0, rfl, hx0⟩ := natOf (M := 255) w0 rfl rfl
  have hall : AllOk (cx (nu x0) (nu_one x0) 0 laidE laidE_stab) (tabC (x0 % 7)) := (tabkOk (nu x0) (nu_one x0)).hyps (hyOk x0 _ rfl hx0)
  exact runD hall rfl hfi hb (runs (x0 % 7) (Nat.mod_lt _ (by omega))) (args := [.int .u8 (.ofNat x0)]) (by simp only [RelL, Rel]; exact ⟨_, _, rfl, rfl, rfl⟩) w hl
end Go.Proofs.YtlemmcoefpcpmaaGreatDoor.requestLines
