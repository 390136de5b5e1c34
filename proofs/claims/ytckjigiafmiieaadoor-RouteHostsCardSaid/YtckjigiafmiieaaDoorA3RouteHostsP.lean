/- A part of the proof: an interpreter of the model's own code on partly known states, and that what it answers is what the program answers. No condition of its own. -/
import Derived.Test.YtckjigiafmiieaaDoorA3RouteHostsR0
set_option maxRecDepth 100000
set_option linter.unusedVariables false
namespace Go.Proofs.YtckjigiafmiieaaDoor.routeHosts
open Go Go.AX Go.Proofs Go.Proofs.YtckjigiafmiieaaDoor
theorem allRuns : ∀ i, i < 8 → runI i = true := by
  intro i hi
  exact allN_at (r0 ) i (by omega) (by omega)
theorem runs (b0 : Bool) (b1 : Bool) (b2 : Bool) : run b0 b1 b2 = true := by
  have hb0 := nOf_lt b0
  have hb1 := nOf_lt b1
  have hb2 := nOf_lt b2
  have h := allRuns ((nOf b0 + 2 * (nOf b1 + 2 * nOf b2))) (by omega)
  unfold runI at h
  have e0 : Nat.mod ((nOf b0 + 2 * (nOf b1 + 2 * nOf b2))) 2 = nOf b0 := by show ((nOf b0 + 2 * (nOf b1 + 2 * nOf b2))) % 2 = nOf b0; omega
  have d0 : Nat.div ((nOf b0 + 2 * (nOf b1 + 2 * nOf b2))) 2 = (nOf b1 + 2 * nOf b2) := by show ((nOf b0 + 2 * (nOf b1 + 2 * nOf b2))) / 2 = (nOf b1 + 2 * nOf b2); omega
  rw [e0, d0, bOf_nOf] at h
  have e1 : Nat.mod ((nOf b1 + 2 * nOf b2)) 2 = nOf b1 := by show ((nOf b1 + 2 * nOf b2)) % 2 = nOf b1; omega
  have d1 : Nat.div ((nOf b1 + 2 * nOf b2)) 2 = nOf b2 := by show ((nOf b1 + 2 * nOf b2)) / 2 = nOf b2; omega
  rw [e1, d1, bOf_nOf] at h
  have e2 : Nat.mod (nOf b2) 2 = nOf b2 := by show (nOf b2) % 2 = nOf b2; omega
  rw [e2, bOf_nOf] at h
  exact h
theorem nu_one0 : ∀ i, ((fun _ : Nat => Value.bool true) i).oneCell' = true := fun _ => rfl
theorem walk (a0 : Bool) (a1 : Bool) (a2 : Bool) (w : World) (hl : laidE w) :
    Calls Tryd.prog 10 #[.bool a0, .bool a1, .bool a2] w fun e w' => e = .returned (.bool true) ∧ Go.AX.Below w.heap.size w w' := by
  obtain ⟨fi, hfi, hb⟩ : ∃ fi, tabk.fn.get 10 = some fi ∧ fi.body.isSome = true := ⟨_, rfl, by kernel_rfl⟩
  have hall := tabkOk _ nu_one0
  exact runD hall rfl hfi hb (runs a0 a1 a2) (args := [.bool a0, .bool a1, .bool a2]) (by simp only [RelL, Rel]; exact ⟨_, _, rfl, rfl, ⟨_, _, rfl, rfl, ⟨_, _, rfl, rfl, rfl⟩⟩⟩) w hl
end Go.Proofs.YtckjigiafmiieaaDoor.routeHosts
