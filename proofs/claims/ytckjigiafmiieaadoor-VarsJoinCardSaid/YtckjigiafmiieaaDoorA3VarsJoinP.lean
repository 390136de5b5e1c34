/- A part of the proof: an interpreter of the model's own code on partly known states, and that what it answers is what the program answers. No condition of its own. -/
import Derived.Test.YtckjigiafmiieaaDoorA3VarsJoinR0
import Derived.Test.YtckjigiafmiieaaDoorA3VarsJoinR1
import Derived.Test.YtckjigiafmiieaaDoorA3VarsJoinR2
import Derived.Test.YtckjigiafmiieaaDoorA3VarsJoinR3
set_option maxRecDepth 100000
set_option linter.unusedVariables false
namespace Go.Proofs.YtckjigiafmiieaaDoor.varsJoin
open Go Go.AX Go.Proofs Go.Proofs.YtckjigiafmiieaaDoor
theorem allRuns : ∀ i, i < 24 → runI i = true := by
  intro i hi
  by_cases h12 : i < 12
  · by_cases h6 : i < 6
    · by_cases h3 : i < 3
      · exact allN_at (r0 ) i (by omega) (by omega)
      · exact allN_at (r3 ) i (by omega) (by omega)
    · by_cases h9 : i < 9
      · exact allN_at (r6 ) i (by omega) (by omega)
      · exact allN_at (r9 ) i (by omega) (by omega)
  · by_cases h18 : i < 18
    · by_cases h15 : i < 15
      · exact allN_at (r12 ) i (by omega) (by omega)
      · exact allN_at (r15 ) i (by omega) (by omega)
    · by_cases h21 : i < 21
      · exact allN_at (r18 ) i (by omega) (by omega)
      · exact allN_at (r21 ) i (by omega) (by omega)
theorem runs (c0 : Nat) (b1 : Bool) (b2 : Bool) (h0 : c0 < 6) : run c0 b1 b2 = true := by
  have hb1 := nOf_lt b1
  have hb2 := nOf_lt b2
  have h := allRuns ((c0 + 6 * (nOf b1 + 2 * nOf b2))) (by omega)
  unfold runI at h
  have e0 : Nat.mod ((c0 + 6 * (nOf b1 + 2 * nOf b2))) 6 = c0 := by show ((c0 + 6 * (nOf b1 + 2 * nOf b2))) % 6 = c0; omega
  have d0 : Nat.div ((c0 + 6 * (nOf b1 + 2 * nOf b2))) 6 = (nOf b1 + 2 * nOf b2) := by show ((c0 + 6 * (nOf b1 + 2 * nOf b2))) / 6 = (nOf b1 + 2 * nOf b2); omega
  rw [e0, d0] at h
  have e1 : Nat.mod ((nOf b1 + 2 * nOf b2)) 2 = nOf b1 := by show ((nOf b1 + 2 * nOf b2)) % 2 = nOf b1; omega
  have d1 : Nat.div ((nOf b1 + 2 * nOf b2)) 2 = nOf b2 := by show ((nOf b1 + 2 * nOf b2)) / 2 = nOf b2; omega
  rw [e1, d1, bOf_nOf] at h
  have e2 : Nat.mod (nOf b2) 2 = nOf b2 := by show (nOf b2) % 2 = nOf b2; omega
  rw [e2, bOf_nOf] at h
  exact h
def nu (x0 : Nat) : Nat → Value
  | 0 => .int .u8 (.ofNat x0)
  | _ => .bool true
theorem nu_one (x0 : Nat) : ∀ i, (nu x0 i).oneCell' = true := by
  intro i; unfold nu; split <;> rfl
theorem hyOk (x0 : Nat) (c0 : Nat) (hc0 : x0 % 6 = c0) (hx0 : x0 ≤ 255) : ∀ k r, (k, r) ∈ hy c0 → HOk (cx (nu x0) (nu_one x0) 0 laidE laidE_stab) k r := by
  intro k r h
  simp only [hy, List.mem_cons, List.not_mem_nil, or_false, Prod.mk.injEq] at h
  obtain ⟨rfl, rfl⟩ := h
  exact hRemX (x := x0) rfl (by omega) hc0
theorem walk (a0 : Int) (a1 : Bool) (a2 : Bool) (w0 : (Lit.int .u8 a0).wf = true) (w : World) (hl : laidE w) :
    Calls Tryd.prog 11 #[.int .u8 a0, .bool a1, .bool a2] w fun e w' => e = .returned (.bool true) ∧ Go.AX.Below w.heap.size w w' := by
  obtain ⟨fi, hfi, hb⟩ : ∃ fi, tabk.fn.get 11 = some fi ∧ fi.body.isSome = true := ⟨_, rfl, by kernel_rfl⟩
  obtain ⟨x0, rfl, hx0⟩ := natOf (M := 255) w0 rfl rfl
  have hall : AllOk (cx (nu x0) (nu_one x0) 0 laidE laidE_stab) (tabC (x0 % 6)) := (tabkOk (nu x0) (nu_one x0)).hyps (hyOk x0 _ rfl hx0)
  exact runD hall rfl hfi hb (runs (x0 % 6) a1 a2 (Nat.mod_lt _ (by omega))) (args := [.int .u8 (.ofNat x0), .bool a1, .bool a2]) (by simp only [RelL, Rel]; exact ⟨_, _, rfl, rfl, ⟨_, _, rfl, rfl, ⟨_, _, rfl, rfl, rfl⟩⟩⟩) w hl
end Go.Proofs.YtckjigiafmiieaaDoor.varsJoin
