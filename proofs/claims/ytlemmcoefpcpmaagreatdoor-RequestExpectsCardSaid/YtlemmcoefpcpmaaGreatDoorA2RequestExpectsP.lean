/- A part of the proof: an interpreter of the model's own code on partly known states, and that what it answers is what the program answers. No condition of its own. -/
import Derived.Test.YtlemmcoefpcpmaaGreatDoorA2RequestExpectsR0
import Derived.Test.YtlemmcoefpcpmaaGreatDoorA2RequestExpectsR1
import Derived.Test.YtlemmcoefpcpmaaGreatDoorA2RequestExpectsR2
import Derived.Test.YtlemmcoefpcpmaaGreatDoorA2RequestExpectsR3
set_option maxRecDepth 100000
set_option linter.unusedVariables false
namespace Go.Proofs.YtlemmcoefpcpmaaGreatDoor.requestExpects
open Go Go.AX Go.Proofs Go.Proofs.YtlemmcoefpcpmaaGreatDoor
theorem allRuns : ∀ i, i < 24 → runI i = true := by
  intro i hi
  by_cases h12 : i < 12
  · by_cases h6 : i < 6
    · by_cases h2 : i < 2
      · exact allN_at (r0 ) i (by omega) (by omega)
      · by_cases h4 : i < 4
        · exact allN_at (r2 ) i (by omega) (by omega)
        · exact allN_at (r4 ) i (by omega) (by omega)
    · by_cases h8 : i < 8
      · exact allN_at (r6 ) i (by omega) (by omega)
      · by_cases h10 : i < 10
        · exact allN_at (r8 ) i (by omega) (by omega)
        · exact allN_at (r10 ) i (by omega) (by omega)
  · by_cases h18 : i < 18
    · by_cases h14 : i < 14
      · exact allN_at (r12 ) i (by omega) (by omega)
      · by_cases h16 : i < 16
        · exact allN_at (r14 ) i (by omega) (by omega)
        · exact allN_at (r16 ) i (by omega) (by omega)
    · by_cases h20 : i < 20
      · exact allN_at (r18 ) i (by omega) (by omega)
      · by_cases h22 : i < 22
        · exact allN_at (r20 ) i (by omega) (by omega)
        · exact allN_at (r22 ) i (by omega) (by omega)
theorem runs (b0 : Bool) (b1 : Bool) (c2 : Nat) (b3 : Bool) (h2 : c2 < 3) : run b0 b1 c2 b3 = true := by
  have hb0 := nOf_lt b0
  have hb1 := nOf_lt b1
  have hb3 := nOf_lt b3
  have h := allRuns ((nOf b0 + 2 * (nOf b1 + 2 * (c2 + 3 * nOf b3)))) (by omega)
  unfold runI at h
  have e0 : Nat.mod ((nOf b0 + 2 * (nOf b1 + 2 * (c2 + 3 * nOf b3)))) 2 = nOf b0 := by show ((nOf b0 + 2 * (nOf b1 + 2 * (c2 + 3 * nOf b3)))) % 2 = nOf b0; omega
  have d0 : Nat.div ((nOf b0 + 2 * (nOf b1 + 2 * (c2 + 3 * nOf b3)))) 2 = (nOf b1 + 2 * (c2 + 3 * nOf b3)) := by show ((nOf b0 + 2 * (nOf b1 + 2 * (c2 + 3 * nOf b3)))) / 2 = (nOf b1 + 2 * (c2 + 3 * nOf b3)); omega
  rw [e0, d0, bOf_nOf] at h
  have e1 : Nat.mod ((nOf b1 + 2 * (c2 + 3 * nOf b3))) 2 = nOf b1 := by show ((nOf b1 + 2 * (c2 + 3 * nOf b3))) % 2 = nOf b1; omega
  have d1 : Nat.div ((nOf b1 + 2 * (c2 + 3 * nOf b3))) 2 = (c2 + 3 * nOf b3) := by show ((nOf b1 + 2 * (c2 + 3 * nOf b3))) / 2 = (c2 + 3 * nOf b3); omega
  rw [e1, d1, bOf_nOf] at h
  have e2 : Nat.mod ((c2 + 3 * nOf b3)) 3 = c2 := by show ((c2 + 3 * nOf b3)) % 3 = c2; omega
  have d2 : Nat.div ((c2 + 3 * nOf b3)) 3 = nOf b3 := by show ((c2 + 3 * nOf b3)) / 3 = nOf b3; omega
  rw [e2, d2] at h
  have e3 : Nat.mod (nOf b3) 2 = nOf b3 := by show (nOf b3) % 2 = nOf b3; omega
  rw [e3, bOf_nOf] at h
  exact h
def nu (x2 : Nat) : Nat → Value
  | 200 => .int .u8 (.ofNat x2)
  | _ => .bool true
theorem nu_one (x2 : Nat) : ∀ i, (nu x2 i).oneCell' = true := by
  intro i; unfold nu; split <;> rfl
theorem hyOk (x2 : Nat) (c2 : Nat) (hc2 : x2 % 3 = c2) (hx2 : x2 ≤ 255) : ∀ k r, (k, r) ∈ hy c2 → HOk (cx (nu x2) (nu_one x2) 0 laidE laidE_stab) k r := by
  intro k r h
  simp only [hy, List.mem_cons, List.not_mem_nil, or_false, Prod.mk.injEq] at h
  obtain ⟨rfl, rfl⟩ := h
  exact hRemX (x := x2) rfl (by omega) hc2
theorem walk (a0 : Bool) (a1 : Bool) (a2 : Int) (a3 : Bool) (w2 : (Lit.int .u8 a2).wf = true) (w : World) (hl : laidE w) :
    Calls Tryz.prog 6 #[.bool a0, .bool a1, .int .u8 a2, .bool a3] w fun e w' => e = .returned (.bool true) ∧ Go.AX.Below w.heap.size w w' := by
  obtain ⟨fi, hfi, hb⟩ : ∃ fi, tabk.fn.get 6 = some fi ∧ fi.body.isSome = true := ⟨_, rfl, by kernel_rfl⟩
  obtain ⟨x2, rfl, hx2⟩ := natOf (M := 255) w2 rfl rfl
  have hall : AllOk (cx (nu x2) (nu_one x2) 0 laidE laidE_stab) (tabC (x2 % 3)) := (tabkOk (nu x2) (nu_one x2)).hyps (hyOk x2 _ rfl hx2)
  exact runD hall rfl hfi hb (runs a0 a1 (x2 % 3) a3 (Nat.mod_lt _ (by omega))) (args := [.bool a0, .bool a1, .int .u8 (.ofNat x2), .bool a3]) (by simp only [RelL, Rel]; exact ⟨_, _, rfl, rfl, ⟨_, _, rfl, rfl, ⟨_, _, rfl, rfl, ⟨_, _, rfl, rfl, rfl⟩⟩⟩⟩) w hl
end Go.Proofs.YtlemmcoefpcpmaaGreatDoor.requestExpects
