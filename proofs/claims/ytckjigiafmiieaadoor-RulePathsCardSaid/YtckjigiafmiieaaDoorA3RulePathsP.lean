/- A part of the proof: an interpreter of the model's own code on partly known states, and that what it answers is what the program answers. No condition of its own. -/
import Derived.Test.YtckjigiafmiieaaDoorA3RulePathsR0
import Derived.Test.YtckjigiafmiieaaDoorA3RulePathsR1
import Derived.Test.YtckjigiafmiieaaDoorA3RulePathsR2
import Derived.Test.YtckjigiafmiieaaDoorA3RulePathsR3
set_option maxRecDepth 100000
set_option linter.unusedVariables false
namespace Go.Proofs.YtckjigiafmiieaaDoor.rulePaths
open Go Go.AX Go.Proofs Go.Proofs.YtckjigiafmiieaaDoor
theorem allRuns : ∀ i, i < 140 → runI i = true := by
  intro i hi
  by_cases h69 : i < 69
  · by_cases h23 : i < 23
    · exact allN_at (r0 ) i (by omega) (by omega)
    · by_cases h46 : i < 46
      · exact allN_at (r23 ) i (by omega) (by omega)
      · exact allN_at (r46 ) i (by omega) (by omega)
  · by_cases h115 : i < 115
    · by_cases h92 : i < 92
      · exact allN_at (r69 ) i (by omega) (by omega)
      · exact allN_at (r92 ) i (by omega) (by omega)
    · by_cases h138 : i < 138
      · exact allN_at (r115 ) i (by omega) (by omega)
      · exact allN_at (r138 ) i (by omega) (by omega)
theorem runs (c0 : Nat) (c1 : Nat) (h0 : c0 < 70) (h1 : c1 < 2) : run c0 c1 = true := by
  have h := allRuns ((c0 + 70 * c1)) (by omega)
  unfold runI at h
  have e0 : Nat.mod ((c0 + 70 * c1)) 70 = c0 := by show ((c0 + 70 * c1)) % 70 = c0; omega
  have d0 : Nat.div ((c0 + 70 * c1)) 70 = c1 := by show ((c0 + 70 * c1)) / 70 = c1; omega
  rw [e0, d0] at h
  have e1 : Nat.mod (c1) 2 = c1 := by show (c1) % 2 = c1; omega
  rw [e1] at h
  exact h
def nu (x0 : Nat) (x1 : Nat) : Nat → Value
  | 0 => .int .u8 (.ofNat x0)
  | 1 => .int .u8 (.ofNat (x0 / 2))
  | 100 => .int .u8 (.ofNat x1)
  | _ => .bool true
theorem nu_one (x0 : Nat) (x1 : Nat) : ∀ i, (nu x0 x1 i).oneCell' = true := by
  intro i; unfold nu; split <;> rfl
theorem hyOk (x0 : Nat) (x1 : Nat) (c0 : Nat) (c1 : Nat) (hc0 : x0 % 70 = c0) (hx0 : x0 ≤ 255) (hc1 : x1 % 2 = c1) (hx1 : x1 ≤ 255) : ∀ k r, (k, r) ∈ hy c0 c1 → HOk (cx (nu x0 x1) (nu_one x0 x1) 0 laidE laidE_stab) k r := by
  intro k r h
  simp only [hy, List.mem_cons, List.not_mem_nil, or_false, Prod.mk.injEq] at h
  rcases h with ⟨rfl, rfl⟩ | ⟨rfl, rfl⟩ | ⟨rfl, rfl⟩ | ⟨rfl, rfl⟩ | ⟨rfl, rfl⟩
  · exact hRemX (x := x0) rfl (by omega) (show (x0) % 2 = (c0) % 2 by omega)
  · exact hQuoX (x := x0) rfl (by omega) rfl (fits8 (by omega))
  · exact hRemX (x := x0 / 2) rfl (by omega) (show (x0 / 2) % 5 = (c0 / 2) % 5 by omega)
  · exact hRemX (x := x0 / 2) rfl (by omega) (show (x0 / 2) % 7 = (c0 / 2) % 7 by omega)
  · exact hRemX (x := x1) rfl (by omega) hc1
theorem walk (a0 : Int) (a1 : Int) (w0 : (Lit.int .u8 a0).wf = true) (w1 : (Lit.int .u8 a1).wf = true) (w : World) (hl : laidE w) :
    Calls Tryd.prog 3 #[.int .u8 a0, .int .u8 a1] w fun e w' => e = .returned (.bool true) ∧ Go.AX.Below w.heap.size w w' := by
  obtain ⟨fi, hfi, hb⟩ : ∃ fi, tabk.fn.get 3 = some fi ∧ fi.body.isSome = true := ⟨_, rfl, by kernel_rfl⟩
  obtain ⟨x0, rfl, hx0⟩ := natOf (M := 255) w0 rfl rfl
  obtain ⟨x1, rfl, hx1⟩ := natOf (M := 255) w1 rfl rfl
  have hall : AllOk (cx (nu x0 x1) (nu_one x0 x1) 0 laidE laidE_stab) (tabC (x0 % 70) (x1 % 2)) := (tabkOk (nu x0 x1) (nu_one x0 x1)).hyps (hyOk x0 x1 _ _ rfl hx0 rfl hx1)
  exact runD hall rfl hfi hb (runs (x0 % 70) (x1 % 2) (Nat.mod_lt _ (by omega)) (Nat.mod_lt _ (by omega))) (args := [.int .u8 (.ofNat x0), .int .u8 (.ofNat x1)]) (by simp only [RelL, Rel]; exact ⟨_, _, rfl, rfl, ⟨_, _, rfl, rfl, rfl⟩⟩) w hl
end Go.Proofs.YtckjigiafmiieaaDoor.rulePaths
