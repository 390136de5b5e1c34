/- A part of the proof: an interpreter of the model's own code on partly known states, and that what it answers is what the program answers. No condition of its own. -/
import Derived.Test.YtejdkoheodambaaGreatDoorA5MuxAbortsR0
import Derived.Test.YtejdkoheodambaaGreatDoorA5MuxAbortsR1
import Derived.Test.YtejdkoheodambaaGreatDoorA5MuxAbortsR2
import Derived.Test.YtejdkoheodambaaGreatDoorA5MuxAbortsR3
set_option maxRecDepth 100000
set_option linter.unusedVariables false
namespace Go.Proofs.YtejdkoheodambaaGreatDoor.muxAborts
open Go Go.AX Go.Proofs Go.Proofs.YtejdkoheodambaaGreatDoor
theorem allRuns (e : Nat) : ∀ i, i < 32 → runI e i = true := by
  intro i hi
  by_cases h18 : i < 18
  · by_cases h9 : i < 9
    · exact allN_at (r0 e ) i (by omega) (by omega)
    · exact allN_at (r9 e ) i (by omega) (by omega)
  · by_cases h27 : i < 27
    · exact allN_at (r18 e ) i (by omega) (by omega)
    · exact allN_at (r27 e ) i (by omega) (by omega)
theorem runs (e : Nat) (b0 : Bool) (c1 : Nat) (h1 : c1 < 16) : run e b0 c1 = true := by
  have hb0 := nOf_lt b0
  have h := allRuns e ((nOf b0 + 2 * c1)) (by omega)
  unfold runI at h
  have e0 : Nat.mod ((nOf b0 + 2 * c1)) 2 = nOf b0 := by show ((nOf b0 + 2 * c1)) % 2 = nOf b0; omega
  have d0 : Nat.div ((nOf b0 + 2 * c1)) 2 = c1 := by show ((nOf b0 + 2 * c1)) / 2 = c1; omega
  rw [e0, d0, bOf_nOf] at h
  have e1 : Nat.mod (c1) 16 = c1 := by show (c1) % 16 = c1; omega
  rw [e1] at h
  exact h
def nu (x1 : Nat) : Nat → Value
  | 100 => .int .u16 (.ofNat x1)
  | _ => .bool true
theorem nu_one (x1 : Nat) : ∀ i, (nu x1 i).oneCell' = true := by
  intro i; unfold nu; split <;> rfl
theorem hyOk (x1 : Nat) (c1 : Nat) (hc1 : x1 % 16 = c1) (hx1 : x1 ≤ 65535) : ∀ k r, (k, r) ∈ hy c1 → HOk (cx (nu x1) (nu_one x1) 1 laidE laidE_stab) k r := by
  intro k r h
  simp only [hy, List.mem_cons, List.not_mem_nil, or_false, Prod.mk.injEq] at h
  obtain ⟨rfl, rfl⟩ := h
  exact hRemX (x := x1) rfl (by omega) hc1
theorem walk (a0 : Bool) (a1 : Int) (w1 : (Lit.int .u16 a1).wf = true) (w : World) (hl : laidE w) :
    Calls Tryz.prog 4 #[.bool a0, .int .u16 a1] w fun e w' => e = .returned (.bool true) ∧ Go.AX.Below w.heap.size w w' := by
  obtain ⟨fi, hfi, hb⟩ : ∃ fi, tabk.fn.get 4 = some fi ∧ fi.body.isSome = true := ⟨_, rfl, by kernel_rfl⟩
  obtain ⟨x1, rfl, hx1⟩ := natOf (M := 65535) w1 rfl rfl
  have hall : AllOk (cx (nu x1) (nu_one x1) 1 laidE laidE_stab) (tabC (x1 % 16)) := (tabkOk (nu x1) (nu_one x1)).hyps (hyOk x1 _ rfl hx1)
  exact runD hall rfl hfi hb (fun e => runs e a0 (x1 % 16) (Nat.mod_lt _ (by omega))) (args := [.bool a0, .int .u16 (.ofNat x1)]) (by simp only [RelL, Rel]; exact ⟨_, _, rfl, rfl, ⟨_, _, rfl, rfl, rfl⟩⟩) w hl
end Go.Proofs.YtejdkoheodambaaGreatDoor.muxAborts
