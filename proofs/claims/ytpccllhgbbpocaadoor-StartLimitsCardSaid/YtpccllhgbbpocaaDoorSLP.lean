/- A part of the proof: an interpreter of the model's own code on partly known states, and that what it answers is what the program answers. No condition of its own. -/
import Derived.Test.YtpccllhgbbpocaaDoorSLO
set_option maxRecDepth 100000
set_option linter.unusedVariables false
namespace Go.Proofs.YtpccllhgbbpocaaDoor
open Go Go.AX Go.Proofs
open Go.RowKit (Below)
namespace startLimits
theorem r00 (e : Nat) : run e 0 0 = true := by kernel_rfl
theorem r01 (e : Nat) : run e 0 1 = true := by kernel_rfl
theorem r02 (e : Nat) : run e 0 2 = true := by kernel_rfl
theorem r10 (e : Nat) : run e 1 0 = true := by kernel_rfl
theorem r11 (e : Nat) : run e 1 1 = true := by kernel_rfl
theorem r12 (e : Nat) : run e 1 2 = true := by kernel_rfl
theorem r20 (e : Nat) : run e 2 0 = true := by kernel_rfl
theorem r21 (e : Nat) : run e 2 1 = true := by kernel_rfl
theorem r22 (e : Nat) : run e 2 2 = true := by kernel_rfl
def nu (a0 a1 : Int) : Nat → Value
  | 0 => .int .u8 a0
  | _ => .int .u8 a1
theorem nu_one (a0 a1 : Int) : ∀ i, (nu a0 a1 i).oneCell' = true
  | 0 => rfl
  | _ + 1 => rfl
theorem hyOk (a0 a1 : Int) : ∀ k r, (k, r) ∈ hy (a0.tmod 3) (a1.tmod 3) → HOk (cx (nu a0 a1) (nu_one a0 a1) 1 laidE laidE_stab) k r := by
  intro k r h
  simp only [hy, List.mem_cons, List.not_mem_nil, or_false, Prod.mk.injEq] at h
  rcases h with ⟨rfl, rfl⟩ | ⟨rfl, rfl⟩
  · exact hRem (a := a0) rfl (by omega) fun ρ => by simp only [Rel]
  · exact hRem (a := a1) rfl (by omega) fun ρ => by simp only [Rel]
theorem mod3 {a : Int} (h : (Lit.int .u8 a).wf = true) : 0 ≤ a.tmod 3 ∧ a.tmod 3 < 3 := by
  obtain ⟨h1, h2⟩ := byteRange h
  rw [Int.tmod_eq_emod_of_nonneg h1]; omega
theorem runs {a b : Int} (ha : 0 ≤ a ∧ a < 3) (hb : 0 ≤ b ∧ b < 3) (e : Nat) : run e a b = true := by
  have ha' : a = 0 ∨ a = 1 ∨ a = 2 := by omega
  have hb' : b = 0 ∨ b = 1 ∨ b = 2 := by omega
  rcases ha' with rfl | rfl | rfl <;> rcases hb' with rfl | rfl | rfl
  · exact r00 e
  · exact r01 e
  · exact r02 e
  · exact r10 e
  · exact r11 e
  · exact r12 e
  · exact r20 e
  · exact r21 e
  · exact r22 e
theorem walk (a0 a1 : Int) (w0 : (Lit.int .u8 a0).wf = true) (w1 : (Lit.int .u8 a1).wf = true) (w : World) (hl : laidE w) :
    Calls Tryd.prog 8 #[.int .u8 a0, .int .u8 a1] w fun e w' => e = .returned (.bool true) ∧ Below w.heap.size w w' := by
  obtain ⟨fi, hfi, hb⟩ : ∃ fi, tab7.fn.get 8 = some fi ∧ fi.body.isSome = true := ⟨_, rfl, by kernel_rfl⟩
  have hall : AllOk (cx (nu a0 a1) (nu_one a0 a1) 1 laidE laidE_stab) (tabC (a0.tmod 3) (a1.tmod 3)) := (tab7Ok (nu a0 a1) (nu_one a0 a1)).hyps (hyOk a0 a1)
  exact runD hall rfl hfi hb (fun e => runs (mod3 w0) (mod3 w1) e) (args := [.int .u8 a0, .int .u8 a1]) (by simp only [RelL, Rel]; exact ⟨_, _, rfl, rfl, _, _, rfl, rfl, rfl⟩) w hl
end startLimits
end Go.Proofs.YtpccllhgbbpocaaDoor
