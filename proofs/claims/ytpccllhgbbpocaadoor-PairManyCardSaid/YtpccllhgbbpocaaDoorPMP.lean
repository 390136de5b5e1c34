/- A part of the proof: an interpreter of the model's own code on partly known states, and that what it answers is what the program answers. No condition of its own. -/
import Derived.Test.YtpccllhgbbpocaaDoorPMA
import Derived.Test.YtpccllhgbbpocaaDoorPMB
import Derived.Test.YtpccllhgbbpocaaDoorPMC
import Derived.Test.YtpccllhgbbpocaaDoorPMD
import Derived.Test.YtpccllhgbbpocaaDoorPME
set_option maxRecDepth 100000
set_option linter.unusedVariables false
namespace Go.Proofs.YtpccllhgbbpocaaDoor
open Go Go.AX Go.Proofs
open Go.RowKit (Below)
namespace pairMany
def nu (a0 : Int) : Nat → Value := fun _ => .int .u8 a0
theorem nu_one (a0 : Int) : ∀ i, (nu a0 i).oneCell' = true := fun _ => rfl
theorem hyOk (a0 : Int) : ∀ k r, (k, r) ∈ hy (a0.tmod 5) → HOk (cx (nu a0) (nu_one a0) 1 laidE laidE_stab) k r := by
  intro k r h
  simp only [hy, List.mem_cons, List.not_mem_nil, or_false, Prod.mk.injEq] at h
  obtain ⟨rfl, rfl⟩ := h
  exact hRem (a := a0) rfl (by omega) fun ρ => by simp only [Rel]
theorem mod5 {a : Int} (h : (Lit.int .u8 a).wf = true) : 0 ≤ a.tmod 5 ∧ a.tmod 5 < 5 := by
  obtain ⟨h1, h2⟩ := byteRange h
  rw [Int.tmod_eq_emod_of_nonneg h1]; omega
theorem runs {a : Int} (ha : 0 ≤ a ∧ a < 5) (e : Nat) : run e a = true := by
  have ha' : a = 0 ∨ a = 1 ∨ a = 2 ∨ a = 3 ∨ a = 4 := by omega
  rcases ha' with rfl | rfl | rfl | rfl | rfl
  · exact r0 e
  · exact r1 e
  · exact r2 e
  · exact r3 e
  · exact r4 e
theorem walk (a0 : Int) (w0 : (Lit.int .u8 a0).wf = true) (w : World) (hl : laidE w) :
    Calls Tryd.prog 5 #[.int .u8 a0] w fun e w' => e = .returned (.bool true) ∧ Below w.heap.size w w' := by
  obtain ⟨fi, hfi, hb⟩ : ∃ fi, tab3.fn.get 5 = some fi ∧ fi.body.isSome = true := ⟨_, rfl, by kernel_rfl⟩
  have hall : AllOk (cx (nu a0) (nu_one a0) 1 laidE laidE_stab) (tabC (a0.tmod 5)) := (tab3Ok (nu a0) (nu_one a0)).hyps (hyOk a0)
  exact runD hall rfl hfi hb (fun e => runs (mod5 w0) e) (args := [.int .u8 a0]) (by simp only [RelL, Rel]; exact ⟨_, _, rfl, rfl, rfl⟩) w hl
end pairMany
end Go.Proofs.YtpccllhgbbpocaaDoor
