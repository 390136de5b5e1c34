/- A part of the proof: an interpreter of the model's own code on partly known states, and that what it answers is what the program answers. No condition of its own. -/
import Derived.Test.YtojgdbbjblaalaaDoorXO
set_option maxRecDepth 100000
set_option linter.unusedVariables false
namespace Go.Proofs.YtojgdbbjblaalaaDoor
open Go Go.AX Go.Proofs
namespace chunkWrong
def hy (i : Int) : List (HK × AV) := [(.bin .rem (.x 0) (.i .u8 9), .i .u8 i)]
noncomputable def tabC (i : Int) : Tab := { tab8 with hyp := hy i }
noncomputable def run (e0 e2 : Nat) (i : Int) : Bool := (cs (tabC i) 9000).call 3 [.x 0] isB ⟨H0 e0 e2, 4, 0, 0⟩
theorem r0 (e0 e2 : Nat) : run e0 e2 0 = true := by kernel_rfl
theorem r1 (e0 e2 : Nat) : run e0 e2 1 = true := by kernel_rfl
theorem r2 (e0 e2 : Nat) : run e0 e2 2 = true := by kernel_rfl
theorem r3 (e0 e2 : Nat) : run e0 e2 3 = true := by kernel_rfl
theorem r4 (e0 e2 : Nat) : run e0 e2 4 = true := by kernel_rfl
theorem r5 (e0 e2 : Nat) : run e0 e2 5 = true := by kernel_rfl
theorem r6 (e0 e2 : Nat) : run e0 e2 6 = true := by kernel_rfl
theorem r7 (e0 e2 : Nat) : run e0 e2 7 = true := by kernel_rfl
theorem r8 (e0 e2 : Nat) : run e0 e2 8 = true := by kernel_rfl
theorem runs (i : Int) (h : 0 ≤ i ∧ i < 9) (e0 e2 : Nat) : run e0 e2 i = true := by
  have h : i = 0 ∨ i = 1 ∨ i = 2 ∨ i = 3 ∨ i = 4 ∨ i = 5 ∨ i = 6 ∨ i = 7 ∨ i = 8 := by omega
  rcases h with rfl | rfl | rfl | rfl | rfl | rfl | rfl | rfl | rfl
  · exact r0 e0 e2
  · exact r1 e0 e2
  · exact r2 e0 e2
  · exact r3 e0 e2
  · exact r4 e0 e2
  · exact r5 e0 e2
  · exact r6 e0 e2
  · exact r7 e0 e2
  · exact r8 e0 e2
def nu (a0 : Int) : Nat → Value := fun _ => .int .u8 a0
theorem nu_one (a0 : Int) : ∀ i, (nu a0 i).oneCell' = true := fun _ => rfl
theorem hyOk (a0 : Int) : ∀ k r, (k, r) ∈ hy (a0.tmod 9) → HOk (cx (nu a0) (nu_one a0) 3 laidE laidE_stab) k r := by
  intro k r h
  simp only [hy, List.mem_cons, List.not_mem_nil, or_false, Prod.mk.injEq] at h
  obtain ⟨rfl, rfl⟩ := h
  exact hRem (a := a0) rfl (by omega) fun ρ => by simp only [Rel]
theorem mod9 (a : Int) (h : (Lit.int .u8 a).wf = true) : 0 ≤ a.tmod 9 ∧ a.tmod 9 < 9 := by
  obtain ⟨h1, h2⟩ := byteRange h
  rw [Int.tmod_eq_emod_of_nonneg h1]; omega
theorem walk (a0 : Int) (w0 : (Lit.int .u8 a0).wf = true) (w : World) (hl : laidE w) :
    Calls Tryd.prog 3 #[.int .u8 a0] w fun e w' => e = .returned (.bool true) ∧ Go.RowKit.Below w.heap.size w w' := by
  obtain ⟨fi, hfi, hb⟩ : ∃ fi, tab8.fn.get 3 = some fi ∧ fi.body.isSome = true := ⟨_, rfl, by kernel_rfl⟩
  have hall : AllOk (cx (nu a0) (nu_one a0) 3 laidE laidE_stab) (tabC (a0.tmod 9)) := (tab8Ok (nu a0) (nu_one a0)).hyps (hyOk a0)
  exact runD hall rfl hfi hb (fun e0 e2 => runs _ (mod9 a0 w0) e0 e2) (args := [.int .u8 a0]) (by simp only [RelL, Rel]; exact ⟨_, _, rfl, rfl, rfl⟩) w hl
end chunkWrong
end Go.Proofs.YtojgdbbjblaalaaDoor
