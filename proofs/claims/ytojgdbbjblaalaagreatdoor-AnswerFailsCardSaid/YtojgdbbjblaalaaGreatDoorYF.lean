/- A part of the proof: an interpreter of the model's own code on partly known states, and that what it answers is what the program answers. No condition of its own. -/
import Derived.Test.YtojgdbbjblaalaaGreatDoorYO
set_option maxRecDepth 100000
set_option linter.unusedVariables false
namespace Go.Proofs.YtojgdbbjblaalaaGreatDoor
open Go Go.AX Go.Proofs
namespace answerFails
def hy (i : Int) : List (HK × AV) := [(.bin .rem (.x 0) (.i .u8 3), .i .u8 i)]
noncomputable def tabC (i : Int) : Tab := { tab22 with hyp := hy i }
noncomputable def run (e e1 e6 : Nat) (i : Int) (a b d : Bool) : Bool := (cs (tabC i) 9000).call 3 [.b a, .b b, .x 0, .b d] isB ⟨H0 e e1 e6, 7, 0, 0⟩
theorem r0_fff (e e1 e6 : Nat) : run e e1 e6 0 false false false = true := by kernel_rfl
theorem r0_fft (e e1 e6 : Nat) : run e e1 e6 0 false false true = true := by kernel_rfl
theorem r0_ftf (e e1 e6 : Nat) : run e e1 e6 0 false true false = true := by kernel_rfl
theorem r0_ftt (e e1 e6 : Nat) : run e e1 e6 0 false true true = true := by kernel_rfl
theorem r0_tff (e e1 e6 : Nat) : run e e1 e6 0 true false false = true := by kernel_rfl
theorem r0_tft (e e1 e6 : Nat) : run e e1 e6 0 true false true = true := by kernel_rfl
theorem r0_ttf (e e1 e6 : Nat) : run e e1 e6 0 true true false = true := by kernel_rfl
theorem r0_ttt (e e1 e6 : Nat) : run e e1 e6 0 true true true = true := by kernel_rfl
theorem r1_fff (e e1 e6 : Nat) : run e e1 e6 1 false false false = true := by kernel_rfl
theorem r1_fft (e e1 e6 : Nat) : run e e1 e6 1 false false true = true := by kernel_rfl
theorem r1_ftf (e e1 e6 : Nat) : run e e1 e6 1 false true false = true := by kernel_rfl
theorem r1_ftt (e e1 e6 : Nat) : run e e1 e6 1 false true true = true := by kernel_rfl
theorem r1_tff (e e1 e6 : Nat) : run e e1 e6 1 true false false = true := by kernel_rfl
theorem r1_tft (e e1 e6 : Nat) : run e e1 e6 1 true false true = true := by kernel_rfl
theorem r1_ttf (e e1 e6 : Nat) : run e e1 e6 1 true true false = true := by kernel_rfl
theorem r1_ttt (e e1 e6 : Nat) : run e e1 e6 1 true true true = true := by kernel_rfl
theorem r2_fff (e e1 e6 : Nat) : run e e1 e6 2 false false false = true := by kernel_rfl
theorem r2_fft (e e1 e6 : Nat) : run e e1 e6 2 false false true = true := by kernel_rfl
theorem r2_ftf (e e1 e6 : Nat) : run e e1 e6 2 false true false = true := by kernel_rfl
theorem r2_ftt (e e1 e6 : Nat) : run e e1 e6 2 false true true = true := by kernel_rfl
theorem r2_tff (e e1 e6 : Nat) : run e e1 e6 2 true false false = true := by kernel_rfl
theorem r2_tft (e e1 e6 : Nat) : run e e1 e6 2 true false true = true := by kernel_rfl
theorem r2_ttf (e e1 e6 : Nat) : run e e1 e6 2 true true false = true := by kernel_rfl
theorem r2_ttt (e e1 e6 : Nat) : run e e1 e6 2 true true true = true := by kernel_rfl
theorem runs (i : Int) (h : i = 0 ∨ i = 1 ∨ i = 2) (a b d : Bool) (e e1 e6 : Nat) : run e e1 e6 i a b d = true := by
  rcases h with rfl | rfl | rfl <;> cases a <;> cases b <;> cases d
  · exact r0_fff e e1 e6
  · exact r0_fft e e1 e6
  · exact r0_ftf e e1 e6
  · exact r0_ftt e e1 e6
  · exact r0_tff e e1 e6
  · exact r0_tft e e1 e6
  · exact r0_ttf e e1 e6
  · exact r0_ttt e e1 e6
  · exact r1_fff e e1 e6
  · exact r1_fft e e1 e6
  · exact r1_ftf e e1 e6
  · exact r1_ftt e e1 e6
  · exact r1_tff e e1 e6
  · exact r1_tft e e1 e6
  · exact r1_ttf e e1 e6
  · exact r1_ttt e e1 e6
  · exact r2_fff e e1 e6
  · exact r2_fft e e1 e6
  · exact r2_ftf e e1 e6
  · exact r2_ftt e e1 e6
  · exact r2_tff e e1 e6
  · exact r2_tft e e1 e6
  · exact r2_ttf e e1 e6
  · exact r2_ttt e e1 e6
def nu (a0 : Int) : Nat → Value := fun _ => .int .u8 a0
theorem nu_one (a0 : Int) : ∀ i, (nu a0 i).oneCell' = true := fun _ => rfl
theorem hyOk (a0 : Int) : ∀ k r, (k, r) ∈ hy (a0.tmod 3) → HOk (cx (nu a0) (nu_one a0) 7 laidE laidE_stab) k r := by
  intro k r h
  simp only [hy, List.mem_cons, List.not_mem_nil, or_false, Prod.mk.injEq] at h
  obtain ⟨rfl, rfl⟩ := h
  exact hRem (a := a0) rfl (by omega) fun ρ => by simp only [Rel]
theorem mod3 (a : Int) (h : (Lit.int .u8 a).wf = true) : a.tmod 3 = 0 ∨ a.tmod 3 = 1 ∨ a.tmod 3 = 2 := by
  obtain ⟨h1, h2⟩ := byteRange h
  rw [Int.tmod_eq_emod_of_nonneg h1]; omega
theorem walk (a0 a1 : Bool) (a2 : Int) (a3 : Bool) (w2 : (Lit.int .u8 a2).wf = true) (w : World) (hl : laidE w) :
    Calls Tryz.prog 3 #[.bool a0, .bool a1, .int .u8 a2, .bool a3] w fun e w' => e = .returned (.bool true) ∧ Go.RowKit.Below w.heap.size w w' := by
  obtain ⟨fi, hfi, hb⟩ : ∃ fi, tab22.fn.get 3 = some fi ∧ fi.body.isSome = true := ⟨_, rfl, by kernel_rfl⟩
  have hall : AllOk (cx (nu a2) (nu_one a2) 7 laidE laidE_stab) (tabC (a2.tmod 3)) := (tab22Ok (nu a2) (nu_one a2)).hyps (hyOk a2)
  exact runD hall rfl hfi hb (fun e e1 e6 => runs _ (mod3 a2 w2) a0 a1 a3 e e1 e6) (args := [.bool a0, .bool a1, .int .u8 a2, .bool a3]) (by simp only [RelL, Rel]; exact ⟨_, _, rfl, rfl, _, _, rfl, rfl, _, _, rfl, rfl, _, _, rfl, rfl, rfl⟩) w hl
end answerFails
end Go.Proofs.YtojgdbbjblaalaaGreatDoor
