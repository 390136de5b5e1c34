/- A part of the proof: an interpreter of the model's own code on partly known states, and that what it answers is what the program answers. No condition of its own. -/
import Derived.Test.YtkhcgoeccmkmdaaGreatDoorSeatA9
import Derived.Test.YtkhcgoeccmkmdaaGreatDoorAXpart4
set_option maxRecDepth 100000
set_option linter.unusedVariables false
namespace Go.Proofs.YtkhcgoeccmkmdaaGreatDoor.requestHeads
open Go Go.AX Go.Proofs Go.Proofs.YtkhcgoeccmkmdaaGreatDoor
/-- the variables that the runs read are laid -/
def laidE (w : World) : Prop := True
theorem laidE_stab : ∀ w w' : World, (∀ k, k < 0 → w'.heap[k]? = w.heap[k]?) → laidE w → laidE w' := fun w w' h _ => trivial
theorem laidE_size {w : World} (h : laidE w) : 0 ≤ w.heap.size := by
  exact Nat.zero_le _
noncomputable def H0 : T Ent := .leaf
theorem runD {nu : Nat → Value} {one : ∀ i, (nu i).oneCell' = true} {tb : Tab} (h : AllOk (cx nu one 0 laidE laidE_stab) tb) (hng : tb.ng = 4) {f g : Nat} {fi : FI} (hfi : tb.fn.get g = some fi) (hb : fi.body.isSome = true) {l : List AV} {args : List Value}
    (hr : (xs tb f).call g l isB ⟨H0 , 4, 0, 0⟩ = true) (hl : RelL (cx nu one 0 laidE laidE_stab) (fun _ => none) l args) (w : World) (hw : laidE w) :
    Calls Tryz.prog g ⟨args⟩ w fun e w' => e = .returned (.bool true) ∧ Go.AX.Below w.heap.size w w' := by
  obtain ⟨F, S, hS⟩ := run_xs hr
  refine (run_okG h (H := H0 ) hfi hb (by rw [hng]; exact hS) hl w hw (laidE_size hw) fun v k hv => ?_).mono fun e' w' he => ?_
  · unfold H0 at hv
    simp [T.get_leaf] at hv
  · obtain ⟨x, ρ, rfl, hx, hb⟩ := he
    simp only [Rel] at hx
    exact ⟨by rw [hx], hb⟩
noncomputable def fk : FI := ⟨Tryz.f6.body, Tryz.f6.ntmps, Tryz.f6.results.toList, 0, none⟩
theorem fk_at : tab.fn.get 6 = some fk := by kernel_rfl
theorem fk_body : fk.body.isSome = true := by kernel_rfl
theorem kk : (xs tab 6000).call 6 [] isB ⟨H0 , 4, 0, 0⟩ = true := by kernel_rfl
noncomputable def tabk : Tab := addSum tab 6 fk (.b true)
section
variable (nu : Nat → Value) (one : ∀ i, (nu i).oneCell' = true)
theorem sumk : SumOk (cx nu one 0 laidE laidE_stab) 6 (.b true) := fun w hi hs => by
  refine (runD (tabOk nu one 0 laidE laidE_stab) rfl fk_at fk_body kk (args := []) (by simp only [RelL]) w hi).mono fun e w' he => ?_
  exact ⟨.bool true, he.1, by simp only [Rel], he.2⟩
theorem tabkOk : AllOk (cx nu one 0 laidE laidE_stab) tabk := (tabOk nu one 0 laidE laidE_stab).sum (by omega) fk_at fk_body (sumk nu one)
end
def hy (c0 : Nat) : List (HK × AV) := [(.bin .rem (.x 0) (.i .u8 (.ofNat 30)), .i .u8 (.ofNat c0))]
noncomputable def tabC (c0 : Nat) : Tab := { tabk with hyp := hy c0 }
noncomputable def run (c0 : Nat) (b1 : Bool) (b2 : Bool) : Bool := (xs (tabC c0) 9000).call 3 [.x 0, .b b1, .b b2] isB ⟨H0 , 4, 0, 0⟩
noncomputable def runI (i : Nat) : Bool := run (Nat.mod i 30) (bOf (Nat.mod (Nat.div i 30) 2)) (bOf (Nat.mod (Nat.div (Nat.div i 30) 2) 2))
end Go.Proofs.YtkhcgoeccmkmdaaGreatDoor.requestHeads
