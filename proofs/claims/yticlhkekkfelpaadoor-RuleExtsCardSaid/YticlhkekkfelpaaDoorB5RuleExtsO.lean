/- A part of the proof: an interpreter of the model's own code on partly known states, and that what it answers is what the program answers. No condition of its own. -/
import Derived.Test.YticlhkekkfelpaaDoorSeatB5
import Derived.Test.YticlhkekkfelpaaDoorHKW
set_option maxRecDepth 100000
set_option linter.unusedVariables false
namespace Go.Proofs.YticlhkekkfelpaaDoor.ruleExts
open Go Go.AX Go.Proofs Go.Proofs.YticlhkekkfelpaaDoor
/-- the variables that the runs read are laid -/
def laidE (w : World) : Prop := True
theorem laidE_stab : ∀ w w' : World, (∀ k, k < 0 → w'.heap[k]? = w.heap[k]?) → laidE w → laidE w' := fun w w' h _ => trivial
theorem laidE_size {w : World} (h : laidE w) : 0 ≤ w.heap.size := by
  exact Nat.zero_le _
noncomputable def H0 : T Ent := .leaf
theorem runP {nu : Nat → Value} {one : ∀ i, (nu i).oneCell' = true} {tb : Tab} (h : AllOk (cx nu one 0 laidE laidE_stab) tb) (hng : tb.ng = 7) {f g : Nat} {fi : FI} (hfi : tb.fn.get g = some fi) (hb : fi.body.isSome = true) {l : List AV} {args : List Value}
    (hr : okB (call tb f g l ⟨H0 , 7, 0, 0⟩) = true) (hl : RelL (cx nu one 0 laidE laidE_stab) (fun _ => none) l args) (w : World) (hw : laidE w) :
    Calls Tryd.prog g ⟨args⟩ w fun e w' => e = .returned (.bool true) ∧ Go.AX.Below w.heap.size w w' := by
  obtain ⟨S, hS⟩ := okB_inv hr
  refine (run_okG h (H := H0 ) hfi hb (by rw [hng]; exact hS) hl w hw (laidE_size hw) fun v k hv => ?_).mono fun e' w' he => ?_
  · unfold H0 at hv
    simp [T.get_leaf] at hv
  · obtain ⟨x, ρ, rfl, hx, hb⟩ := he
    simp only [Rel] at hx
    exact ⟨by rw [hx], hb⟩
theorem runS {nu : Nat → Value} {one : ∀ i, (nu i).oneCell' = true} {tb : Tab} (h : AllOk (cx nu one 0 laidE laidE_stab) tb) (hng : tb.ng = 7) {f g : Nat} {fi : FI} (hfi : tb.fn.get g = some fi) (hb : fi.body.isSome = true) {l : List AV} {args : List Value} {len n : Nat}
    (hr : okS (call tb f g l ⟨H0 , 7, 0, 0⟩) len n = true) (hl : RelL (cx nu one 0 laidE laidE_stab) (fun _ => none) l args) (w : World) (hw : laidE w) :
    Calls Tryd.prog g ⟨args⟩ w fun e w' => e = .returned (St' (strB len n)) ∧ Go.AX.Below w.heap.size w w' := by
  obtain ⟨S, hS⟩ := okS_inv hr
  refine (run_okG h (H := H0 ) hfi hb (by rw [hng]; exact hS) hl w hw (laidE_size hw) fun v k hv => ?_).mono fun e' w' he => ?_
  · unfold H0 at hv
    simp [T.get_leaf] at hv
  · obtain ⟨x, ρ, rfl, hx, hb⟩ := he
    simp only [Rel] at hx
    exact ⟨by rw [hx.1], hb⟩
noncomputable def fk : FI := ⟨Tryd.f31.body, Tryd.f31.ntmps, Tryd.f31.results.toList, 0, none, []⟩
theorem fk_at : tab.fn.get 31 = some fk := by kernel_rfl
theorem fk_body : fk.body.isSome = true := by kernel_rfl
theorem kk : okB (call tab 6000 31 [] ⟨H0 , 7, 0, 0⟩) = true := by kernel_rfl
noncomputable def tabk : Tab := addSum tab 31 fk (.b true)
section
variable (nu : Nat → Value) (one : ∀ i, (nu i).oneCell' = true)
theorem sumk : SumOk (cx nu one 0 laidE laidE_stab) 31 (.b true) := fun w hi hs => by
  refine (runP (tabOk nu one 0 laidE laidE_stab) rfl fk_at fk_body kk (args := []) (by simp only [RelL]) w hi).mono fun e w' he => ?_
  exact ⟨.bool true, he.1, by simp only [Rel], he.2⟩
theorem tabkOk : AllOk (cx nu one 0 laidE laidE_stab) tabk := (tabOk nu one 0 laidE laidE_stab).sum (by omega) fk_at fk_body (sumk nu one)
end
theorem tu3 : Tryd.prog.underlying 3 = some (.int .i64) := by kernel_rfl
noncomputable def tbl (h : List (HK × AV)) : Tab := { tabk with hyp := h }
def BB (n : Int) (pos : Int) (chr : Int) : Prop := 0 ≤ n ∧ n ≤ 255 ∧ 0 ≤ pos ∧ pos ≤ 255 ∧ 0 ≤ chr ∧ chr ≤ 255
def Cw (a : Array Value) (w : World) : Prop := Calls Tryd.prog 7 a w fun e w' => e = .returned (.bool true) ∧ Go.AX.Below w.heap.size w w'
theorem fiE : ∃ fi, tabk.fn.get 7 = some fi ∧ fi.body.isSome = true := ⟨_, rfl, by kernel_rfl⟩
end Go.Proofs.YticlhkekkfelpaaDoor.ruleExts
