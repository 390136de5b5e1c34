/- A part of the proof: an interpreter of the model's own code on partly known states, and that what it answers is what the program answers. No condition of its own. -/
import Derived.Test.YtacflaaahanhgaaDoorSeatA9
import Derived.Test.YtacflaaahanhgaaDoorAXpart4
set_option maxRecDepth 100000
set_option linter.unusedVariables false
namespace Go.Proofs.YtacflaaahanhgaaDoor.ruleSegs
open Go Go.AX Go.Proofs Go.Proofs.YtacflaaahanhgaaDoor
/-- the variables that the runs read are laid -/
def laidE (w : World) : Prop := True
theorem laidE_stab : ∀ w w' : World, (∀ k, k < 0 → w'.heap[k]? = w.heap[k]?) → laidE w → laidE w' := fun w w' h _ => trivial
theorem laidE_size {w : World} (h : laidE w) : 0 ≤ w.heap.size := by
  exact Nat.zero_le _
noncomputable def H0 : T Ent := .leaf
theorem runD {nu : Nat → Value} {one : ∀ i, (nu i).oneCell' = true} {tb : Tab} (h : AllOk (cx nu one 0 laidE laidE_stab) tb) (hng : tb.ng = 7) {f g : Nat} {fi : FI} (hfi : tb.fn.get g = some fi) (hb : fi.body.isSome = true) {l : List AV} {args : List Value}
    (hr : (xs tb f).call g l isB ⟨H0 , 7, 0, 0⟩ = true) (hl : RelL (cx nu one 0 laidE laidE_stab) (fun _ => none) l args) (w : World) (hw : laidE w) :
    Calls Tryd.prog g ⟨args⟩ w fun e w' => e = .returned (.bool true) ∧ Go.AX.Below w.heap.size w w' := by
  obtain ⟨F, S, hS⟩ := run_xs hr
  refine (run_okG h (H := H0 ) hfi hb (by rw [hng]; exact hS) hl w hw (laidE_size hw) fun v k hv => ?_).mono fun e' w' he => ?_
  · unfold H0 at hv
    simp [T.get_leaf] at hv
  · obtain ⟨x, ρ, rfl, hx, hb⟩ := he
    simp only [Rel] at hx
    exact ⟨by rw [hx], hb⟩
noncomputable def fk : FI := ⟨Tryd.f53.body, Tryd.f53.ntmps, Tryd.f53.results.toList, 0, none⟩
theorem fk_at : tab.fn.get 53 = some fk := by kernel_rfl
theorem fk_body : fk.body.isSome = true := by kernel_rfl
theorem kk : (xs tab 6000).call 53 [] isB ⟨H0 , 7, 0, 0⟩ = true := by kernel_rfl
noncomputable def tabk : Tab := addSum tab 53 fk (.b true)
section
variable (nu : Nat → Value) (one : ∀ i, (nu i).oneCell' = true)
theorem sumk : SumOk (cx nu one 0 laidE laidE_stab) 53 (.b true) := fun w hi hs => by
  refine (runD (tabOk nu one 0 laidE laidE_stab) rfl fk_at fk_body kk (args := []) (by simp only [RelL]) w hi).mono fun e w' he => ?_
  exact ⟨.bool true, he.1, by simp only [Rel], he.2⟩
theorem tabkOk : AllOk (cx nu one 0 laidE laidE_stab) tabk := (tabOk nu one 0 laidE laidE_stab).sum (by omega) fk_at fk_body (sumk nu one)
end
def hy (c0 : Nat) (c1 : Nat) : List (HK × AV) := [(.bin .rem (.x 0) (.i .u8 (.ofNat 10)), .i .u8 (.ofNat c0)), (.bin .shr (.x 100) (.i .u64 (.ofNat 0)), .x 101), (.bin .shr (.x 100) (.i .u64 (.ofNat 1)), .x 102), (.bin .shr (.x 100) (.i .u64 (.ofNat 2)), .x 103), (.bin .shr (.x 100) (.i .u64 (.ofNat 3)), .x 104), (.bin .shr (.x 100) (.i .u64 (.ofNat 4)), .x 105), (.bin .shr (.x 100) (.i .u64 (.ofNat 5)), .x 106), (.bin .shr (.x 100) (.i .u64 (.ofNat 6)), .x 107), (.bin .shr (.x 100) (.i .u64 (.ofNat 7)), .x 108), (.bin .shr (.x 100) (.i .u64 (.ofNat 8)), .x 109), (.bin .shr (.x 100) (.i .u64 (.ofNat 9)), .x 110), (.bin .and (.x 101) (.i .u16 (.ofNat 1)), .i .u16 (.ofNat (Nat.mod (Nat.div c1 1) 2))), (.bin .and (.x (cond (Nat.ble 1 c0) 102 101)) (.i .u16 (.ofNat 1)), .i .u16 (.ofNat (Nat.mod (Nat.div c1 (cond (Nat.ble 1 c0) 2 1)) 2))), (.bin .and (.x (cond (Nat.ble 2 c0) 103 101)) (.i .u16 (.ofNat 1)), .i .u16 (.ofNat (Nat.mod (Nat.div c1 (cond (Nat.ble 2 c0) 4 1)) 2))), (.bin .and (.x (cond (Nat.ble 3 c0) 104 101)) (.i .u16 (.ofNat 1)), .i .u16 (.ofNat (Nat.mod (Nat.div c1 (cond (Nat.ble 3 c0) 8 1)) 2))), (.bin .and (.x (cond (Nat.ble 4 c0) 105 101)) (.i .u16 (.ofNat 1)), .i .u16 (.ofNat (Nat.mod (Nat.div c1 (cond (Nat.ble 4 c0) 16 1)) 2))), (.bin .and (.x (cond (Nat.ble 5 c0) 106 101)) (.i .u16 (.ofNat 1)), .i .u16 (.ofNat (Nat.mod (Nat.div c1 (cond (Nat.ble 5 c0) 32 1)) 2))), (.bin .and (.x (cond (Nat.ble 6 c0) 107 101)) (.i .u16 (.ofNat 1)), .i .u16 (.ofNat (Nat.mod (Nat.div c1 (cond (Nat.ble 6 c0) 64 1)) 2))), (.bin .and (.x (cond (Nat.ble 7 c0) 108 101)) (.i .u16 (.ofNat 1)), .i .u16 (.ofNat (Nat.mod (Nat.div c1 (cond (Nat.ble 7 c0) 128 1)) 2))), (.bin .and (.x (cond (Nat.ble 8 c0) 109 101)) (.i .u16 (.ofNat 1)), .i .u16 (.ofNat (Nat.mod (Nat.div c1 (cond (Nat.ble 8 c0) 256 1)) 2))), (.bin .and (.x (cond (Nat.ble 9 c0) 110 101)) (.i .u16 (.ofNat 1)), .i .u16 (.ofNat (Nat.mod (Nat.div c1 (cond (Nat.ble 9 c0) 512 1)) 2)))]
noncomputable def tabC (c0 : Nat) (c1 : Nat) : Tab := { tabk with hyp := hy c0 c1 }
noncomputable def run (c0 : Nat) (c1 : Nat) (b2 : Bool) : Bool := (xs (tabC c0 c1) 9000).call 12 [.x 0, .x 100, .b b2] isB ⟨H0 , 7, 0, 0⟩
noncomputable def runI (i : Nat) : Bool := run (Nat.sub (Nat.log2 (Nat.add (Nat.div i 2) 2)) 1) (Nat.sub (Nat.add (Nat.div i 2) 2) (Nat.pow 2 (Nat.log2 (Nat.add (Nat.div i 2) 2)))) (bOf (Nat.mod i 2))
end Go.Proofs.YtacflaaahanhgaaDoor.ruleSegs
