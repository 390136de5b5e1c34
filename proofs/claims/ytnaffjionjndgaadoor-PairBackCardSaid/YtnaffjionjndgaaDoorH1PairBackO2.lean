/- A part of the proof: an interpreter of the model's own code on partly known states, and that what it answers is what the program answers. No condition of its own. -/
import Derived.Test.YtnaffjionjndgaaDoorH1PairBackO
set_option maxRecDepth 100000
set_option linter.unusedVariables false
set_option linter.unusedSimpArgs false
set_option maxHeartbeats 4000000
namespace Go.Proofs.YtnaffjionjndgaaDoor.pairBack
open Go Go.AX Go.Proofs Go.Proofs.YtnaffjionjndgaaDoor
variable {nu : Nat → Value} {one : ∀ i, i < 1000000 → (nu i).oneCell' = true} {E' : Cx} {x' : Ex} {e' : LA} {h' : LE}
theorem hGl {C : Cx} (hP : C.P = Tryd.prog) (hn : C.nst = 1) {w : World} (h : laidE w) : ∃ e : Nat, ∀ v k, (H0 e).get v = some k → v < 4 ∧ v < C.nst ∧ ∃ e' c m, k = gBlk e' c ∧ CellsAre m c ∧ GArr C w v e' m := by
  have hE := id h
  obtain ⟨e, g0⟩ := geOf (C := C) hP hE
  refine ⟨e, fun v k hv => ?_⟩
  unfold H0 at hv
  rw [get_set _ _ _ _ (by omega)] at hv
  split at hv
  · rename_i e0; subst e0; injection hv with hv; subst hv
    exact ⟨by omega, by rw [hn]; omega, e, _, _, rfl, ⟨trivial, rfl⟩, g0⟩
  · simp [T.get_leaf] at hv
noncomputable def fi14 : FI := (tabk.fn.get 14).getD default
theorem fi14_at : tabk.fn.get 14 = some fi14 := by kernel_rfl
theorem fi14_body : fi14.body = some (Tryd.f14.body.getD .skip) := by kernel_rfl
theorem fiB14 : fi14.body.isSome = true := by rw [fi14_body]; rfl
theorem cfA14 : (loopsOf (Tryd.f14.body.getD .skip)).all (fun b => !(keyEq (Go.AX.keyOf b) 8888888)) = true := by kernel_rfl
def aPAs140x0 : List AV := [.ifc 34 (.i .i64 (.ofNat 11)), .ifc 48 (.p 143 0)]
def hpAs140x0 : LE := [(143, .b ⟨34, .l [.i .i64 (.ofNat 0)], 0, 0, 0, false, false⟩)]
def nuAs140x0 : List Value := []
def roAs140x0 : List Value := []
noncomputable def DAs140x0 : Cx := cx (nuX (nuAs140x0) (rX (roAs140x0) (fun _ => .bool true))) (nuX_one (nuL_one (l := nuAs140x0) rfl)) 1 laidE laidE_stab
def hyAs140x0_c0 : LK := []
noncomputable def tbAs140x0_c0 : Tab := (tbl hyAs140x0_c0)
theorem runAs140x0_c0 (e : Nat) : okCf (call tbAs140x0_c0 3000 14 aPAs140x0 ⟨lhSet hpAs140x0 ((fun e : Nat => H0 e) e), 171, 0, 0⟩) (.b true) [] [] 171 181 [(143, .b ⟨34, .l [.i .i64 (.ofNat 11)], 0, 0, 0, false, false⟩)] = true := by kernel_rfl
def nuEAs140x0_0 : List Value := []
def roEAs140x0_0 : List Value := []
noncomputable def EAs140x0_0 : Cx := cx (nuX (nuEAs140x0_0) (rX (roEAs140x0_0) (fun _ => .bool true))) (nuX_one (nuL_one (l := nuEAs140x0_0) rfl)) 1 laidE laidE_stab
theorem cfAs140x0_0 {l : LF} {h : LH} {q : Nat × AV} (hl : l.hp = some h) (hq : l.post = [q]) (hs : cfSame l h 4 171 181 = true) {th0 : LA} {sg0 : List (Nat × Nat)} (hth0 : ThOk (cx nu one 1 laidE laidE_stab) (DAs140x0) th0) (h0 : (inAs th0 (sgB 171 171 sg0) aPAs140x0 (l.pre.map (·.2)) && inHeap 171 171 th0 sg0 (lhSet h.pre .leaf) hpAs140x0 && nodupN (numsOf 171 sg0 hpAs140x0)) = true) {thx : LA} (hthx : ThOk (EAs140x0_0) (cx nu one 1 laidE laidE_stab) thx) (hx : (inA thx (sgB 171 181 []) 8 q.2 (.b true) && inHeap 171 181 thx [] (lhSet [(143, .b ⟨34, .l [.i .i64 (.ofNat 11)], 0, 0, 0, false, false⟩)] .leaf) h.post && nodupN (numsOf 171 [] h.post)) = true) : CfOk (cx nu one 1 laidE laidE_stab) 14 l := by
  skip
  have ho : ∀ a' r', (a', r') ∈ hyAs140x0_c0 → HOk (DAs140x0) a' r' := by
    unfold hyAs140x0_c0
    exact hnil
  exact cfOkX (D := DAs140x0) (E := EAs140x0_0) (Gf := (fun e : Nat => H0 e)) (f := 3000) (tb := tbAs140x0_c0) rfl rfl rfl rfl rfl rfl hl hq hs rfl hth0 h0 hthx hx ((tabkOk _ _).hyps ho) rfl fi14_at fiB14 (.inr ⟨rfl, fun w hi => hGl (C := DAs140x0) rfl rfl hi⟩) (thNil) runAs140x0_c0
def aPAs460x0 : List AV := [.ifc 34 (.i .i64 (.ofNat 11)), .ifc 48 (.p 463 0)]
def hpAs460x0 : LE := [(463, .b ⟨34, .l [.i .i64 (.ofNat 0)], 0, 0, 0, false, false⟩)]
def nuAs460x0 : List Value := []
def roAs460x0 : List Value := []
noncomputable def DAs460x0 : Cx := cx (nuX (nuAs460x0) (rX (roAs460x0) (fun _ => .bool true))) (nuX_one (nuL_one (l := nuAs460x0) rfl)) 1 laidE laidE_stab
def hyAs460x0_c0 : LK := []
noncomputable def tbAs460x0_c0 : Tab := (tbl hyAs460x0_c0)
theorem runAs460x0_c0 (e : Nat) : okCf (call tbAs460x0_c0 3000 14 aPAs460x0 ⟨lhSet hpAs460x0 ((fun e : Nat => H0 e) e), 491, 0, 0⟩) (.b true) [] [] 491 501 [(463, .b ⟨34, .l [.i .i64 (.ofNat 11)], 0, 0, 0, false, false⟩)] = true := by kernel_rfl
def nuEAs460x0_0 : List Value := []
def roEAs460x0_0 : List Value := []
noncomputable def EAs460x0_0 : Cx := cx (nuX (nuEAs460x0_0) (rX (roEAs460x0_0) (fun _ => .bool true))) (nuX_one (nuL_one (l := nuEAs460x0_0) rfl)) 1 laidE laidE_stab
theorem cfAs460x0_0 {l : LF} {h : LH} {q : Nat × AV} (hl : l.hp = some h) (hq : l.post = [q]) (hs : cfSame l h 4 491 501 = true) {th0 : LA} {sg0 : List (Nat × Nat)} (hth0 : ThOk (cx nu one 1 laidE laidE_stab) (DAs460x0) th0) (h0 : (inAs th0 (sgB 491 491 sg0) aPAs460x0 (l.pre.map (·.2)) && inHeap 491 491 th0 sg0 (lhSet h.pre .leaf) hpAs460x0 && nodupN (numsOf 491 sg0 hpAs460x0)) = true) {thx : LA} (hthx : ThOk (EAs460x0_0) (cx nu one 1 laidE laidE_stab) thx) (hx : (inA thx (sgB 491 501 []) 8 q.2 (.b true) && inHeap 491 501 thx [] (lhSet [(463, .b ⟨34, .l [.i .i64 (.ofNat 11)], 0, 0, 0, false, false⟩)] .leaf) h.post && nodupN (numsOf 491 [] h.post)) = true) : CfOk (cx nu one 1 laidE laidE_stab) 14 l := by
  skip
  have ho : ∀ a' r', (a', r') ∈ hyAs460x0_c0 → HOk (DAs460x0) a' r' := by
    unfold hyAs460x0_c0
    exact hnil
  exact cfOkX (D := DAs460x0) (E := EAs460x0_0) (Gf := (fun e : Nat => H0 e)) (f := 3000) (tb := tbAs460x0_c0) rfl rfl rfl rfl rfl rfl hl hq hs rfl hth0 h0 hthx hx ((tabkOk _ _).hyps ho) rfl fi14_at fiB14 (.inr ⟨rfl, fun w hi => hGl (C := DAs460x0) rfl rfl hi⟩) (thNil) runAs460x0_c0
end Go.Proofs.YtnaffjionjndgaaDoor.pairBack
