/- A part of the proof: an interpreter of the model's own code on partly known states, and that what it answers is what the program answers. No condition of its own. -/
import Derived.Test.YtlfmfmegnenohaaDoorG1CutterCutsO2
set_option maxRecDepth 100000
set_option linter.unusedVariables false
set_option linter.unusedSimpArgs false
set_option maxHeartbeats 4000000
namespace Go.Proofs.YtlfmfmegnenohaaDoor.cutterCuts
open Go Go.AX Go.Proofs Go.Proofs.YtlfmfmegnenohaaDoor
variable {nu : Nat → Value} {one : ∀ i, i < 1000000 → (nu i).oneCell' = true} {E' : Cx} {x' : Ex} {e' : LA} {h' : LE}
theorem hGl {C : Cx} (hP : C.P = Tryd.prog) (hn : C.nst = 1) {w : World} (h : laidE w) : ∃ e : Nat, ∀ v k, (H0 e).get v = some k → v < 1 ∧ v < C.nst ∧ ∃ e' c m, k = gBlk e' c ∧ CellsAre m c ∧ GArr C w v e' m := by
  have hE := id h
  obtain ⟨e, g0⟩ := geOf (C := C) hP hE
  refine ⟨e, fun v k hv => ?_⟩
  unfold H0 at hv
  rw [get_set _ _ _ _ (by omega)] at hv
  split at hv
  · rename_i e0; subst e0; injection hv with hv; subst hv
    exact ⟨by omega, by rw [hn]; omega, e, _, _, rfl, ⟨trivial, rfl⟩, g0⟩
  · simp [T.get_leaf] at hv
noncomputable def fi25 : FI := (tabk.fn.get 25).getD default
theorem fi25_at : tabk.fn.get 25 = some fi25 := by kernel_rfl
theorem fi25_body : fi25.body = some (Tryd.f25.body.getD .skip) := by kernel_rfl
theorem fiB25 : fi25.body.isSome = true := by rw [fi25_body]; rfl
theorem cfA25 : (loopsOf (Tryd.f25.body.getD .skip)).all (fun b => !(keyEq (Go.AX.keyOf b) 8888888)) = true := by kernel_rfl
def aPAs0x0 : List AV := [.ifc 68 (.ag [.i .i64 (.ofNat 13), .s 27 45430407375676916831998826942035274374409028507990266741766889569]), .ifc 66 (.p 126 0)]
def hpAs0x0 : LE := [(126, .b ⟨29, .l [.i .i64 (.ofNat 0)], 0, 0, 0, false, false⟩)]
def nuAs0x0 : List Value := []
def roAs0x0 : List Value := []
noncomputable def DAs0x0 : Cx := cx (nuX (nuAs0x0) (rX (roAs0x0) (fun _ => .bool true))) (nuX_one (nuL_one (l := nuAs0x0) rfl)) 1 laidE laidE_stab
def hyAs0x0_c0 : LK := []
noncomputable def tbAs0x0_c0 : Tab := (tbl hyAs0x0_c0)
theorem runAs0x0_c0 (e : Nat) : okCf (call tbAs0x0_c0 3000 25 aPAs0x0 ⟨lhSet hpAs0x0 ((fun e : Nat => H0 e) e), 151, 0, 0⟩) (.b true) [] [] 151 161 [(126, .b ⟨29, .l [.i .i64 (.ofNat 13)], 0, 0, 0, false, false⟩)] = true := by kernel_rfl
def nuEAs0x0_0 : List Value := []
def roEAs0x0_0 : List Value := []
noncomputable def EAs0x0_0 : Cx := cx (nuX (nuEAs0x0_0) (rX (roEAs0x0_0) (fun _ => .bool true))) (nuX_one (nuL_one (l := nuEAs0x0_0) rfl)) 1 laidE laidE_stab
theorem cfAs0x0_0 {l : LF} {h : LH} {q : Nat × AV} (hl : l.hp = some h) (hq : l.post = [q]) (hs : cfSame l h 1 151 161 = true) {th0 : LA} {sg0 : List (Nat × Nat)} (hth0 : ThOk (cx nu one 1 laidE laidE_stab) (DAs0x0) th0) (h0 : (inAs th0 (sgB 151 151 sg0) aPAs0x0 (l.pre.map (·.2)) && inHeap 151 151 th0 sg0 (lhSet h.pre .leaf) hpAs0x0 && nodupN (numsOf 151 sg0 hpAs0x0)) = true) {thx : LA} (hthx : ThOk (EAs0x0_0) (cx nu one 1 laidE laidE_stab) thx) (hx : (inA thx (sgB 151 161 []) 8 q.2 (.b true) && inHeap 151 161 thx [] (lhSet [(126, .b ⟨29, .l [.i .i64 (.ofNat 13)], 0, 0, 0, false, false⟩)] .leaf) h.post && nodupN (numsOf 151 [] h.post)) = true) : CfOk (cx nu one 1 laidE laidE_stab) 25 l := by
  skip
  have ho : ∀ a' r', (a', r') ∈ hyAs0x0_c0 → HOk (DAs0x0) a' r' := by
    unfold hyAs0x0_c0
    exact hnil
  exact cfOkX (D := DAs0x0) (E := EAs0x0_0) (Gf := (fun e : Nat => H0 e)) (f := 3000) (tb := tbAs0x0_c0) rfl rfl rfl rfl rfl rfl hl hq hs rfl hth0 h0 hthx hx ((tabkOk _ _).hyps ho) rfl fi25_at fiB25 (.inr ⟨rfl, fun w hi => hGl (C := DAs0x0) rfl rfl hi⟩) (thNil) runAs0x0_c0
def aPAs0x1 : List AV := [.ifc 68 (.ag [.i .i64 (.ofNat 10), .s 18 4192413596494156358521667725059818226065505]), .ifc 66 (.p 125 0)]
def hpAs0x1 : LE := [(125, .b ⟨29, .l [.i .i64 (.ofNat 0)], 0, 0, 0, false, false⟩)]
def nuAs0x1 : List Value := []
def roAs0x1 : List Value := []
noncomputable def DAs0x1 : Cx := cx (nuX (nuAs0x1) (rX (roAs0x1) (fun _ => .bool true))) (nuX_one (nuL_one (l := nuAs0x1) rfl)) 1 laidE laidE_stab
def hyAs0x1_c0 : LK := []
noncomputable def tbAs0x1_c0 : Tab := (tbl hyAs0x1_c0)
theorem runAs0x1_c0 (e : Nat) : okCf (call tbAs0x1_c0 3000 25 aPAs0x1 ⟨lhSet hpAs0x1 ((fun e : Nat => H0 e) e), 151, 0, 0⟩) (.b true) [] [] 151 161 [(125, .b ⟨29, .l [.i .i64 (.ofNat 10)], 0, 0, 0, false, false⟩)] = true := by kernel_rfl
def nuEAs0x1_0 : List Value := []
def roEAs0x1_0 : List Value := []
noncomputable def EAs0x1_0 : Cx := cx (nuX (nuEAs0x1_0) (rX (roEAs0x1_0) (fun _ => .bool true))) (nuX_one (nuL_one (l := nuEAs0x1_0) rfl)) 1 laidE laidE_stab
theorem cfAs0x1_0 {l : LF} {h : LH} {q : Nat × AV} (hl : l.hp = some h) (hq : l.post = [q]) (hs : cfSame l h 1 151 161 = true) {th0 : LA} {sg0 : List (Nat × Nat)} (hth0 : ThOk (cx nu one 1 laidE laidE_stab) (DAs0x1) th0) (h0 : (inAs th0 (sgB 151 151 sg0) aPAs0x1 (l.pre.map (·.2)) && inHeap 151 151 th0 sg0 (lhSet h.pre .leaf) hpAs0x1 && nodupN (numsOf 151 sg0 hpAs0x1)) = true) {thx : LA} (hthx : ThOk (EAs0x1_0) (cx nu one 1 laidE laidE_stab) thx) (hx : (inA thx (sgB 151 161 []) 8 q.2 (.b true) && inHeap 151 161 thx [] (lhSet [(125, .b ⟨29, .l [.i .i64 (.ofNat 10)], 0, 0, 0, false, false⟩)] .leaf) h.post && nodupN (numsOf 151 [] h.post)) = true) : CfOk (cx nu one 1 laidE laidE_stab) 25 l := by
  skip
  have ho : ∀ a' r', (a', r') ∈ hyAs0x1_c0 → HOk (DAs0x1) a' r' := by
    unfold hyAs0x1_c0
    exact hnil
  exact cfOkX (D := DAs0x1) (E := EAs0x1_0) (Gf := (fun e : Nat => H0 e)) (f := 3000) (tb := tbAs0x1_c0) rfl rfl rfl rfl rfl rfl hl hq hs rfl hth0 h0 hthx hx ((tabkOk _ _).hyps ho) rfl fi25_at fiB25 (.inr ⟨rfl, fun w hi => hGl (C := DAs0x1) rfl rfl hi⟩) (thNil) runAs0x1_c0
def aPAsFd00 : List AV := [.ifc 68 (.ag [.i .i64 (.ofNat 13), .s 27 45430407375676916831998826942035274374409028507990266741766889569]), .ifc 66 (.p 326 0)]
def hpAsFd00 : LE := [(326, .b ⟨29, .l [.i .i64 (.ofNat 0)], 0, 0, 0, false, false⟩)]
def nuAsFd00 : List Value := []
def roAsFd00 : List Value := []
noncomputable def DAsFd00 : Cx := cx (nuX (nuAsFd00) (rX (roAsFd00) (fun _ => .bool true))) (nuX_one (nuL_one (l := nuAsFd00) rfl)) 1 laidE laidE_stab
def hyAsFd00_c0 : LK := []
noncomputable def tbAsFd00_c0 : Tab := (tbl hyAsFd00_c0)
theorem runAsFd00_c0 (e : Nat) : okCf (call tbAsFd00_c0 3000 25 aPAsFd00 ⟨lhSet hpAsFd00 ((fun e : Nat => H0 e) e), 351, 0, 0⟩) (.b true) [] [] 351 361 [(326, .b ⟨29, .l [.i .i64 (.ofNat 13)], 0, 0, 0, false, false⟩)] = true := by kernel_rfl
def nuEAsFd00_0 : List Value := []
def roEAsFd00_0 : List Value := []
noncomputable def EAsFd00_0 : Cx := cx (nuX (nuEAsFd00_0) (rX (roEAsFd00_0) (fun _ => .bool true))) (nuX_one (nuL_one (l := nuEAsFd00_0) rfl)) 1 laidE laidE_stab
theorem cfAsFd00_0 {l : LF} {h : LH} {q : Nat × AV} (hl : l.hp = some h) (hq : l.post = [q]) (hs : cfSame l h 1 351 361 = true) {th0 : LA} {sg0 : List (Nat × Nat)} (hth0 : ThOk (cx nu one 1 laidE laidE_stab) (DAsFd00) th0) (h0 : (inAs th0 (sgB 351 351 sg0) aPAsFd00 (l.pre.map (·.2)) && inHeap 351 351 th0 sg0 (lhSet h.pre .leaf) hpAsFd00 && nodupN (numsOf 351 sg0 hpAsFd00)) = true) {thx : LA} (hthx : ThOk (EAsFd00_0) (cx nu one 1 laidE laidE_stab) thx) (hx : (inA thx (sgB 351 361 []) 8 q.2 (.b true) && inHeap 351 361 thx [] (lhSet [(326, .b ⟨29, .l [.i .i64 (.ofNat 13)], 0, 0, 0, false, false⟩)] .leaf) h.post && nodupN (numsOf 351 [] h.post)) = true) : CfOk (cx nu one 1 laidE laidE_stab) 25 l := by
  skip
  have ho : ∀ a' r', (a', r') ∈ hyAsFd00_c0 → HOk (DAsFd00) a' r' := by
    unfold hyAsFd00_c0
    exact hnil
  exact cfOkX (D := DAsFd00) (E := EAsFd00_0) (Gf := (fun e : Nat => H0 e)) (f := 3000) (tb := tbAsFd00_c0) rfl rfl rfl rfl rfl rfl hl hq hs rfl hth0 h0 hthx hx ((tabkOk _ _).hyps ho) rfl fi25_at fiB25 (.inr ⟨rfl, fun w hi => hGl (C := DAsFd00) rfl rfl hi⟩) (thNil) runAsFd00_c0
def aPAsFd01 : List AV := [.ifc 68 (.ag [.i .i64 (.ofNat 10), .s 18 4192413596494156358521667725059818226065505]), .ifc 66 (.p 325 0)]
def hpAsFd01 : LE := [(325, .b ⟨29, .l [.i .i64 (.ofNat 0)], 0, 0, 0, false, false⟩)]
def nuAsFd01 : List Value := []
def roAsFd01 : List Value := []
noncomputable def DAsFd01 : Cx := cx (nuX (nuAsFd01) (rX (roAsFd01) (fun _ => .bool true))) (nuX_one (nuL_one (l := nuAsFd01) rfl)) 1 laidE laidE_stab
def hyAsFd01_c0 : LK := []
noncomputable def tbAsFd01_c0 : Tab := (tbl hyAsFd01_c0)
theorem runAsFd01_c0 (e : Nat) : okCf (call tbAsFd01_c0 3000 25 aPAsFd01 ⟨lhSet hpAsFd01 ((fun e : Nat => H0 e) e), 351, 0, 0⟩) (.b true) [] [] 351 361 [(325, .b ⟨29, .l [.i .i64 (.ofNat 10)], 0, 0, 0, false, false⟩)] = true := by kernel_rfl
def nuEAsFd01_0 : List Value := []
def roEAsFd01_0 : List Value := []
noncomputable def EAsFd01_0 : Cx := cx (nuX (nuEAsFd01_0) (rX (roEAsFd01_0) (fun _ => .bool true))) (nuX_one (nuL_one (l := nuEAsFd01_0) rfl)) 1 laidE laidE_stab
theorem cfAsFd01_0 {l : LF} {h : LH} {q : Nat × AV} (hl : l.hp = some h) (hq : l.post = [q]) (hs : cfSame l h 1 351 361 = true) {th0 : LA} {sg0 : List (Nat × Nat)} (hth0 : ThOk (cx nu one 1 laidE laidE_stab) (DAsFd01) th0) (h0 : (inAs th0 (sgB 351 351 sg0) aPAsFd01 (l.pre.map (·.2)) && inHeap 351 351 th0 sg0 (lhSet h.pre .leaf) hpAsFd01 && nodupN (numsOf 351 sg0 hpAsFd01)) = true) {thx : LA} (hthx : ThOk (EAsFd01_0) (cx nu one 1 laidE laidE_stab) thx) (hx : (inA thx (sgB 351 361 []) 8 q.2 (.b true) && inHeap 351 361 thx [] (lhSet [(325, .b ⟨29, .l [.i .i64 (.ofNat 10)], 0, 0, 0, false, false⟩)] .leaf) h.post && nodupN (numsOf 351 [] h.post)) = true) : CfOk (cx nu one 1 laidE laidE_stab) 25 l := by
  skip
  have ho : ∀ a' r', (a', r') ∈ hyAsFd01_c0 → HOk (DAsFd01) a' r' := by
    unfold hyAsFd01_c0
    exact hnil
  exact cfOkX (D := DAsFd01) (E := EAsFd01_0) (Gf := (fun e : Nat => H0 e)) (f := 3000) (tb := tbAsFd01_c0) rfl rfl rfl rfl rfl rfl hl hq hs rfl hth0 h0 hthx hx ((tabkOk _ _).hyps ho) rfl fi25_at fiB25 (.inr ⟨rfl, fun w hi => hGl (C := DAsFd01) rfl rfl hi⟩) (thNil) runAsFd01_c0
end Go.Proofs.YtlfmfmegnenohaaDoor.cutterCuts
