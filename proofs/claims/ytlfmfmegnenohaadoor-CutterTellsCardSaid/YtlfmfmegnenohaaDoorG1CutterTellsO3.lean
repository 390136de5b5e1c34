/- A part of the proof: an interpreter of the model's own code on partly known states, and that what it answers is what the program answers. No condition of its own. -/
import Derived.Test.YtlfmfmegnenohaaDoorG1CutterTellsO2
set_option maxRecDepth 100000
set_option linter.unusedVariables false
set_option linter.unusedSimpArgs false
set_option maxHeartbeats 4000000
namespace Go.Proofs.YtlfmfmegnenohaaDoor.cutterTells
open Go Go.AX Go.Proofs Go.Proofs.YtlfmfmegnenohaaDoor
variable {nu : Nat → Value} {one : ∀ i, i < 1000000 → (nu i).oneCell' = true} {E' : Cx} {x' : Ex} {e' : LA} {h' : LE}
theorem hGl {C : Cx} (hP : C.P = Tryd.prog) (hn : C.nst = 1) {w : World} (h : laidE w) : ∃ e : Nat, ∀ v k, (H0 e).get v = some k → v < 1 ∧ v < C.nst ∧ ∃ e' c m, k = gBlk e' c ∧ CellsAre m c ∧ GArr C w v e' m := by
  have hE := id h
  obtain ⟨e, g0⟩ := geOf (C := C) hP hE
  refine ⟨e, fun v k hv => ?_⟩
  unfold H0 at hv
  rw [get_set _ _ _ _ (by omega)] at hv
  split at hv
  · rename_i e0; subst e0; injection hv with hv; subst hv
    exact ⟨by omega, by rw [hn]; omega, e, _, _, rfl, ⟨trivial, rfl⟩, g0⟩
  · simp [T.get_leaf] at hv
noncomputable def fi25 : FI := (tabk.fn.get 25).getD default
theorem fi25_at : tabk.fn.get 25 = some fi25 := by kernel_rfl
theorem fi25_body : fi25.body = some (Tryd.f25.body.getD .skip) := by kernel_rfl
theorem fiB25 : fi25.body.isSome = true := by rw [fi25_body]; rfl
theorem cfA25 : (loopsOf (Tryd.f25.body.getD .skip)).all (fun b => !(keyEq (Go.AX.keyOf b) 8888888)) = true := by kernel_rfl
def aPAsx0 : List AV := [.ifc 68 (.ag [.i .i64 (.ofNat 13), .s 27 45430407375676916831998826942035274374409028507990266741766889569]), .ifc 66 (.p 46 0)]
def hpAsx0 : LE := [(46, .b ⟨29, .l [.i .i64 (.ofNat 0)], 0, 0, 0, false, false⟩)]
def nuAsx0 : List Value := []
def roAsx0 : List Value := []
noncomputable def DAsx0 : Cx := cx (nuX (nuAsx0) (rX (roAsx0) (fun _ => .bool true))) (nuX_one (nuL_one (l := nuAsx0) rfl)) 1 laidE laidE_stab
def hyAsx0_c0 : LK := []
noncomputable def tbAsx0_c0 : Tab := (tbl hyAsx0_c0)
theorem runAsx0_c0 (e : Nat) : okCf (call tbAsx0_c0 3000 25 aPAsx0 ⟨lhSet hpAsx0 ((fun e : Nat => H0 e) e), 71, 0, 0⟩) (.b true) [] [] 71 81 [(46, .b ⟨29, .l [.i .i64 (.ofNat 13)], 0, 0, 0, false, false⟩)] = true := by kernel_rfl
def nuEAsx0_0 : List Value := []
def roEAsx0_0 : List Value := []
noncomputable def EAsx0_0 : Cx := cx (nuX (nuEAsx0_0) (rX (roEAsx0_0) (fun _ => .bool true))) (nuX_one (nuL_one (l := nuEAsx0_0) rfl)) 1 laidE laidE_stab
theorem cfAsx0_0 {l : LF} {h : LH} {q : Nat × AV} (hl : l.hp = some h) (hq : l.post = [q]) (hs : cfSame l h 1 71 81 = true) {th0 : LA} {sg0 : List (Nat × Nat)} (hth0 : ThOk (cx nu one 1 laidE laidE_stab) (DAsx0) th0) (h0 : (inAs th0 (sgB 71 71 sg0) aPAsx0 (l.pre.map (·.2)) && inHeap 71 71 th0 sg0 (lhSet h.pre .leaf) hpAsx0 && nodupN (numsOf 71 sg0 hpAsx0)) = true) {thx : LA} (hthx : ThOk (EAsx0_0) (cx nu one 1 laidE laidE_stab) thx) (hx : (inA thx (sgB 71 81 []) 8 q.2 (.b true) && inHeap 71 81 thx [] (lhSet [(46, .b ⟨29, .l [.i .i64 (.ofNat 13)], 0, 0, 0, false, false⟩)] .leaf) h.post && nodupN (numsOf 71 [] h.post)) = true) : CfOk (cx nu one 1 laidE laidE_stab) 25 l := by
  skip
  have ho : ∀ a' r', (a', r') ∈ hyAsx0_c0 → HOk (DAsx0) a' r' := by
    unfold hyAsx0_c0
    exact hnil
  exact cfOkX (D := DAsx0) (E := EAsx0_0) (Gf := (fun e : Nat => H0 e)) (f := 3000) (tb := tbAsx0_c0) rfl rfl rfl rfl rfl rfl hl hq hs rfl hth0 h0 hthx hx ((tabkOk _ _).hyps ho) rfl fi25_at fiB25 (.inr ⟨rfl, fun w hi => hGl (C := DAsx0) rfl rfl hi⟩) (thNil) runAsx0_c0
def aPAsx1 : List AV := [.ifc 29 (.i .i64 (.ofNat 12)), .ifc 66 (.p 44 0)]
def hpAsx1 : LE := [(44, .b ⟨29, .l [.i .i64 (.ofNat 0)], 0, 0, 0, false, false⟩)]
def nuAsx1 : List Value := []
def roAsx1 : List Value := []
noncomputable def DAsx1 : Cx := cx (nuX (nuAsx1) (rX (roAsx1) (fun _ => .bool true))) (nuX_one (nuL_one (l := nuAsx1) rfl)) 1 laidE laidE_stab
def hyAsx1_c0 : LK := []
noncomputable def tbAsx1_c0 : Tab := (tbl hyAsx1_c0)
theorem runAsx1_c0 (e : Nat) : okCf (call tbAsx1_c0 3000 25 aPAsx1 ⟨lhSet hpAsx1 ((fun e : Nat => H0 e) e), 71, 0, 0⟩) (.b true) [] [] 71 81 [(44, .b ⟨29, .l [.i .i64 (.ofNat 12)], 0, 0, 0, false, false⟩)] = true := by kernel_rfl
def nuEAsx1_0 : List Value := []
def roEAsx1_0 : List Value := []
noncomputable def EAsx1_0 : Cx := cx (nuX (nuEAsx1_0) (rX (roEAsx1_0) (fun _ => .bool true))) (nuX_one (nuL_one (l := nuEAsx1_0) rfl)) 1 laidE laidE_stab
theorem cfAsx1_0 {l : LF} {h : LH} {q : Nat × AV} (hl : l.hp = some h) (hq : l.post = [q]) (hs : cfSame l h 1 71 81 = true) {th0 : LA} {sg0 : List (Nat × Nat)} (hth0 : ThOk (cx nu one 1 laidE laidE_stab) (DAsx1) th0) (h0 : (inAs th0 (sgB 71 71 sg0) aPAsx1 (l.pre.map (·.2)) && inHeap 71 71 th0 sg0 (lhSet h.pre .leaf) hpAsx1 && nodupN (numsOf 71 sg0 hpAsx1)) = true) {thx : LA} (hthx : ThOk (EAsx1_0) (cx nu one 1 laidE laidE_stab) thx) (hx : (inA thx (sgB 71 81 []) 8 q.2 (.b true) && inHeap 71 81 thx [] (lhSet [(44, .b ⟨29, .l [.i .i64 (.ofNat 12)], 0, 0, 0, false, false⟩)] .leaf) h.post && nodupN (numsOf 71 [] h.post)) = true) : CfOk (cx nu one 1 laidE laidE_stab) 25 l := by
  skip
  have ho : ∀ a' r', (a', r') ∈ hyAsx1_c0 → HOk (DAsx1) a' r' := by
    unfold hyAsx1_c0
    exact hnil
  exact cfOkX (D := DAsx1) (E := EAsx1_0) (Gf := (fun e : Nat => H0 e)) (f := 3000) (tb := tbAsx1_c0) rfl rfl rfl rfl rfl rfl hl hq hs rfl hth0 h0 hthx hx ((tabkOk _ _).hyps ho) rfl fi25_at fiB25 (.inr ⟨rfl, fun w hi => hGl (C := DAsx1) rfl rfl hi⟩) (thNil) runAsx1_c0
def aPAsx2 : List AV := [.ifc 68 (.ag [.i .i64 (.ofNat 10), .s 18 4192413596494156358521667725059818226065505]), .ifc 66 (.p 45 0)]
def hpAsx2 : LE := [(45, .b ⟨29, .l [.i .i64 (.ofNat 0)], 0, 0, 0, false, false⟩)]
def nuAsx2 : List Value := []
def roAsx2 : List Value := []
noncomputable def DAsx2 : Cx := cx (nuX (nuAsx2) (rX (roAsx2) (fun _ => .bool true))) (nuX_one (nuL_one (l := nuAsx2) rfl)) 1 laidE laidE_stab
def hyAsx2_c0 : LK := []
noncomputable def tbAsx2_c0 : Tab := (tbl hyAsx2_c0)
theorem runAsx2_c0 (e : Nat) : okCf (call tbAsx2_c0 3000 25 aPAsx2 ⟨lhSet hpAsx2 ((fun e : Nat => H0 e) e), 71, 0, 0⟩) (.b true) [] [] 71 81 [(45, .b ⟨29, .l [.i .i64 (.ofNat 10)], 0, 0, 0, false, false⟩)] = true := by kernel_rfl
def nuEAsx2_0 : List Value := []
def roEAsx2_0 : List Value := []
noncomputable def EAsx2_0 : Cx := cx (nuX (nuEAsx2_0) (rX (roEAsx2_0) (fun _ => .bool true))) (nuX_one (nuL_one (l := nuEAsx2_0) rfl)) 1 laidE laidE_stab
theorem cfAsx2_0 {l : LF} {h : LH} {q : Nat × AV} (hl : l.hp = some h) (hq : l.post = [q]) (hs : cfSame l h 1 71 81 = true) {th0 : LA} {sg0 : List (Nat × Nat)} (hth0 : ThOk (cx nu one 1 laidE laidE_stab) (DAsx2) th0) (h0 : (inAs th0 (sgB 71 71 sg0) aPAsx2 (l.pre.map (·.2)) && inHeap 71 71 th0 sg0 (lhSet h.pre .leaf) hpAsx2 && nodupN (numsOf 71 sg0 hpAsx2)) = true) {thx : LA} (hthx : ThOk (EAsx2_0) (cx nu one 1 laidE laidE_stab) thx) (hx : (inA thx (sgB 71 81 []) 8 q.2 (.b true) && inHeap 71 81 thx [] (lhSet [(45, .b ⟨29, .l [.i .i64 (.ofNat 10)], 0, 0, 0, false, false⟩)] .leaf) h.post && nodupN (numsOf 71 [] h.post)) = true) : CfOk (cx nu one 1 laidE laidE_stab) 25 l := by
  skip
  have ho : ∀ a' r', (a', r') ∈ hyAsx2_c0 → HOk (DAsx2) a' r' := by
    unfold hyAsx2_c0
    exact hnil
  exact cfOkX (D := DAsx2) (E := EAsx2_0) (Gf := (fun e : Nat => H0 e)) (f := 3000) (tb := tbAsx2_c0) rfl rfl rfl rfl rfl rfl hl hq hs rfl hth0 h0 hthx hx ((tabkOk _ _).hyps ho) rfl fi25_at fiB25 (.inr ⟨rfl, fun w hi => hGl (C := DAsx2) rfl rfl hi⟩) (thNil) runAsx2_c0
def aPAsy0 : List AV := [.ifc 68 (.ag [.x 0, .s 35 883751524516594027940889836758751821087985845510287451484159566615753519918736505186]), .ifc 66 (.p 260 0)]
def hpAsy0 : LE := [(260, .b ⟨29, .l [.i .i64 (.ofNat 0)], 0, 0, 0, false, false⟩)]
def nuAsy0 (k : Int) : List Value := [.int .i64 (k)]
def roAsy0 (k : Int) : List Value := []
noncomputable def DAsy0 (k : Int) : Cx := cx (nuX (nuAsy0 k) (rX (roAsy0 k) (fun _ => .bool true))) (nuX_one (nuL_one (l := nuAsy0 k) rfl)) 1 laidE laidE_stab
def hyAsy0_c0 : LK := []
noncomputable def tbAsy0_c0 : Tab := (tbl hyAsy0_c0)
theorem runAsy0_c0 (e : Nat) : okCf (call tbAsy0_c0 3000 25 aPAsy0 ⟨lhSet hpAsy0 ((fun e : Nat => H0 e) e), 400, 0, 0⟩) (.b true) [(0, .x 0)] [] 400 410 [(260, .b ⟨29, .l [.x 0], 0, 0, 0, false, false⟩)] = true := by kernel_rfl
def nuEAsy0_0 (k : Int) : List Value := [.int .i64 (k)]
def roEAsy0_0 (k : Int) : List Value := []
noncomputable def EAsy0_0 (k : Int) : Cx := cx (nuX (nuEAsy0_0 k) (rX (roEAsy0_0 k) (fun _ => .bool true))) (nuX_one (nuL_one (l := nuEAsy0_0 k) rfl)) 1 laidE laidE_stab
theorem cfAsy0_0 {l : LF} {h : LH} {q : Nat × AV} (k : Int) (hl : l.hp = some h) (hq : l.post = [q]) (hs : cfSame l h 1 400 410 = true) {th0 : LA} {sg0 : List (Nat × Nat)} (hth0 : ThOk (cx nu one 1 laidE laidE_stab) (DAsy0 k) th0) (h0 : (inAs th0 (sgB 400 400 sg0) aPAsy0 (l.pre.map (·.2)) && inHeap 400 400 th0 sg0 (lhSet h.pre .leaf) hpAsy0 && nodupN (numsOf 400 sg0 hpAsy0)) = true) {thx : LA} (hthx : ThOk (EAsy0_0 k) (cx nu one 1 laidE laidE_stab) thx) (hx : (inA thx (sgB 400 410 []) 8 q.2 (.b true) && inHeap 400 410 thx [] (lhSet [(260, .b ⟨29, .l [.x 0], 0, 0, 0, false, false⟩)] .leaf) h.post && nodupN (numsOf 400 [] h.post)) = true) : CfOk (cx nu one 1 laidE laidE_stab) 25 l := by
  skip
  have ho : ∀ a' r', (a', r') ∈ hyAsy0_c0 → HOk (DAsy0 k) a' r' := by
    unfold hyAsy0_c0
    exact hnil
  exact cfOkX (D := DAsy0 k) (E := EAsy0_0 k) (Gf := (fun e : Nat => H0 e)) (f := 3000) (tb := tbAsy0_c0) rfl rfl rfl rfl rfl rfl hl hq hs rfl hth0 h0 hthx hx ((tabkOk _ _).hyps ho) rfl fi25_at fiB25 (.inr ⟨rfl, fun w hi => hGl (C := DAsy0 k) rfl rfl hi⟩) (thXv (v := .int .i64 (k)) rfl rfl (thNil)) runAsy0_c0
def aPAsy1 : List AV := [.ifc 68 (.ag [.x 0, .s 35 883751524516594027940889836758751821087985845510287451484159566615753519918736505186]), .ifc 66 (.p 302 0)]
def hpAsy1 : LE := [(302, .b ⟨29, .l [.i .i64 (.ofNat 0)], 0, 0, 0, false, false⟩)]
def nuAsy1 (k : Int) : List Value := [.int .i64 (k)]
def roAsy1 (k : Int) : List Value := []
noncomputable def DAsy1 (k : Int) : Cx := cx (nuX (nuAsy1 k) (rX (roAsy1 k) (fun _ => .bool true))) (nuX_one (nuL_one (l := nuAsy1 k) rfl)) 1 laidE laidE_stab
def hyAsy1_c0 : LK := []
noncomputable def tbAsy1_c0 : Tab := (tbl hyAsy1_c0)
theorem runAsy1_c0 (e : Nat) : okCf (call tbAsy1_c0 3000 25 aPAsy1 ⟨lhSet hpAsy1 ((fun e : Nat => H0 e) e), 400, 0, 0⟩) (.b true) [(0, .x 0)] [] 400 410 [(302, .b ⟨29, .l [.x 0], 0, 0, 0, false, false⟩)] = true := by kernel_rfl
def nuEAsy1_0 (k : Int) : List Value := [.int .i64 (k)]
def roEAsy1_0 (k : Int) : List Value := []
noncomputable def EAsy1_0 (k : Int) : Cx := cx (nuX (nuEAsy1_0 k) (rX (roEAsy1_0 k) (fun _ => .bool true))) (nuX_one (nuL_one (l := nuEAsy1_0 k) rfl)) 1 laidE laidE_stab
theorem cfAsy1_0 {l : LF} {h : LH} {q : Nat × AV} (k : Int) (hl : l.hp = some h) (hq : l.post = [q]) (hs : cfSame l h 1 400 410 = true) {th0 : LA} {sg0 : List (Nat × Nat)} (hth0 : ThOk (cx nu one 1 laidE laidE_stab) (DAsy1 k) th0) (h0 : (inAs th0 (sgB 400 400 sg0) aPAsy1 (l.pre.map (·.2)) && inHeap 400 400 th0 sg0 (lhSet h.pre .leaf) hpAsy1 && nodupN (numsOf 400 sg0 hpAsy1)) = true) {thx : LA} (hthx : ThOk (EAsy1_0 k) (cx nu one 1 laidE laidE_stab) thx) (hx : (inA thx (sgB 400 410 []) 8 q.2 (.b true) && inHeap 400 410 thx [] (lhSet [(302, .b ⟨29, .l [.x 0], 0, 0, 0, false, false⟩)] .leaf) h.post && nodupN (numsOf 400 [] h.post)) = true) : CfOk (cx nu one 1 laidE laidE_stab) 25 l := by
  skip
  have ho : ∀ a' r', (a', r') ∈ hyAsy1_c0 → HOk (DAsy1 k) a' r' := by
    unfold hyAsy1_c0
    exact hnil
  exact cfOkX (D := DAsy1 k) (E := EAsy1_0 k) (Gf := (fun e : Nat => H0 e)) (f := 3000) (tb := tbAsy1_c0) rfl rfl rfl rfl rfl rfl hl hq hs rfl hth0 h0 hthx hx ((tabkOk _ _).hyps ho) rfl fi25_at fiB25 (.inr ⟨rfl, fun w hi => hGl (C := DAsy1 k) rfl rfl hi⟩) (thXv (v := .int .i64 (k)) rfl rfl (thNil)) runAsy1_c0
def aPAsz0 : List AV := [.ifc 68 (.ag [.i .i64 (.ofNat 18), .s 23 9716693415185728232289066081575036888813743302704918382]), .ifc 66 (.p 11 0)]
def hpAsz0 : LE := [(11, .b ⟨29, .l [.i .i64 (.ofNat 0)], 0, 0, 0, false, false⟩)]
def nuAsz0 : List Value := []
def roAsz0 : List Value := []
noncomputable def DAsz0 : Cx := cx (nuX (nuAsz0) (rX (roAsz0) (fun _ => .bool true))) (nuX_one (nuL_one (l := nuAsz0) rfl)) 1 laidE laidE_stab
def hyAsz0_c0 : LK := []
noncomputable def tbAsz0_c0 : Tab := (tbl hyAsz0_c0)
theorem runAsz0_c0 (e : Nat) : okCf (call tbAsz0_c0 3000 25 aPAsz0 ⟨lhSet hpAsz0 ((fun e : Nat => H0 e) e), 400, 0, 0⟩) (.b true) [] [] 400 410 [(11, .b ⟨29, .l [.i .i64 (.ofNat 18)], 0, 0, 0, false, false⟩)] = true := by kernel_rfl
def nuEAsz0_0 : List Value := []
def roEAsz0_0 : List Value := []
noncomputable def EAsz0_0 : Cx := cx (nuX (nuEAsz0_0) (rX (roEAsz0_0) (fun _ => .bool true))) (nuX_one (nuL_one (l := nuEAsz0_0) rfl)) 1 laidE laidE_stab
theorem cfAsz0_0 {l : LF} {h : LH} {q : Nat × AV} (hl : l.hp = some h) (hq : l.post = [q]) (hs : cfSame l h 1 400 410 = true) {th0 : LA} {sg0 : List (Nat × Nat)} (hth0 : ThOk (cx nu one 1 laidE laidE_stab) (DAsz0) th0) (h0 : (inAs th0 (sgB 400 400 sg0) aPAsz0 (l.pre.map (·.2)) && inHeap 400 400 th0 sg0 (lhSet h.pre .leaf) hpAsz0 && nodupN (numsOf 400 sg0 hpAsz0)) = true) {thx : LA} (hthx : ThOk (EAsz0_0) (cx nu one 1 laidE laidE_stab) thx) (hx : (inA thx (sgB 400 410 []) 8 q.2 (.b true) && inHeap 400 410 thx [] (lhSet [(11, .b ⟨29, .l [.i .i64 (.ofNat 18)], 0, 0, 0, false, false⟩)] .leaf) h.post && nodupN (numsOf 400 [] h.post)) = true) : CfOk (cx nu one 1 laidE laidE_stab) 25 l := by
  skip
  have ho : ∀ a' r', (a', r') ∈ hyAsz0_c0 → HOk (DAsz0) a' r' := by
    unfold hyAsz0_c0
    exact hnil
  exact cfOkX (D := DAsz0) (E := EAsz0_0) (Gf := (fun e : Nat => H0 e)) (f := 3000) (tb := tbAsz0_c0) rfl rfl rfl rfl rfl rfl hl hq hs rfl hth0 h0 hthx hx ((tabkOk _ _).hyps ho) rfl fi25_at fiB25 (.inr ⟨rfl, fun w hi => hGl (C := DAsz0) rfl rfl hi⟩) (thNil) runAsz0_c0
end Go.Proofs.YtlfmfmegnenohaaDoor.cutterTells
