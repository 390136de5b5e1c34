/- A part of the proof: an interpreter of the model's own code on partly known states, and that what it answers is what the program answers. No condition of its own. -/
import Derived.Test.YtlfmfmegnenohaaDoorG1CutterStopsO5
set_option maxRecDepth 100000
set_option linter.unusedVariables false
set_option linter.unusedSimpArgs false
set_option maxHeartbeats 4000000
namespace Go.Proofs.YtlfmfmegnenohaaDoor.cutterStops
open Go Go.AX Go.Proofs Go.Proofs.YtlfmfmegnenohaaDoor
variable {nu : Nat → Value} {one : ∀ i, i < 1000000 → (nu i).oneCell' = true} {E' : Cx} {x' : Ex} {e' : LA} {h' : LE}
noncomputable def bodyCe : Code := loopNo (Tryd.f19.body.getD .skip) 0
theorem keyCe : oneKey (loopsOf (Tryd.f19.body.getD .skip)) 2 0 0 = true := by kernel_rfl
def keepCe : List Nat := []
def epCe_0 : LA := [(0, .p 2 0), (1, .x 0), (7, .nils)]
def hpCe_0 : LE := [(2, .b ⟨53, .l [.i .i64 (.ofNat 200), .nils, .i .i64 (.ofNat 0), .b false], 0, 0, 0, false, false⟩)]
def nuCe_0 (u : Nat) : List Value := [St' ([] : LB), St' ([] : LB)]
def roCe_0 (u : Nat) : List Value := [rwS ([] : List LB)]
def epCe (st : Nat × Nat) : LA := epCe_0
def hpCe (st : Nat × Nat) : LE := hpCe_0
def nuCe (st : Nat × Nat) : List Value := nuCe_0 (st.2)
def roCe (st : Nat × Nat) : List Value := roCe_0 (st.2)
theorem onCe (st : Nat × Nat) : ∀ j, (nuL (nuCe st) j).oneCell' = true := by
  intro j
  unfold nuCe
  exact nuL_one (l := nuCe_0 (st.2)) rfl j
theorem ebCe (st : Nat × Nat) : (lfB (epCe st) && lfC keepCe) = true := by
  unfold epCe
  rfl
noncomputable def DCe (st : Nat × Nat) (X : Nat → Value) : Cx := cx (nuX (nuCe st) (rX (roCe st) X)) (nuX_one (onCe st)) 1 laidE laidE_stab
def InvCe (st : Nat × Nat) : Prop := (True) ∧ ((st.1) < 1)
abbrev CjCe (tag : Nat) (u : Nat) : Prop := (True) ∧ (tag < 1)
theorem mkICe (tag : Nat) (u : Nat) (h : CjCe tag u) : InvCe (tag, u) := h
theorem unICe (tag : Nat) (u : Nat) (h : InvCe (tag, u)) : (True) ∧ (tag < 1) := h
def muCe (st : Nat × Nat) : Nat := 0
abbrev RHCe (E' : Cx) (ex' : Ex) (epx' : LA) (hpx' : LE) (st : Nat × Nat) (X : Nat → Value) : Prop := RoundH E' bodyCe keepCe 38 ex' 1 20 20 80 epCe hpCe epx' hpx' (InvCe) (muCe) (DCe) st X
noncomputable abbrev RNCe_0 (h : LK) (x : Ex) (th : LA) (sg : List (Nat × Nat)) (m : Nat) (ep : LA) (hp : LE) : Bool := okRdH (code (tbl h) 4000 [] bodyCe (envOf (headOf epCe_0 keepCe) 38) ⟨lhSet hpCe_0 .leaf, 20, 0, 0⟩) x keepCe 38 80 th sg 20 m ep hp
theorem stCe_0 (u : Nat) {X : Nat → Value} {h : LK} (y : Nat × Nat) {th : LA} {sg : List (Nat × Nat)} (ho : ∀ a' r', (a', r') ∈ h → HOk (cx (nuX (nuCe_0 u) (rX (roCe_0 u) X)) (nuX_one (nuL_one (l := nuCe_0 u) rfl)) 1 laidE laidE_stab) a' r') (hy : InvCe y) (lt : muCe y < muCe (0, u)) (ht : ThOk (cx (nuX (nuCe_0 u) (rX (roCe_0 u) X)) (nuX_one (nuL_one (l := nuCe_0 u) rfl)) 1 laidE laidE_stab) (DCe y X) th) (run : RNCe_0 h .normal th sg 20 (epCe y) (hpCe y) = true) : RHCe E' x' e' h' (0, u) X :=
  RoundH.next (tb := tbl h) (L := []) (f := 4000) y ((tabkOk _ _).hyps ho) (LpOk.nil _) rfl hy lt ht run
theorem lvCe_0 (u : Nat) {X : Nat → Value} {h : LK} {th : LA} {sg : List (Nat × Nat)} (hne : exB x' .normal = false) (ho : ∀ a' r', (a', r') ∈ h → HOk (cx (nuX (nuCe_0 u) (rX (roCe_0 u) X)) (nuX_one (nuL_one (l := nuCe_0 u) rfl)) 1 laidE laidE_stab) a' r') (ht : ThOk (cx (nuX (nuCe_0 u) (rX (roCe_0 u) X)) (nuX_one (nuL_one (l := nuCe_0 u) rfl)) 1 laidE laidE_stab) E' th) (run : RNCe_0 h x' th sg 80 e' h' = true) : RHCe E' x' e' h' (0, u) X :=
  RoundH.leave (tb := tbl h) (L := []) (f := 4000) ((tabkOk _ _).hyps ho) (LpOk.nil _) rfl hne ht run
def hyCe_p0 : LK := [(.rn, .x 2000000), (.bytes [], .x 1), (.len (.x 0), .i .i64 (.ofNat 0)), (.bin .neq (.x 0) (.s 0 0), .b false)]
theorem runCe_p0 : RNCe_0 hyCe_p0 .ret [(0, .x 0)] [] 80 [(4, .nils), (5, .x 0), (6, .ni)] [(2, .b ⟨53, .l [.i .i64 (.ofNat 200), .nils, .i .i64 (.ofNat 0), .b false], 0, 0, 0, false, false⟩)] = true := by kernel_rfl
def nuECe_0 : List Value := [St' ([] : LB)]
def roECe_0 : List Value := []
noncomputable def ECe_0 : Cx := cx (nuX (nuECe_0) (rX (roECe_0) (fun _ => .bool true))) (nuX_one (nuL_one (l := nuECe_0) rfl)) 1 laidE laidE_stab
theorem roundsCe_0 (st : Nat × Nat) (X : Nat → Value) (hI : InvCe st) : RHCe (ECe_0) .ret [(4, .nils), (5, .x 0), (6, .ni)] [(2, .b ⟨53, .l [.i .i64 (.ofNat 200), .nils, .i .i64 (.ofNat 0), .b false], 0, 0, 0, false, false⟩)] st X := by
  obtain ⟨tag, u⟩ := st
  have hI0 := hI
  obtain ⟨i0, it⟩ := unICe tag u hI
  obtain rfl : tag = 0 := by omega
  skip
  skip
  refine lvCe_0 u (h := hyCe_p0) rfl ?_ (thXv (v := St' ([] : LB)) rfl rfl (thNil)) runCe_p0
  unfold hyCe_p0
  exact hc (kRn (denX rfl)) <|
   hc (kBytesB (bs := ([] : LB)) .nil (denX rfl)) <|
   hc (kLenE (isX rfl) (denZ (m := 0) rfl) rfl) <|
   hc (kNeS (isX rfl) (isSx (l := ([] : LB)) 0 0 rfl) (bnF (decide_eq_true rfl))) <|
   hnil
theorem lfOkCe_0 {l : LF} {h : LH} (st : Nat × Nat) (hI : InvCe st) (hl : l.hp = some h) (hs : lfSame l h 38 keepCe .ret 1 20 80 = true) {th0 : LA} {sg0 : List (Nat × Nat)} (hth0 : ∀ X, ThOk (cx nu one 1 laidE laidE_stab) (DCe st X) th0) (h0 : startOk l h 38 20 20 th0 sg0 (epCe st) (hpCe st) = true) {thx : LA} (hthx : ThOk (ECe_0) (cx nu one 1 laidE laidE_stab) thx) (hx : exitOk l h 38 20 80 thx [(4, .nils), (5, .x 0), (6, .ni)] [(2, .b ⟨53, .l [.i .i64 (.ofNat 200), .nils, .i .i64 (.ofNat 0), .b false], 0, 0, 0, false, false⟩)] = true) : LfOk (cx nu one 1 laidE laidE_stab) bodyCe l :=
  lfOkX (E := ECe_0) (InvCe) (muCe) (DCe) (fun _ _ => rfl) (fun _ _ => rfl) (fun _ _ => rfl) (fun st X t ht => nuX_keep.trans (rX_keep ((by decide : ∀ t, t ∈ keepCe → t < 1000000) t ht))) rfl rfl rfl hl hs ebCe rfl rfl st hI hth0 h0 hthx hx (roundsCe_0)
end Go.Proofs.YtlfmfmegnenohaaDoor.cutterStops
