/- A part of the proof: an interpreter of the model's own code on partly known states, and that what it answers is what the program answers. No condition of its own. -/
import Derived.Test.YtbipkiiaajklhaaDoorS1PathTellsO12
set_option maxRecDepth 100000
set_option linter.unusedVariables false
set_option linter.unusedSimpArgs false
set_option maxHeartbeats 4000000
namespace Go.Proofs.YtbipkiiaajklhaaDoor.pathTells
open Go Go.AX Go.Proofs Go.Proofs.YtbipkiiaajklhaaDoor
variable {nu : Nat → Value} {one : ∀ i, i < 1000000 → (nu i).oneCell' = true} {E' : Cx} {x' : Ex} {e' : LA} {h' : LE}
theorem isErr {C : Cx} {i : Nat} {m : LB} (h : C.nu i = St' m) : Is C (.ifc 51 (.ag [I6 10, .x i])) (.iface 51 (.agg #[.int .i64 10, St' m])) := fun ρ v hv => by
  simp only [Rel, RelL] at hv
  obtain ⟨_, rfl, _, rfl, _, _, rfl, rfl, _, _, rfl, rfl, rfl⟩ := hv
  rw [h]; rfl
theorem cl_le (s : LB) : ((aB4 unS s).getD []).length ≤ s.length := by
  cases h : aB4 unS s with
  | none => simp
  | some a => exact clean_len (aN7 rfl) (fun r p => un_le) h
theorem dT7 : tabk.fn.get 7 = some (fI Tryd.f7 0) ∧ (fI Tryd.f7 0).body.isSome = true := ⟨rfl, by kernel_rfl⟩
def bC9 : LK := []
theorem runCodeF_0 (e : Nat) : okA (call (tbl bC9) 9000 7 [.ifc 51 (.ag [I6 10, .x 0])] ⟨H0 e , 4, 0, 0⟩) (I6 10) = true := by kernel_rfl
def bC4 (m : LB) : List Value := [St' m]
theorem pathCodeF_0 (m : LB) (w : World) (hl : aA3 w) : CwR 7 #[.iface 51 (.agg #[.int .i64 10, St' m])] w (.int .i64 10) := by
  have ho : ∀ k r, (k, r) ∈ bC9 → HOk (cx (nuL (bC4 m)) (fun j _ => aA2 (l := bC4 m) rfl j) 1 aA3 aA0) k r := by
    unfold bC9
    exact hnil
  refine runC (tb := (tbl bC9)) (ra := I6 10) rfl ((aB0 (nuL (bC4 m)) (fun j _ => aA2 (l := bC4 m) rfl j)).hyps ho) rfl dT7.1 dT7.2 (fun e => runCodeF_0 e ) (args := [.iface 51 (.agg #[.int .i64 10, St' m])]) (by simp only [RelL, Rel]; exact ⟨_, _, rfl, ⟨_, rfl, ⟨_, rfl, ⟨_, _, rfl, rfl, ⟨_, _, rfl, rfl, rfl⟩⟩⟩⟩, rfl⟩) w hl fun x hx => ?_
  simp only [Rel, RelL] at hx
  exact hx
theorem callsCodeF (m : LB) (w : World) (hl : aA3 w) : CwR 7 #[.iface 51 (.agg #[.int .i64 10, St' m])] w (.int .i64 10) := by
  rw [show (.int .i64 10 : Value) = (.int .i64 10 : Value) from by rfl]
  exact pathCodeF_0 m w hl
theorem dS9 {x0 r : AV} {m : LB} (i0 : Is (cx nu one 1 aA3 aA0) x0 (.iface 51 (.agg #[.int .i64 10, St' m]))) (hr : Den (cx nu one 1 aA3 aA0) r (.int .i64 10)) : HOk (cx nu one 1 aA3 aA0) (.call 7 [x0]) r := by
  intro ρ args ha w hl _
  simp only [RelL] at ha
  obtain ⟨v0, t0, rfl, a0, rfl⟩ := ha
  have e0 := i0 ρ _ a0; subst e0
  exact (callsCodeF m w hl).mono fun e w' he => ⟨_, he.1, hr ρ, he.2⟩
noncomputable def eM1 : Code := aL8 (Tryd.f8.body.getD .skip) 0
theorem keySm : aK6 (aC0 (Tryd.f8.body.getD .skip)) 4 0 0 = true := by kernel_rfl
def bY4 : List Nat := []
def eK5 : LA := [(0, .sr 64), (1, .sr 94), (5, .x 0)]
def eI9 : LE := [(64, .r 2000000 9 1 false), (94, .r 2000001 9 1 false)]
def aY2 (q : List LB) (i : Int) : List Value := [.int .i64 (i), .int .i64 ((q.length : Int)), St' (List.getD q (Int.toNat (i)) []), St' (List.getD q (Int.toNat (i)) []), .int .i64 (i + 1), .int .i64 ((q.length : Int))]
def cN2 (q : List LB) (i : Int) : List Value := [rwS q, rwS q]
def epSm (st : Nat × Int) : LA := eK5
def hpSm (st : Nat × Int) : LE := eI9
def nuSm (q : List LB) (st : Nat × Int) : List Value := aY2 q (st.2)
def roSm (q : List LB) (st : Nat × Int) : List Value := cN2 q (st.2)
theorem onSm (q : List LB) (st : Nat × Int) : ∀ j, (nuL (nuSm q st) j).oneCell' = true := by
  intro j
  unfold nuSm
  exact aA2 (l := aY2 q (st.2)) rfl j
theorem ebSm (st : Nat × Int) : (lfB (epSm st) && lfC bY4) = true := by
  unfold epSm
  rfl
noncomputable def DSm (q : List LB) (st : Nat × Int) (X : Nat → Value) : Cx := cx (nuX (nuSm q st) (rX (roSm q st) X)) (aA4 (onSm q st)) 1 aA3 aA0
def cU2 (q : List LB) (st : Nat × Int) : Prop := (0 ≤ (st.2)) ∧ ((st.2) ≤ (q.length : Int)) ∧ ((st.1) < 1)
abbrev CjSm (q : List LB) (tag : Nat) (i : Int) : Prop := (0 ≤ i) ∧ (i ≤ (q.length : Int)) ∧ (tag < 1)
theorem mkISm {q : List LB} {tag : Nat} {i : Int} (h : CjSm q tag i) : cU2 q (tag, i) := h
theorem unISm (q : List LB) (tag : Nat) (i : Int) (h : cU2 q (tag, i)) : (0 ≤ i) ∧ (i ≤ (q.length : Int)) ∧ (tag < 1) := h
def muSm (q : List LB) (st : Nat × Int) : Nat := (q.length - (st.2).toNat)
abbrev RHSm (q : List LB) (E' : Cx) (ex' : Ex) (epx' : LA) (hpx' : LE) (st : Nat × Int) (X : Nat → Value) : Prop := aC3 E' eM1 bY4 26 ex' 4 164 166 166 epSm hpSm epx' hpx' (cU2 q) (muSm q) (DSm q) st X
noncomputable abbrev dV0 (h : LK) (x : Ex) (th : LA) (sg : List (Nat × Nat)) (m : Nat) (ep : LA) (hp : LE) : Bool := aL4 (code (tbl h) 900 [] eM1 (aH4 (aE4 eK5 bY4) 26) ⟨aD1 eI9 .leaf, 166, 0, 0⟩) x bY4 26 166 th sg 164 m ep hp
theorem stSm_0 {q : List LB} {i : Int} {X : Nat → Value} {h : LK} (y : Nat × Int) {th : LA} {sg : List (Nat × Nat)} (ho : ∀ a' r', (a', r') ∈ h → HOk (cx (nuX (aY2 q i) (rX (cN2 q i) X)) (aA4 (aA2 (l := aY2 q i) rfl)) 1 aA3 aA0) a' r') (hy : cU2 q y) (lt : muSm q y < muSm q (0, i)) (ht : ThOk (cx (nuX (aY2 q i) (rX (cN2 q i) X)) (aA4 (aA2 (l := aY2 q i) rfl)) 1 aA3 aA0) (DSm q y X) th) (run : dV0 h .normal th sg 166 (epSm y) (hpSm y) = true) : RHSm q E' x' e' h' (0, i) X :=
  aC3.next (tb := tbl h) (L := []) (f := 900) y ((aB0 _ _).hyps ho) (LpOk.nil _) rfl hy lt ht run
theorem lvSm_0 {q : List LB} {i : Int} {X : Nat → Value} {h : LK} {th : LA} {sg : List (Nat × Nat)} (hne : exB x' .normal = false) (ho : ∀ a' r', (a', r') ∈ h → HOk (cx (nuX (aY2 q i) (rX (cN2 q i) X)) (aA4 (aA2 (l := aY2 q i) rfl)) 1 aA3 aA0) a' r') (ht : ThOk (cx (nuX (aY2 q i) (rX (cN2 q i) X)) (aA4 (aA2 (l := aY2 q i) rfl)) 1 aA3 aA0) E' th) (run : dV0 h x' th sg 166 e' h' = true) : RHSm q E' x' e' h' (0, i) X :=
  aC3.leave (tb := tbl h) (L := []) (f := 900) ((aB0 _ _).hyps ho) (LpOk.nil _) rfl hne ht run
def dB4 : LK := [(.rl (.x 2000000) 1, .x 1), (.bin .lss (.x 0) (.x 1), .b true), (.el (.x 2000000) (.x 0) 1 0, .x 2), (.el (.x 2000001) (.x 0) 1 0, .x 3), (.bin .neq (.x 2) (.x 3), .b false), (.bin .add (.x 0) (I6 1), .x 4)]
theorem runSm_p0 : dV0 dB4 .normal [(0, .x 4), (2000000, .x 2000000), (2000001, .x 2000001)] [] 166 eK5 eI9 = true := by kernel_rfl
def dB3 : LK := [(.rl (.x 2000000) 1, .x 5), (.bin .lss (.x 0) (.x 5), .b false)]
theorem runSm_p1 : dV0 dB3 (.exit 0) [] [] 166 [] [] = true := by kernel_rfl
section
variable {q : List LB} (c0 : q.length ≤ 1000) {i : Int} {X : Nat → Value}
include c0
theorem nxSm_p0 (hI : cU2 q (0, i)) (h0 : i < (q.length : Int)) : RHSm q E' x' e' h' (0, i) X := by
  obtain ⟨i0, i1, it⟩ := unISm q 0 i hI
  refine stSm_0 (h := dB4) (0, (i + 1)) ?_ (mkISm ⟨by omega, by omega, by omega⟩) (by show q.length - (i + 1).toNat < q.length - i.toNat; omega) (thXi (b := ((i + 1))) rfl rfl (by omega) (thXv (v := rwS q) rfl rfl (thXv (v := rwS q) rfl rfl (aA6)))) runSm_p0
  unfold dB4
  exact hc (kRl (isX rfl) (denX rfl) (by first | omega | (simp <;> omega))) <|hc (ltT rfl rfl (by omega)) <|hc (kEl (j := (Int.toNat (i))) (isX rfl) (isX rfl) (denX rfl) (by omega) (by first | omega | (simp <;> omega))) <|hc (kEl (j := (Int.toNat (i))) (isX rfl) (isX rfl) (denX rfl) (by omega) (by first | omega | (simp <;> omega))) <|hc (kNeS (isX rfl) (isX rfl) (bnF (decide_eq_true rfl))) <|hc (adC rfl rfl (by omega)) <|hnil
end
def eF7 (q : List LB) : List Value := []
def roESm_0 (q : List LB) : List Value := []
noncomputable def ESm_0 (q : List LB) : Cx := cx (nuX (eF7 q) (rX (roESm_0 q) (fun _ => .bool true))) (aA4 (aA2 (l := eF7 q) rfl)) 1 aA3 aA0
theorem roundsSm_0 (q : List LB) (c0 : q.length ≤ 1000) (st : Nat × Int) (X : Nat → Value) (hI : cU2 q st) : RHSm q (ESm_0 q) (.exit 0) [] [] st X := by
  obtain ⟨tag, i⟩ := st
  have hI0 := hI
  obtain ⟨i0, i1, it⟩ := unISm q tag i hI
  obtain rfl : tag = 0 := by omega
  skip
  by_cases h0 : i < (q.length : Int)
  · exact nxSm_p0 c0 hI0 h0
  · skip
    refine lvSm_0 (h := dB3) rfl ?_ (aA6) runSm_p1
    unfold dB3
    exact hc (kRl (isX rfl) (denX rfl) (by first | omega | (simp <;> omega))) <|hc (ltF rfl rfl (by omega)) <|hnil
theorem dR2 {l : LF} {h : LH} (q : List LB) (c0 : q.length ≤ 1000) (st : Nat × Int) (hI : cU2 q st) (hl : l.hp = some h) (hs : aF3 l h 26 bY4 (.exit 0) 4 164 166 = true) {th0 : LA} {sg0 : List (Nat × Nat)} (hth0 : ∀ X, ThOk (cx nu one 1 aA3 aA0) (DSm q st X) th0) (h0 : aD9 l h 26 164 166 th0 sg0 (epSm st) (hpSm st) = true) {thx : LA} (hthx : ThOk (ESm_0 q) (cx nu one 1 aA3 aA0) thx) (hx : aF5 l h 26 164 166 thx [] [] = true) : LfOk (cx nu one 1 aA3 aA0) eM1 l :=
  aL5 (E := ESm_0 q) (cU2 q) (muSm q) (DSm q) (fun _ _ => rfl) (fun _ _ => rfl) (fun _ _ => rfl) (fun st X t ht => aD3.trans (aE2 ((by decide : ∀ t, t ∈ bY4 → t < 1000000) t ht))) rfl rfl rfl hl hs ebSm rfl rfl st hI hth0 h0 hthx hx (roundsSm_0 q c0)
noncomputable def fi3 : FI := (tabk.fn.get 3).getD default
theorem dT9 : tabk.fn.get 3 = some fi3 := by kernel_rfl
theorem fi3_body : fi3.body = some (Tryd.f3.body.getD .skip) := by kernel_rfl
theorem fiB3 : fi3.body.isSome = true := by rw [fi3_body]; rfl
theorem cfA3 : (aC0 (Tryd.f3.body.getD .skip)).all (fun b => !(aM1 (Go.AX.keyOf b) 8888888)) = true := by kernel_rfl
noncomputable def fi8 : FI := (tabk.fn.get 8).getD default
theorem fi8_at : tabk.fn.get 8 = some fi8 := by kernel_rfl
theorem cK3 : fi8.body = some (Tryd.f8.body.getD .skip) := by kernel_rfl
theorem fiB8 : fi8.body.isSome = true := by rw [cK3]; rfl
theorem cfA8 : (aC0 (Tryd.f8.body.getD .skip)).all (fun b => !(aM1 (Go.AX.keyOf b) 8888888)) = true := by kernel_rfl
end Go.Proofs.YtbipkiiaajklhaaDoor.pathTells
