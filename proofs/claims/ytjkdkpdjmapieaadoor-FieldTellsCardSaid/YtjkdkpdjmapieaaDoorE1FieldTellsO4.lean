/- A part of the proof: what an interpreter answers on partly known states is what the program answers. No condition. -/
import Derived.Test.YtjkdkpdjmapieaaDoorE1FieldTellsO3
set_option maxRecDepth 100000
set_option linter.unusedVariables false
set_option linter.unusedSimpArgs false
set_option maxHeartbeats 4000000
namespace Go.Proofs.YtjkdkpdjmapieaaDoor.fieldTells
open Go Go.AX Go.Proofs Go.Proofs.YtjkdkpdjmapieaaDoor
variable {nu : Nat → Value} {one : ∀ i, i < 1000000 → (nu i).oneCell' = true} {E' : Cx} {x' : Ex} {e' : LA} {h' : LE}
def cY (a v : LB) : Bool := bY a && (cA v && (decide (a.length ≤ 64) && (decide (v.length ≤ 512) && decide (aT v = v))))
theorem cR (l : LB) : (aT l).length ≤ l.length := Nat.le_trans (aW6 _) (aW7 _)
theorem isAg2 {C : Cx} {x y : AV} {u v : Value} (hx : Is C x u) (hy : Is C y v) : Is C (.ag [x, y]) (.agg #[u, v]) := fun ρ w h => by
  simp only [Rel, aF] at h
  obtain ⟨l, rfl, a, t, rfl, h1, b, u, rfl, h2, rfl⟩ := h
  rw [hx ρ _ h1, hy ρ _ h2]
theorem gV : bB.fn.get 6 = some (fI Tryd.f6 0) ∧ (fI Tryd.f6 0).body.isSome = true := ⟨rfl, by kernel_rfl⟩
def zR : LK := [(.call 38 [.x 0], .b true), (.call 39 [.x 1], .b true), (.len (.x 0), .x 2), (.bin .gtr (.x 2) (I6 64), .b false), (.len (.x 1), .x 3), (.bin .gtr (.x 3) (I6 512), .b false), (.call 40 [.x 1, .s 2 2336], .x 4), (.bin .eql (.x 4) (.x 1), .b true)]
theorem runIsA_0 (e : Nat) : okA (call (aV zR) 9000 6 [.ag [.x 0, .x 1]] ⟨H0 e , 4, 0, 0⟩) (.b true) = true := by kernel_rfl
def xT (a v : LB) : List Value := [St' a, St' v, .int .i64 ((a.length : Int)), .int .i64 ((v.length : Int)), St' (aT v)]
theorem pathIsA_0 (a v : LB) (b0 : a.length ≤ 140737488355328) (b1 : v.length ≤ 140737488355328) (h0 : bY a = true) (h1 : cA v = true) (h2 : ¬ (64 < (a.length : Int))) (h3 : ¬ (512 < (v.length : Int))) (h4 : (aT v) = v) (w : World) (hl : aC w) : bN 6 #[.agg #[St' a, St' v]] w (.bool true) := by
  have := cR v
  have ho : ∀ k r, (k, r) ∈ zR → aL (cx (ai (xT a v)) (fun j _ => aQ (l := xT a v) rfl j) 1 aC aG) k r := by
    unfold zR
    exact hc (gQ (s := a) (aA rfl) (cM (by assumption))) <|hc (jq (s := v) (aA rfl) (cM (by assumption))) <|hc (au rfl rfl (by omega)) <|hc (bq rfl (by omega)) <|hc (au rfl rfl (by omega)) <|hc (bq rfl (by omega)) <|hc (eF (s := v) (aA rfl) (bQ (l := [u8 32, u8 9]) 2 2336 rfl) (aE (congrArg (fun l => St' l) ((dn _).symm)))) <|hc (cH (aA rfl) (aA rfl) (by first | exact decide_eq_true rfl | exact decide_eq_true ‹_› | exact decide_eq_false ‹_›)) <|hnil
  refine bp (tb := (aV zR)) (ra := .b true) rfl ((ae (ai (xT a v)) (fun j _ => aQ (l := xT a v) rfl j)).hyps ho) rfl gV.1 gV.2 (fun e => runIsA_0 e ) (args := [.agg #[St' a, St' v]]) (by simp only [aF, Rel]; exact ⟨_, _, rfl, ⟨_, rfl, ⟨_, _, rfl, rfl, ⟨_, _, rfl, rfl, rfl⟩⟩⟩, rfl⟩) w hl fun x hx => ?_
  simp only [Rel, aF] at hx
  exact hx
def zQ : LK := [(.call 38 [.x 0], .b false)]
theorem runIsA_1 (e : Nat) : okA (call (aV zQ) 9000 6 [.ag [.x 0, .x 1]] ⟨H0 e , 4, 0, 0⟩) (.b false) = true := by kernel_rfl
def xS (a v : LB) : List Value := [St' a, St' v]
theorem pathIsA_1 (a v : LB) (b0 : a.length ≤ 140737488355328) (b1 : v.length ≤ 140737488355328) (h0 : ¬ (bY a = true)) (w : World) (hl : aC w) : bN 6 #[.agg #[St' a, St' v]] w (.bool false) := by
  have ho : ∀ k r, (k, r) ∈ zQ → aL (cx (ai (xS a v)) (fun j _ => aQ (l := xS a v) rfl j) 1 aC aG) k r := by
    unfold zQ
    exact hc (gQ (s := a) (aA rfl) (dh (by assumption))) <|hnil
  refine bp (tb := (aV zQ)) (ra := .b false) rfl ((ae (ai (xS a v)) (fun j _ => aQ (l := xS a v) rfl j)).hyps ho) rfl gV.1 gV.2 (fun e => runIsA_1 e ) (args := [.agg #[St' a, St' v]]) (by simp only [aF, Rel]; exact ⟨_, _, rfl, ⟨_, rfl, ⟨_, _, rfl, rfl, ⟨_, _, rfl, rfl, rfl⟩⟩⟩, rfl⟩) w hl fun x hx => ?_
  simp only [Rel, aF] at hx
  exact hx
def zP : LK := [(.call 38 [.x 0], .b true), (.call 39 [.x 1], .b false)]
theorem runIsA_2 (e : Nat) : okA (call (aV zP) 9000 6 [.ag [.x 0, .x 1]] ⟨H0 e , 4, 0, 0⟩) (.b false) = true := by kernel_rfl
def xR (a v : LB) : List Value := [St' a, St' v]
theorem pathIsA_2 (a v : LB) (b0 : a.length ≤ 140737488355328) (b1 : v.length ≤ 140737488355328) (h0 : bY a = true) (h1 : ¬ (cA v = true)) (w : World) (hl : aC w) : bN 6 #[.agg #[St' a, St' v]] w (.bool false) := by
  have ho : ∀ k r, (k, r) ∈ zP → aL (cx (ai (xR a v)) (fun j _ => aQ (l := xR a v) rfl j) 1 aC aG) k r := by
    unfold zP
    exact hc (gQ (s := a) (aA rfl) (cM (by assumption))) <|hc (jq (s := v) (aA rfl) (dh (by assumption))) <|hnil
  refine bp (tb := (aV zP)) (ra := .b false) rfl ((ae (ai (xR a v)) (fun j _ => aQ (l := xR a v) rfl j)).hyps ho) rfl gV.1 gV.2 (fun e => runIsA_2 e ) (args := [.agg #[St' a, St' v]]) (by simp only [aF, Rel]; exact ⟨_, _, rfl, ⟨_, rfl, ⟨_, _, rfl, rfl, ⟨_, _, rfl, rfl, rfl⟩⟩⟩, rfl⟩) w hl fun x hx => ?_
  simp only [Rel, aF] at hx
  exact hx
def zO : LK := [(.call 38 [.x 0], .b true), (.call 39 [.x 1], .b true), (.len (.x 0), .x 2), (.bin .gtr (.x 2) (I6 64), .b true)]
theorem runIsA_3 (e : Nat) : okA (call (aV zO) 9000 6 [.ag [.x 0, .x 1]] ⟨H0 e , 4, 0, 0⟩) (.b false) = true := by kernel_rfl
def xQ (a v : LB) : List Value := [St' a, St' v, .int .i64 ((a.length : Int))]
theorem pathIsA_3 (a v : LB) (b0 : a.length ≤ 140737488355328) (b1 : v.length ≤ 140737488355328) (h0 : bY a = true) (h1 : cA v = true) (h2 : 64 < (a.length : Int)) (w : World) (hl : aC w) : bN 6 #[.agg #[St' a, St' v]] w (.bool false) := by
  have ho : ∀ k r, (k, r) ∈ zO → aL (cx (ai (xQ a v)) (fun j _ => aQ (l := xQ a v) rfl j) 1 aC aG) k r := by
    unfold zO
    exact hc (gQ (s := a) (aA rfl) (cM (by assumption))) <|hc (jq (s := v) (aA rfl) (cM (by assumption))) <|hc (au rfl rfl (by omega)) <|hc (dU rfl (by omega)) <|hnil
  refine bp (tb := (aV zO)) (ra := .b false) rfl ((ae (ai (xQ a v)) (fun j _ => aQ (l := xQ a v) rfl j)).hyps ho) rfl gV.1 gV.2 (fun e => runIsA_3 e ) (args := [.agg #[St' a, St' v]]) (by simp only [aF, Rel]; exact ⟨_, _, rfl, ⟨_, rfl, ⟨_, _, rfl, rfl, ⟨_, _, rfl, rfl, rfl⟩⟩⟩, rfl⟩) w hl fun x hx => ?_
  simp only [Rel, aF] at hx
  exact hx
def zN : LK := [(.call 38 [.x 0], .b true), (.call 39 [.x 1], .b true), (.len (.x 0), .x 2), (.bin .gtr (.x 2) (I6 64), .b false), (.len (.x 1), .x 3), (.bin .gtr (.x 3) (I6 512), .b true)]
theorem runIsA_4 (e : Nat) : okA (call (aV zN) 9000 6 [.ag [.x 0, .x 1]] ⟨H0 e , 4, 0, 0⟩) (.b false) = true := by kernel_rfl
def xP (a v : LB) : List Value := [St' a, St' v, .int .i64 ((a.length : Int)), .int .i64 ((v.length : Int))]
theorem pathIsA_4 (a v : LB) (b0 : a.length ≤ 140737488355328) (b1 : v.length ≤ 140737488355328) (h0 : bY a = true) (h1 : cA v = true) (h2 : ¬ (64 < (a.length : Int))) (h3 : 512 < (v.length : Int)) (w : World) (hl : aC w) : bN 6 #[.agg #[St' a, St' v]] w (.bool false) := by
  have ho : ∀ k r, (k, r) ∈ zN → aL (cx (ai (xP a v)) (fun j _ => aQ (l := xP a v) rfl j) 1 aC aG) k r := by
    unfold zN
    exact hc (gQ (s := a) (aA rfl) (cM (by assumption))) <|hc (jq (s := v) (aA rfl) (cM (by assumption))) <|hc (au rfl rfl (by omega)) <|hc (bq rfl (by omega)) <|hc (au rfl rfl (by omega)) <|hc (dU rfl (by omega)) <|hnil
  refine bp (tb := (aV zN)) (ra := .b false) rfl ((ae (ai (xP a v)) (fun j _ => aQ (l := xP a v) rfl j)).hyps ho) rfl gV.1 gV.2 (fun e => runIsA_4 e ) (args := [.agg #[St' a, St' v]]) (by simp only [aF, Rel]; exact ⟨_, _, rfl, ⟨_, rfl, ⟨_, _, rfl, rfl, ⟨_, _, rfl, rfl, rfl⟩⟩⟩, rfl⟩) w hl fun x hx => ?_
  simp only [Rel, aF] at hx
  exact hx
def zM : LK := [(.call 38 [.x 0], .b true), (.call 39 [.x 1], .b true), (.len (.x 0), .x 2), (.bin .gtr (.x 2) (I6 64), .b false), (.len (.x 1), .x 3), (.bin .gtr (.x 3) (I6 512), .b false), (.call 40 [.x 1, .s 2 2336], .x 4), (.bin .eql (.x 4) (.x 1), .b false)]
theorem runIsA_5 (e : Nat) : okA (call (aV zM) 9000 6 [.ag [.x 0, .x 1]] ⟨H0 e , 4, 0, 0⟩) (.b false) = true := by kernel_rfl
def xO (a v : LB) : List Value := [St' a, St' v, .int .i64 ((a.length : Int)), .int .i64 ((v.length : Int)), St' (aT v)]
theorem pathIsA_5 (a v : LB) (b0 : a.length ≤ 140737488355328) (b1 : v.length ≤ 140737488355328) (h0 : bY a = true) (h1 : cA v = true) (h2 : ¬ (64 < (a.length : Int))) (h3 : ¬ (512 < (v.length : Int))) (h4 : ¬ ((aT v) = v)) (w : World) (hl : aC w) : bN 6 #[.agg #[St' a, St' v]] w (.bool false) := by
  have := cR v
  have ho : ∀ k r, (k, r) ∈ zM → aL (cx (ai (xO a v)) (fun j _ => aQ (l := xO a v) rfl j) 1 aC aG) k r := by
    unfold zM
    exact hc (gQ (s := a) (aA rfl) (cM (by assumption))) <|hc (jq (s := v) (aA rfl) (cM (by assumption))) <|hc (au rfl rfl (by omega)) <|hc (bq rfl (by omega)) <|hc (au rfl rfl (by omega)) <|hc (bq rfl (by omega)) <|hc (eF (s := v) (aA rfl) (bQ (l := [u8 32, u8 9]) 2 2336 rfl) (aE (congrArg (fun l => St' l) ((dn _).symm)))) <|hc (cH (aA rfl) (aA rfl) (by first | exact decide_eq_true rfl | exact decide_eq_true ‹_› | exact decide_eq_false ‹_›)) <|hnil
  refine bp (tb := (aV zM)) (ra := .b false) rfl ((ae (ai (xO a v)) (fun j _ => aQ (l := xO a v) rfl j)).hyps ho) rfl gV.1 gV.2 (fun e => runIsA_5 e ) (args := [.agg #[St' a, St' v]]) (by simp only [aF, Rel]; exact ⟨_, _, rfl, ⟨_, rfl, ⟨_, _, rfl, rfl, ⟨_, _, rfl, rfl, rfl⟩⟩⟩, rfl⟩) w hl fun x hx => ?_
  simp only [Rel, aF] at hx
  exact hx
theorem callsIsA (a v : LB) (b0 : a.length ≤ 140737488355328) (b1 : v.length ≤ 140737488355328) (w : World) (hl : aC w) : bN 6 #[.agg #[St' a, St' v]] w (.bool (cY a v)) := by
  by_cases h0 : bY a = true
  · by_cases h1 : cA v = true
    · by_cases h2 : 64 < (a.length : Int)
      · rw [show (.bool (cY a v) : Value) = (.bool false : Value) from by unfold cY; (by_cases q1 : a.length ≤ 64 <;> by_cases q2 : v.length ≤ 512 <;> first | omega | (simp [*]; done))]
        exact pathIsA_3 a v b0 b1 h0 h1 h2 w hl
      · by_cases h3 : 512 < (v.length : Int)
        · rw [show (.bool (cY a v) : Value) = (.bool false : Value) from by unfold cY; (by_cases q1 : a.length ≤ 64 <;> by_cases q2 : v.length ≤ 512 <;> first | omega | (simp [*]; done))]
          exact pathIsA_4 a v b0 b1 h0 h1 h2 h3 w hl
        · by_cases h4 : (aT v) = v
          · rw [show (.bool (cY a v) : Value) = (.bool true : Value) from by unfold cY; (by_cases q1 : a.length ≤ 64 <;> by_cases q2 : v.length ≤ 512 <;> first | omega | (simp [*]; done))]
            exact pathIsA_0 a v b0 b1 h0 h1 h2 h3 h4 w hl
          · rw [show (.bool (cY a v) : Value) = (.bool false : Value) from by unfold cY; (by_cases q1 : a.length ≤ 64 <;> by_cases q2 : v.length ≤ 512 <;> first | omega | (simp [*]; done))]
            exact pathIsA_5 a v b0 b1 h0 h1 h2 h3 h4 w hl
    · rw [show (.bool (cY a v) : Value) = (.bool false : Value) from by unfold cY; (by_cases q1 : a.length ≤ 64 <;> by_cases q2 : v.length ≤ 512 <;> first | omega | (simp [*]; done))]
      exact pathIsA_2 a v b0 b1 h0 h1 w hl
  · rw [show (.bool (cY a v) : Value) = (.bool false : Value) from by unfold cY; (by_cases q1 : a.length ≤ 64 <;> by_cases q2 : v.length ≤ 512 <;> first | omega | (simp [*]; done))]
    exact pathIsA_1 a v b0 b1 h0 w hl
theorem hokIsA {x0 r : AV} {a v : LB} (i0 : Is (cx nu one 1 aC aG) x0 (.agg #[St' a, St' v])) (hr : Den (cx nu one 1 aC aG) r (.bool (cY a v))) (b0 : a.length ≤ 140737488355328 := by omega) (b1 : v.length ≤ 140737488355328 := by omega) : aL (cx nu one 1 aC aG) (.call 6 [x0]) r := by
  intro ρ args ha w hl _
  simp only [aF] at ha
  obtain ⟨v0, t0, rfl, a0, rfl⟩ := ha
  have e0 := i0 ρ _ a0; subst e0
  exact (callsIsA a v b0 b1 w hl).mono fun e w' he => ⟨_, he.1, hr ρ, he.2⟩
theorem gU : bB.fn.get 11 = some (fI Tryd.f11 0) ∧ (fI Tryd.f11 0).body.isSome = true := ⟨rfl, by kernel_rfl⟩
def zL : LK := [(.call 29 [.x 0], .b true), (.len (.x 0), .x 2), (.bin .leq (.x 2) (I6 64), .b true), (.len (.x 1), .x 3), (.bin .leq (.x 3) (I6 512), .b true), (.call 30 [.x 1], .b true), (.call 31 [.x 1], .x 4), (.bin .eql (.x 4) (.x 1), .b true)]
theorem runIsR_0 (e : Nat) : okA (call (aV zL) 9000 11 [.ag [.x 0, .x 1]] ⟨H0 e , 4, 0, 0⟩) (.b true) = true := by kernel_rfl
def xN (a v : LB) : List Value := [St' a, St' v, .int .i64 ((a.length : Int)), .int .i64 ((v.length : Int)), St' (aT v)]
theorem pathIsR_0 (a v : LB) (b0 : a.length ≤ 140737488355328) (b1 : v.length ≤ 140737488355328) (h0 : bY a = true) (h1 : (a.length : Int) ≤ 64) (h2 : (v.length : Int) ≤ 512) (h3 : cA v = true) (h4 : (aT v) = v) (w : World) (hl : aC w) : bN 11 #[.agg #[St' a, St' v]] w (.bool true) := by
  have := cR v
  have ho : ∀ k r, (k, r) ∈ zL → aL (cx (ai (xN a v)) (fun j _ => aQ (l := xN a v) rfl j) 1 aC aG) k r := by
    unfold zL
    exact hc (hZ (s := a) (aA rfl) (cM (by assumption))) <|hc (au rfl rfl (by omega)) <|hc (jg rfl (by omega)) <|hc (au rfl rfl (by omega)) <|hc (jg rfl (by omega)) <|hc (mj (s := v) (aA rfl) (cM (by assumption))) <|hc (fe (s := v) (aA rfl) (aE rfl)) <|hc (cH (aA rfl) (aA rfl) (by first | exact decide_eq_true rfl | exact decide_eq_true ‹_› | exact decide_eq_false ‹_›)) <|hnil
  refine bp (tb := (aV zL)) (ra := .b true) rfl ((ae (ai (xN a v)) (fun j _ => aQ (l := xN a v) rfl j)).hyps ho) rfl gU.1 gU.2 (fun e => runIsR_0 e ) (args := [.agg #[St' a, St' v]]) (by simp only [aF, Rel]; exact ⟨_, _, rfl, ⟨_, rfl, ⟨_, _, rfl, rfl, ⟨_, _, rfl, rfl, rfl⟩⟩⟩, rfl⟩) w hl fun x hx => ?_
  simp only [Rel, aF] at hx
  exact hx
def zK : LK := [(.call 29 [.x 0], .b false)]
theorem runIsR_1 (e : Nat) : okA (call (aV zK) 9000 11 [.ag [.x 0, .x 1]] ⟨H0 e , 4, 0, 0⟩) (.b false) = true := by kernel_rfl
def xM (a v : LB) : List Value := [St' a, St' v]
theorem pathIsR_1 (a v : LB) (b0 : a.length ≤ 140737488355328) (b1 : v.length ≤ 140737488355328) (h0 : ¬ (bY a = true)) (w : World) (hl : aC w) : bN 11 #[.agg #[St' a, St' v]] w (.bool false) := by
  have ho : ∀ k r, (k, r) ∈ zK → aL (cx (ai (xM a v)) (fun j _ => aQ (l := xM a v) rfl j) 1 aC aG) k r := by
    unfold zK
    exact hc (hZ (s := a) (aA rfl) (dh (by assumption))) <|hnil
  refine bp (tb := (aV zK)) (ra := .b false) rfl ((ae (ai (xM a v)) (fun j _ => aQ (l := xM a v) rfl j)).hyps ho) rfl gU.1 gU.2 (fun e => runIsR_1 e ) (args := [.agg #[St' a, St' v]]) (by simp only [aF, Rel]; exact ⟨_, _, rfl, ⟨_, rfl, ⟨_, _, rfl, rfl, ⟨_, _, rfl, rfl, rfl⟩⟩⟩, rfl⟩) w hl fun x hx => ?_
  simp only [Rel, aF] at hx
  exact hx
def zJ : LK := [(.call 29 [.x 0], .b true), (.len (.x 0), .x 2), (.bin .leq (.x 2) (I6 64), .b true), (.len (.x 1), .x 3), (.bin .leq (.x 3) (I6 512), .b true), (.call 30 [.x 1], .b false)]
theorem runIsR_2 (e : Nat) : okA (call (aV zJ) 9000 11 [.ag [.x 0, .x 1]] ⟨H0 e , 4, 0, 0⟩) (.b false) = true := by kernel_rfl
def xL (a v : LB) : List Value := [St' a, St' v, .int .i64 ((a.length : Int)), .int .i64 ((v.length : Int))]
theorem pathIsR_2 (a v : LB) (b0 : a.length ≤ 140737488355328) (b1 : v.length ≤ 140737488355328) (h0 : bY a = true) (h1 : (a.length : Int) ≤ 64) (h2 : (v.length : Int) ≤ 512) (h3 : ¬ (cA v = true)) (w : World) (hl : aC w) : bN 11 #[.agg #[St' a, St' v]] w (.bool false) := by
  have ho : ∀ k r, (k, r) ∈ zJ → aL (cx (ai (xL a v)) (fun j _ => aQ (l := xL a v) rfl j) 1 aC aG) k r := by
    unfold zJ
    exact hc (hZ (s := a) (aA rfl) (cM (by assumption))) <|hc (au rfl rfl (by omega)) <|hc (jg rfl (by omega)) <|hc (au rfl rfl (by omega)) <|hc (jg rfl (by omega)) <|hc (mj (s := v) (aA rfl) (dh (by assumption))) <|hnil
  refine bp (tb := (aV zJ)) (ra := .b false) rfl ((ae (ai (xL a v)) (fun j _ => aQ (l := xL a v) rfl j)).hyps ho) rfl gU.1 gU.2 (fun e => runIsR_2 e ) (args := [.agg #[St' a, St' v]]) (by simp only [aF, Rel]; exact ⟨_, _, rfl, ⟨_, rfl, ⟨_, _, rfl, rfl, ⟨_, _, rfl, rfl, rfl⟩⟩⟩, rfl⟩) w hl fun x hx => ?_
  simp only [Rel, aF] at hx
  exact hx
def zI : LK := [(.call 29 [.x 0], .b true), (.len (.x 0), .x 2), (.bin .leq (.x 2) (I6 64), .b false)]
theorem runIsR_3 (e : Nat) : okA (call (aV zI) 9000 11 [.ag [.x 0, .x 1]] ⟨H0 e , 4, 0, 0⟩) (.b false) = true := by kernel_rfl
def xK (a v : LB) : List Value := [St' a, St' v, .int .i64 ((a.length : Int))]
theorem pathIsR_3 (a v : LB) (b0 : a.length ≤ 140737488355328) (b1 : v.length ≤ 140737488355328) (h0 : bY a = true) (h1 : ¬ ((a.length : Int) ≤ 64)) (w : World) (hl : aC w) : bN 11 #[.agg #[St' a, St' v]] w (.bool false) := by
  have ho : ∀ k r, (k, r) ∈ zI → aL (cx (ai (xK a v)) (fun j _ => aQ (l := xK a v) rfl j) 1 aC aG) k r := by
    unfold zI
    exact hc (hZ (s := a) (aA rfl) (cM (by assumption))) <|hc (au rfl rfl (by omega)) <|hc (yi rfl (by omega)) <|hnil
  refine bp (tb := (aV zI)) (ra := .b false) rfl ((ae (ai (xK a v)) (fun j _ => aQ (l := xK a v) rfl j)).hyps ho) rfl gU.1 gU.2 (fun e => runIsR_3 e ) (args := [.agg #[St' a, St' v]]) (by simp only [aF, Rel]; exact ⟨_, _, rfl, ⟨_, rfl, ⟨_, _, rfl, rfl, ⟨_, _, rfl, rfl, rfl⟩⟩⟩, rfl⟩) w hl fun x hx => ?_
  simp only [Rel, aF] at hx
  exact hx
def zH : LK := [(.call 29 [.x 0], .b true), (.len (.x 0), .x 2), (.bin .leq (.x 2) (I6 64), .b true), (.len (.x 1), .x 3), (.bin .leq (.x 3) (I6 512), .b false)]
theorem runIsR_4 (e : Nat) : okA (call (aV zH) 9000 11 [.ag [.x 0, .x 1]] ⟨H0 e , 4, 0, 0⟩) (.b false) = true := by kernel_rfl
def xJ (a v : LB) : List Value := [St' a, St' v, .int .i64 ((a.length : Int)), .int .i64 ((v.length : Int))]
theorem pathIsR_4 (a v : LB) (b0 : a.length ≤ 140737488355328) (b1 : v.length ≤ 140737488355328) (h0 : bY a = true) (h1 : (a.length : Int) ≤ 64) (h2 : ¬ ((v.length : Int) ≤ 512)) (w : World) (hl : aC w) : bN 11 #[.agg #[St' a, St' v]] w (.bool false) := by
  have ho : ∀ k r, (k, r) ∈ zH → aL (cx (ai (xJ a v)) (fun j _ => aQ (l := xJ a v) rfl j) 1 aC aG) k r := by
    unfold zH
    exact hc (hZ (s := a) (aA rfl) (cM (by assumption))) <|hc (au rfl rfl (by omega)) <|hc (jg rfl (by omega)) <|hc (au rfl rfl (by omega)) <|hc (yi rfl (by omega)) <|hnil
  refine bp (tb := (aV zH)) (ra := .b false) rfl ((ae (ai (xJ a v)) (fun j _ => aQ (l := xJ a v) rfl j)).hyps ho) rfl gU.1 gU.2 (fun e => runIsR_4 e ) (args := [.agg #[St' a, St' v]]) (by simp only [aF, Rel]; exact ⟨_, _, rfl, ⟨_, rfl, ⟨_, _, rfl, rfl, ⟨_, _, rfl, rfl, rfl⟩⟩⟩, rfl⟩) w hl fun x hx => ?_
  simp only [Rel, aF] at hx
  exact hx
def zG : LK := [(.call 29 [.x 0], .b true), (.len (.x 0), .x 2), (.bin .leq (.x 2) (I6 64), .b true), (.len (.x 1), .x 3), (.bin .leq (.x 3) (I6 512), .b true), (.call 30 [.x 1], .b true), (.call 31 [.x 1], .x 4), (.bin .eql (.x 4) (.x 1), .b false)]
theorem runIsR_5 (e : Nat) : okA (call (aV zG) 9000 11 [.ag [.x 0, .x 1]] ⟨H0 e , 4, 0, 0⟩) (.b false) = true := by kernel_rfl
def xI (a v : LB) : List Value := [St' a, St' v, .int .i64 ((a.length : Int)), .int .i64 ((v.length : Int)), St' (aT v)]
theorem pathIsR_5 (a v : LB) (b0 : a.length ≤ 140737488355328) (b1 : v.length ≤ 140737488355328) (h0 : bY a = true) (h1 : (a.length : Int) ≤ 64) (h2 : (v.length : Int) ≤ 512) (h3 : cA v = true) (h4 : ¬ ((aT v) = v)) (w : World) (hl : aC w) : bN 11 #[.agg #[St' a, St' v]] w (.bool false) := by
  have := cR v
  have ho : ∀ k r, (k, r) ∈ zG → aL (cx (ai (xI a v)) (fun j _ => aQ (l := xI a v) rfl j) 1 aC aG) k r := by
    unfold zG
    exact hc (hZ (s := a) (aA rfl) (cM (by assumption))) <|hc (au rfl rfl (by omega)) <|hc (jg rfl (by omega)) <|hc (au rfl rfl (by omega)) <|hc (jg rfl (by omega)) <|hc (mj (s := v) (aA rfl) (cM (by assumption))) <|hc (fe (s := v) (aA rfl) (aE rfl)) <|hc (cH (aA rfl) (aA rfl) (by first | exact decide_eq_true rfl | exact decide_eq_true ‹_› | exact decide_eq_false ‹_›)) <|hnil
  refine bp (tb := (aV zG)) (ra := .b false) rfl ((ae (ai (xI a v)) (fun j _ => aQ (l := xI a v) rfl j)).hyps ho) rfl gU.1 gU.2 (fun e => runIsR_5 e ) (args := [.agg #[St' a, St' v]]) (by simp only [aF, Rel]; exact ⟨_, _, rfl, ⟨_, rfl, ⟨_, _, rfl, rfl, ⟨_, _, rfl, rfl, rfl⟩⟩⟩, rfl⟩) w hl fun x hx => ?_
  simp only [Rel, aF] at hx
  exact hx
theorem callsIsR (a v : LB) (b0 : a.length ≤ 140737488355328) (b1 : v.length ≤ 140737488355328) (w : World) (hl : aC w) : bN 11 #[.agg #[St' a, St' v]] w (.bool (cY a v)) := by
  by_cases h0 : bY a = true
  · by_cases h1 : (a.length : Int) ≤ 64
    · by_cases h2 : (v.length : Int) ≤ 512
      · by_cases h3 : cA v = true
        · by_cases h4 : (aT v) = v
          · rw [show (.bool (cY a v) : Value) = (.bool true : Value) from by unfold cY; (by_cases q1 : a.length ≤ 64 <;> by_cases q2 : v.length ≤ 512 <;> first | omega | (simp [*]; done))]
            exact pathIsR_0 a v b0 b1 h0 h1 h2 h3 h4 w hl
          · rw [show (.bool (cY a v) : Value) = (.bool false : Value) from by unfold cY; (by_cases q1 : a.length ≤ 64 <;> by_cases q2 : v.length ≤ 512 <;> first | omega | (simp [*]; done))]
            exact pathIsR_5 a v b0 b1 h0 h1 h2 h3 h4 w hl
        · rw [show (.bool (cY a v) : Value) = (.bool false : Value) from by unfold cY; (by_cases q1 : a.length ≤ 64 <;> by_cases q2 : v.length ≤ 512 <;> first | omega | (simp [*]; done))]
          exact pathIsR_2 a v b0 b1 h0 h1 h2 h3 w hl
      · rw [show (.bool (cY a v) : Value) = (.bool false : Value) from by unfold cY; (by_cases q1 : a.length ≤ 64 <;> by_cases q2 : v.length ≤ 512 <;> first | omega | (simp [*]; done))]
        exact pathIsR_4 a v b0 b1 h0 h1 h2 w hl
    · rw [show (.bool (cY a v) : Value) = (.bool false : Value) from by unfold cY; (by_cases q1 : a.length ≤ 64 <;> by_cases q2 : v.length ≤ 512 <;> first | omega | (simp [*]; done))]
      exact pathIsR_3 a v b0 b1 h0 h1 w hl
  · rw [show (.bool (cY a v) : Value) = (.bool false : Value) from by unfold cY; (by_cases q1 : a.length ≤ 64 <;> by_cases q2 : v.length ≤ 512 <;> first | omega | (simp [*]; done))]
    exact pathIsR_1 a v b0 b1 h0 w hl
theorem hokIsR {x0 r : AV} {a v : LB} (i0 : Is (cx nu one 1 aC aG) x0 (.agg #[St' a, St' v])) (hr : Den (cx nu one 1 aC aG) r (.bool (cY a v))) (b0 : a.length ≤ 140737488355328 := by omega) (b1 : v.length ≤ 140737488355328 := by omega) : aL (cx nu one 1 aC aG) (.call 11 [x0]) r := by
  intro ρ args ha w hl _
  simp only [aF] at ha
  obtain ⟨v0, t0, rfl, a0, rfl⟩ := ha
  have e0 := i0 ρ _ a0; subst e0
  exact (callsIsR a v b0 b1 w hl).mono fun e w' he => ⟨_, he.1, hr ρ, he.2⟩
end Go.Proofs.YtjkdkpdjmapieaaDoor.fieldTells

