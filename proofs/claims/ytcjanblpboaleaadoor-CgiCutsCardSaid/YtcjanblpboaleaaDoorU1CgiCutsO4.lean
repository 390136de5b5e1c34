/- A part of the proof: what an interpreter answers on partly known states is what the program answers. No condition. -/
import Derived.Test.YtcjanblpboaleaaDoorU1CgiCutsO3
set_option maxRecDepth 100000
set_option linter.unusedVariables false
set_option linter.unusedSimpArgs false
set_option maxHeartbeats 4000000
namespace Go.Proofs.YtcjanblpboaleaaDoor.cgiCuts
open Go Go.AX Go.Proofs Go.Proofs.YtcjanblpboaleaaDoor
variable {nu : Nat → Value} {one : ∀ i, i < 1000000 → (nu i).oneCell' = true} {E' : Cx} {x' : Ex} {e' : LA} {h' : LE}
def eA (a v : LB) : Bool := cU a && (dk v && (decide (a.length ≤ 64) && (decide (v.length ≤ 512) && decide (bb v = v))))
theorem jS (l : LB) : (bb l).length ≤ l.length := Nat.le_trans (trR_len _) (trL_len _)
theorem y8 {C : Cx} {x y : AV} {u v : Value} (hx : Is C x u) (hy : Is C y v) : Is C (.ag [x, y]) (.agg #[u, v]) := fun ρ w h => by
 simp only [Rel, aJ] at h
 obtain ⟨l, rfl, a, t, rfl, h1, b, u, rfl, h2, rfl⟩ := h
 rw [hx ρ _ h1, hy ρ _ h2]
theorem jD : cD.fn.get 22 = some (fI Tryd.f22 0) ∧ (fI Tryd.f22 0).body.isSome = true := ⟨rfl, by kernel_rfl⟩
def zh : LK := [(.call 51 [.x 0], .b true), (.call 52 [.x 1], .b true), (.len (.x 0), .x 2), (.bin .gtr (.x 2) (I6 64), .b false), (.len (.x 1), .x 3), (.bin .gtr (.x 3) (I6 512), .b false), (.call 34 [.x 1, .s 2 2336], .x 4), (.bin .eql (.x 4) (.x 1), .b true)]
theorem runIsA_0 (e : Nat) : okA (call (aT zh) 9000 22 [.ag [.x 0, .x 1]] ⟨H0 e , 4, 0, 0⟩) (.b true) = true := by kernel_rfl
def xh (a v : LB) : List Value := [St' a, St' v, .int .i64 ((a.length : Int)), .int .i64 ((v.length : Int)), St' (bb v)]
theorem pathIsA_0 (a v : LB) (b0 : a.length ≤ 140737488355328) (b1 : v.length ≤ 140737488355328) (h0 : cU a = true) (h1 : dk v = true) (h2 : ¬ (64 < (a.length : Int))) (h3 : ¬ (512 < (v.length : Int))) (h4 : (bb v) = v) (w : World) (hl : aH w) : bp 22 #[.agg #[St' a, St' v]] w (.bool true) := by
 have := jS v
 have ho : ∀ k r, (k, r) ∈ zh → aM (cx (bA (xh a v)) (fun j _ => aV (l := xh a v) rfl j) 1 aH aQ) k r := by
  unfold zh
  exact hc (iy (s := a) (aA rfl) (dJ (by assumption))) <|hc (ld (s := v) (aA rfl) (dJ (by assumption))) <|hc av <|hc cN <|hc av <|hc cN <|hc (ji (s := v) (aA rfl) (ar (l := [u8 32, u8 9]) 2 2336 rfl) (aG (congrArg (fun l => St' l) ((iY _).symm)))) <|hc (bu (aA rfl) (aA rfl) (by first | exact decide_eq_true rfl | exact decide_eq_true ‹_› | exact decide_eq_false ‹_›)) <|hnil
 refine cR (tb := (aT zh)) (ra := .b true) rfl ((ab (bA (xh a v)) (fun j _ => aV (l := xh a v) rfl j)).hyps ho) rfl jD.1 jD.2 (fun e => runIsA_0 e ) (args := [.agg #[St' a, St' v]]) (by simp only [aJ, Rel]; exact ⟨_, _, rfl, ⟨_, rfl, ⟨_, _, rfl, rfl, ⟨_, _, rfl, rfl, rfl⟩⟩⟩, rfl⟩) w hl fun x hx => ?_
 simp only [Rel, aJ] at hx
 exact hx
def zg : LK := [(.call 51 [.x 0], .b false)]
theorem runIsA_1 (e : Nat) : okA (call (aT zg) 9000 22 [.ag [.x 0, .x 1]] ⟨H0 e , 4, 0, 0⟩) (.b false) = true := by kernel_rfl
def xg (a v : LB) : List Value := [St' a, St' v]
theorem pathIsA_1 (a v : LB) (b0 : a.length ≤ 140737488355328) (b1 : v.length ≤ 140737488355328) (h0 : ¬ (cU a = true)) (w : World) (hl : aH w) : bp 22 #[.agg #[St' a, St' v]] w (.bool false) := by
 have ho : ∀ k r, (k, r) ∈ zg → aM (cx (bA (xg a v)) (fun j _ => aV (l := xg a v) rfl j) 1 aH aQ) k r := by
  unfold zg
  exact hc (iy (s := a) (aA rfl) (jy (by assumption))) <|hnil
 refine cR (tb := (aT zg)) (ra := .b false) rfl ((ab (bA (xg a v)) (fun j _ => aV (l := xg a v) rfl j)).hyps ho) rfl jD.1 jD.2 (fun e => runIsA_1 e ) (args := [.agg #[St' a, St' v]]) (by simp only [aJ, Rel]; exact ⟨_, _, rfl, ⟨_, rfl, ⟨_, _, rfl, rfl, ⟨_, _, rfl, rfl, rfl⟩⟩⟩, rfl⟩) w hl fun x hx => ?_
 simp only [Rel, aJ] at hx
 exact hx
def zf : LK := [(.call 51 [.x 0], .b true), (.call 52 [.x 1], .b false)]
theorem runIsA_2 (e : Nat) : okA (call (aT zf) 9000 22 [.ag [.x 0, .x 1]] ⟨H0 e , 4, 0, 0⟩) (.b false) = true := by kernel_rfl
def xf (a v : LB) : List Value := [St' a, St' v]
theorem pathIsA_2 (a v : LB) (b0 : a.length ≤ 140737488355328) (b1 : v.length ≤ 140737488355328) (h0 : cU a = true) (h1 : ¬ (dk v = true)) (w : World) (hl : aH w) : bp 22 #[.agg #[St' a, St' v]] w (.bool false) := by
 have ho : ∀ k r, (k, r) ∈ zf → aM (cx (bA (xf a v)) (fun j _ => aV (l := xf a v) rfl j) 1 aH aQ) k r := by
  unfold zf
  exact hc (iy (s := a) (aA rfl) (dJ (by assumption))) <|hc (ld (s := v) (aA rfl) (jy (by assumption))) <|hnil
 refine cR (tb := (aT zf)) (ra := .b false) rfl ((ab (bA (xf a v)) (fun j _ => aV (l := xf a v) rfl j)).hyps ho) rfl jD.1 jD.2 (fun e => runIsA_2 e ) (args := [.agg #[St' a, St' v]]) (by simp only [aJ, Rel]; exact ⟨_, _, rfl, ⟨_, rfl, ⟨_, _, rfl, rfl, ⟨_, _, rfl, rfl, rfl⟩⟩⟩, rfl⟩) w hl fun x hx => ?_
 simp only [Rel, aJ] at hx
 exact hx
def ze : LK := [(.call 51 [.x 0], .b true), (.call 52 [.x 1], .b true), (.len (.x 0), .x 2), (.bin .gtr (.x 2) (I6 64), .b true)]
theorem runIsA_3 (e : Nat) : okA (call (aT ze) 9000 22 [.ag [.x 0, .x 1]] ⟨H0 e , 4, 0, 0⟩) (.b false) = true := by kernel_rfl
def xe (a v : LB) : List Value := [St' a, St' v, .int .i64 ((a.length : Int))]
theorem pathIsA_3 (a v : LB) (b0 : a.length ≤ 140737488355328) (b1 : v.length ≤ 140737488355328) (h0 : cU a = true) (h1 : dk v = true) (h2 : 64 < (a.length : Int)) (w : World) (hl : aH w) : bp 22 #[.agg #[St' a, St' v]] w (.bool false) := by
 have ho : ∀ k r, (k, r) ∈ ze → aM (cx (bA (xe a v)) (fun j _ => aV (l := xe a v) rfl j) 1 aH aQ) k r := by
  unfold ze
  exact hc (iy (s := a) (aA rfl) (dJ (by assumption))) <|hc (ld (s := v) (aA rfl) (dJ (by assumption))) <|hc av <|hc cZ <|hnil
 refine cR (tb := (aT ze)) (ra := .b false) rfl ((ab (bA (xe a v)) (fun j _ => aV (l := xe a v) rfl j)).hyps ho) rfl jD.1 jD.2 (fun e => runIsA_3 e ) (args := [.agg #[St' a, St' v]]) (by simp only [aJ, Rel]; exact ⟨_, _, rfl, ⟨_, rfl, ⟨_, _, rfl, rfl, ⟨_, _, rfl, rfl, rfl⟩⟩⟩, rfl⟩) w hl fun x hx => ?_
 simp only [Rel, aJ] at hx
 exact hx
def zd : LK := [(.call 51 [.x 0], .b true), (.call 52 [.x 1], .b true), (.len (.x 0), .x 2), (.bin .gtr (.x 2) (I6 64), .b false), (.len (.x 1), .x 3), (.bin .gtr (.x 3) (I6 512), .b true)]
theorem runIsA_4 (e : Nat) : okA (call (aT zd) 9000 22 [.ag [.x 0, .x 1]] ⟨H0 e , 4, 0, 0⟩) (.b false) = true := by kernel_rfl
def xd (a v : LB) : List Value := [St' a, St' v, .int .i64 ((a.length : Int)), .int .i64 ((v.length : Int))]
theorem pathIsA_4 (a v : LB) (b0 : a.length ≤ 140737488355328) (b1 : v.length ≤ 140737488355328) (h0 : cU a = true) (h1 : dk v = true) (h2 : ¬ (64 < (a.length : Int))) (h3 : 512 < (v.length : Int)) (w : World) (hl : aH w) : bp 22 #[.agg #[St' a, St' v]] w (.bool false) := by
 have ho : ∀ k r, (k, r) ∈ zd → aM (cx (bA (xd a v)) (fun j _ => aV (l := xd a v) rfl j) 1 aH aQ) k r := by
  unfold zd
  exact hc (iy (s := a) (aA rfl) (dJ (by assumption))) <|hc (ld (s := v) (aA rfl) (dJ (by assumption))) <|hc av <|hc cN <|hc av <|hc cZ <|hnil
 refine cR (tb := (aT zd)) (ra := .b false) rfl ((ab (bA (xd a v)) (fun j _ => aV (l := xd a v) rfl j)).hyps ho) rfl jD.1 jD.2 (fun e => runIsA_4 e ) (args := [.agg #[St' a, St' v]]) (by simp only [aJ, Rel]; exact ⟨_, _, rfl, ⟨_, rfl, ⟨_, _, rfl, rfl, ⟨_, _, rfl, rfl, rfl⟩⟩⟩, rfl⟩) w hl fun x hx => ?_
 simp only [Rel, aJ] at hx
 exact hx
def zb : LK := [(.call 51 [.x 0], .b true), (.call 52 [.x 1], .b true), (.len (.x 0), .x 2), (.bin .gtr (.x 2) (I6 64), .b false), (.len (.x 1), .x 3), (.bin .gtr (.x 3) (I6 512), .b false), (.call 34 [.x 1, .s 2 2336], .x 4), (.bin .eql (.x 4) (.x 1), .b false)]
theorem runIsA_5 (e : Nat) : okA (call (aT zb) 9000 22 [.ag [.x 0, .x 1]] ⟨H0 e , 4, 0, 0⟩) (.b false) = true := by kernel_rfl
def xb (a v : LB) : List Value := [St' a, St' v, .int .i64 ((a.length : Int)), .int .i64 ((v.length : Int)), St' (bb v)]
theorem pathIsA_5 (a v : LB) (b0 : a.length ≤ 140737488355328) (b1 : v.length ≤ 140737488355328) (h0 : cU a = true) (h1 : dk v = true) (h2 : ¬ (64 < (a.length : Int))) (h3 : ¬ (512 < (v.length : Int))) (h4 : ¬ ((bb v) = v)) (w : World) (hl : aH w) : bp 22 #[.agg #[St' a, St' v]] w (.bool false) := by
 have := jS v
 have ho : ∀ k r, (k, r) ∈ zb → aM (cx (bA (xb a v)) (fun j _ => aV (l := xb a v) rfl j) 1 aH aQ) k r := by
  unfold zb
  exact hc (iy (s := a) (aA rfl) (dJ (by assumption))) <|hc (ld (s := v) (aA rfl) (dJ (by assumption))) <|hc av <|hc cN <|hc av <|hc cN <|hc (ji (s := v) (aA rfl) (ar (l := [u8 32, u8 9]) 2 2336 rfl) (aG (congrArg (fun l => St' l) ((iY _).symm)))) <|hc (bu (aA rfl) (aA rfl) (by first | exact decide_eq_true rfl | exact decide_eq_true ‹_› | exact decide_eq_false ‹_›)) <|hnil
 refine cR (tb := (aT zb)) (ra := .b false) rfl ((ab (bA (xb a v)) (fun j _ => aV (l := xb a v) rfl j)).hyps ho) rfl jD.1 jD.2 (fun e => runIsA_5 e ) (args := [.agg #[St' a, St' v]]) (by simp only [aJ, Rel]; exact ⟨_, _, rfl, ⟨_, rfl, ⟨_, _, rfl, rfl, ⟨_, _, rfl, rfl, rfl⟩⟩⟩, rfl⟩) w hl fun x hx => ?_
 simp only [Rel, aJ] at hx
 exact hx
theorem callsIsA (a v : LB) (b0 : a.length ≤ 140737488355328) (b1 : v.length ≤ 140737488355328) (w : World) (hl : aH w) : bp 22 #[.agg #[St' a, St' v]] w (.bool (eA a v)) := by
 by_cases h0 : cU a = true
 ·by_cases h1 : dk v = true
  ·by_cases h2 : 64 < (a.length : Int)
   ·rw [show (.bool (eA a v) : Value) = (.bool false : Value) from by unfold eA; (by_cases q1 : a.length ≤ 64 <;> by_cases q2 : v.length ≤ 512 <;> first | omega | (simp [*]; done))]
    exact pathIsA_3 a v b0 b1 h0 h1 h2 w hl
   ·by_cases h3 : 512 < (v.length : Int)
    ·rw [show (.bool (eA a v) : Value) = (.bool false : Value) from by unfold eA; (by_cases q1 : a.length ≤ 64 <;> by_cases q2 : v.length ≤ 512 <;> first | omega | (simp [*]; done))]
     exact pathIsA_4 a v b0 b1 h0 h1 h2 h3 w hl
    ·by_cases h4 : (bb v) = v
     ·rw [show (.bool (eA a v) : Value) = (.bool true : Value) from by unfold eA; (by_cases q1 : a.length ≤ 64 <;> by_cases q2 : v.length ≤ 512 <;> first | omega | (simp [*]; done))]
      exact pathIsA_0 a v b0 b1 h0 h1 h2 h3 h4 w hl
     ·rw [show (.bool (eA a v) : Value) = (.bool false : Value) from by unfold eA; (by_cases q1 : a.length ≤ 64 <;> by_cases q2 : v.length ≤ 512 <;> first | omega | (simp [*]; done))]
      exact pathIsA_5 a v b0 b1 h0 h1 h2 h3 h4 w hl
  ·rw [show (.bool (eA a v) : Value) = (.bool false : Value) from by unfold eA; (by_cases q1 : a.length ≤ 64 <;> by_cases q2 : v.length ≤ 512 <;> first | omega | (simp [*]; done))]
   exact pathIsA_2 a v b0 b1 h0 h1 w hl
 ·rw [show (.bool (eA a v) : Value) = (.bool false : Value) from by unfold eA; (by_cases q1 : a.length ≤ 64 <;> by_cases q2 : v.length ≤ 512 <;> first | omega | (simp [*]; done))]
  exact pathIsA_1 a v b0 b1 h0 w hl
theorem zr {x0 r : AV} {a v : LB} (i0 : Is (cx nu one 1 aH aQ) x0 (.agg #[St' a, St' v])) (hr : Den (cx nu one 1 aH aQ) r (.bool (eA a v))) (b0 : a.length ≤ 140737488355328 := by omega) (b1 : v.length ≤ 140737488355328 := by omega) : aM (cx nu one 1 aH aQ) (.call 22 [x0]) r := by
 intro ρ args ha w hl _
 simp only [aJ] at ha
 obtain ⟨v0, t0, rfl, a0, rfl⟩ := ha
 have e0 := i0 ρ _ a0; subst e0
 exact (callsIsA a v b0 b1 w hl).mono fun e w' he => ⟨_, he.1, hr ρ, he.2⟩
theorem dj (l : LB) (c : Int) : -1 ≤ aF l c ∧ aF l c < (l.length : Int) := by
 unfold aF
 induction l with
 | nil => simp [Lib.indexByte]
 | cons b l ih =>
  unfold Lib.indexByte
  split
  ·simp only [List.length_cons]; omega
  ·split
   ·simp only [List.length_cons]; omega
   ·simp only [List.length_cons]; omega
abbrev pN (ln : LB) : LB := List.take (Int.toNat (aF ln 58)) ln
abbrev pV (ln : LB) : LB := List.drop (Int.toNat (aF ln 58 + 1)) ln
def pK (ln : LB) : Nat := if aF ln 58 < 0 then 1 else if ¬ cU (pN ln) = true then 2 else if ¬ dk (bb (pV ln)) = true then 3 else if 64 < aF ln 58 then 4 else if 512 < (bb (pV ln)).length then 5 else 0
def pA (ln : LB) : LB := if pK ln = 0 then pN ln else []
def pB (ln : LB) : LB := if pK ln = 0 then bb (pV ln) else []
def pC (ln : LB) : Int := if pK ln = 0 then 0 else if pK ln ≤ 3 then 10 else 12
def pM (k : Nat) : LB := if k = 1 then zq13 else if k = 2 then qv else if k = 3 then zq14 else if k = 4 then zq15 else zq16
def pE (ln : LB) : Value := if pK ln = 0 then .nilIface else .iface 63 (.agg #[.int .i64 (pC ln), St' (pM (pK ln))])
theorem pk1 {ln : LB} (h : aF ln 58 < 0) : pK ln = 1 := by unfold pK; rw [if_pos h]
theorem gZ {ln : LB} (h : ¬ aF ln 58 < 0) (h2 : ¬ cU (pN ln) = true) : pK ln = 2 := by unfold pK; rw [if_neg h, if_pos h2]
theorem pk3 {ln : LB} (h : ¬ aF ln 58 < 0) (h2 : cU (pN ln) = true) (h3 : ¬ dk (bb (pV ln)) = true) : pK ln = 3 := by unfold pK; rw [if_neg h, if_neg (fun e => e h2), if_pos h3]
theorem pk4 {ln : LB} (h : ¬ aF ln 58 < 0) (h2 : cU (pN ln) = true) (h3 : dk (bb (pV ln)) = true) (h4 : 64 < aF ln 58) : pK ln = 4 := by unfold pK; rw [if_neg h, if_neg (fun e => e h2), if_neg (fun e => e h3), if_pos h4]
theorem pk5 {ln : LB} (h : ¬ aF ln 58 < 0) (h2 : cU (pN ln) = true) (h3 : dk (bb (pV ln)) = true) (h4 : ¬ 64 < aF ln 58) (h5 : 512 < (bb (pV ln)).length) : pK ln = 5 := by unfold pK; rw [if_neg h, if_neg (fun e => e h2), if_neg (fun e => e h3), if_neg h4, if_pos h5]
theorem pk0 {ln : LB} (h : ¬ aF ln 58 < 0) (h2 : cU (pN ln) = true) (h3 : dk (bb (pV ln)) = true) (h4 : ¬ 64 < aF ln 58) (h5 : ¬ 512 < (bb (pV ln)).length) : pK ln = 0 := by unfold pK; rw [if_neg h, if_neg (fun e => e h2), if_neg (fun e => e h3), if_neg h4, if_neg h5]
theorem cQ {ln : LB} {k : Nat} (h : pK ln = k) (hk : k ≠ 0) : (.tuple #[.agg #[St' (pA ln), St' (pB ln)], pE ln] : Value) = .tuple #[.agg #[St' [], St' []], .iface 63 (.agg #[.int .i64 (if k ≤ 3 then 10 else 12), St' (pM k)])] := by
 have h0 : ¬ pK ln = 0 := by rw [h]; exact hk
 unfold pA pB pE pC; rw [if_neg h0, if_neg h0, if_neg h0, if_neg h0, h]
theorem pvO {ln : LB} (h : pK ln = 0) : (.tuple #[.agg #[St' (pA ln), St' (pB ln)], pE ln] : Value) = .tuple #[.agg #[St' (pN ln), St' (bb (pV ln))], .nilIface] := by
 unfold pA pB pE; rw [if_pos h, if_pos h, if_pos h]
theorem oJ {ln : LB} (h : [u8 58] = ln) : aF ln 58 = 0 := by rw [← h]; decide
theorem nV : ¬ cU [] = true := by decide
theorem gq : cD.fn.get 39 = some (fI Tryd.f39 0) ∧ (fI Tryd.f39 0).body.isSome = true := ⟨rfl, by kernel_rfl⟩
def zY : LK := [(.bin .eql (.s 1 58) (.x 0), .b false), (.ext 67 [.x 0, .i .u8 (.ofNat 58)], .x 1), (.bin .geq (.x 1) (I6 0), .b false)]
theorem runParse_0 (e : Nat) : okA (call (aT zY) 9000 39 [.x 0] ⟨H0 e , 4, 0, 0⟩) (.tu [.ag [.s 0 0, .s 0 0], .aZ 63 (.ag [I6 10, .s 23 zn11])]) = true := by kernel_rfl
def xE (ln : LB) : List Value := [St' ln, .int .i64 (aF ln 58)]
theorem pathParse_0 (ln : LB) (b0 : ln.length ≤ 9223372036854775807) (p0 : ln.length ≤ 140737488355328) (h0 : ¬ ([u8 58] = ln)) (h1 : ¬ (0 ≤ aF ln 58)) (w : World) (hl : aH w) : bp 39 #[St' ln] w (.tuple #[.agg #[St' ([] : LB), St' ([] : LB)], .iface 63 (.agg #[.int .i64 10, St' zq13])]) := by
 have := dj ln 58
 have ho : ∀ k r, (k, r) ∈ zY → aM (cx (bA (xE ln)) (fun j _ => aV (l := xE ln) rfl j) 1 aH aQ) k r := by
  unfold zY
  exact hc (bu (ar (l := [u8 58]) 1 58 rfl) (aA rfl) (by first | exact decide_eq_true rfl | exact decide_eq_true ‹_› | exact decide_eq_false ‹_›)) <|hc (ew (n := aF ln 58) e9 fB fA (aA rfl) (b7 (m := 58) rfl) (aG rfl) rfl) <|hc mz <|hnil
 refine cR (tb := (aT zY)) (ra := .tu [.ag [.s 0 0, .s 0 0], .aZ 63 (.ag [I6 10, .s 23 zn11])]) rfl ((ab (bA (xE ln)) (fun j _ => aV (l := xE ln) rfl j)).hyps ho) rfl gq.1 gq.2 (fun e => runParse_0 e ) (args := [St' ln]) (by simp only [aJ, Rel]; exact ⟨_, _, rfl, rfl, rfl⟩) w hl fun x hx => ?_
 simp only [Rel, aJ] at hx
 obtain ⟨_, rfl, ⟨_, _, rfl, ⟨_, rfl, ⟨_, _, rfl, ⟨rfl, _⟩, ⟨_, _, rfl, ⟨rfl, _⟩, rfl⟩⟩⟩, ⟨_, _, rfl, ⟨_, rfl, ⟨_, rfl, ⟨_, _, rfl, rfl, ⟨_, _, rfl, ⟨rfl, _⟩, rfl⟩⟩⟩⟩, rfl⟩⟩⟩ := hx
 rfl
def zX : LK := [(.bin .eql (.s 1 58) (.x 0), .b true), (.sub (.x 0) none (some (I6 0)), .x 1), (.sub (.x 0) (some (I6 1)) none, .x 2), (.call 34 [.x 2, .s 2 2336], .x 3), (.call 51 [.x 1], .b false)]
theorem runParse_1 (e : Nat) : okA (call (aT zX) 9000 39 [.x 0] ⟨H0 e , 4, 0, 0⟩) (.tu [.ag [.s 0 0, .s 0 0], .aZ 63 (.ag [I6 10, .s 31 zn8])]) = true := by kernel_rfl
def xD (ln : LB) : List Value := [St' ln, St' (List.take (Int.toNat (0)) ln), St' (List.drop (Int.toNat (1)) ln), St' (bb (List.drop (Int.toNat (1)) ln))]
theorem pathParse_1 (ln : LB) (b0 : ln.length ≤ 9223372036854775807) (p0 : ln.length ≤ 140737488355328) (h0 : [u8 58] = ln) (w : World) (hl : aH w) : bp 39 #[St' ln] w (.tuple #[.agg #[St' ([] : LB), St' ([] : LB)], .iface 63 (.agg #[.int .i64 10, St' qv])]) := by
 have hl1 : ln.length = 1 := by rw [← (by assumption : [u8 58] = ln)]; rfl
 have := gj (l := ln) (Q := 0) (by omega) (by omega)
 have := ev (l := ln) (P := 1) (by omega) (by omega)
 have := jS (List.drop (Int.toNat (1)) ln)
 have : ¬ cU (List.take (Int.toNat (0)) ln) = true := (by decide : ¬ cU [] = true)
 have ho : ∀ k r, (k, r) ∈ zX → aM (cx (bA (xD ln)) (fun j _ => aV (l := xD ln) rfl j) 1 aH aQ) k r := by
  unfold zX
  exact hc (bu (ar (l := [u8 58]) 1 58 rfl) (aA rfl) (by first | exact decide_eq_true rfl | exact decide_eq_true ‹_› | exact decide_eq_false ‹_›)) <|hc tkC <|hc drC <|hc (ji (s := (List.drop (Int.toNat (1)) ln)) (aA rfl) (ar (l := [u8 32, u8 9]) 2 2336 rfl) (aG (congrArg (fun l => St' l) ((iY _).symm)))) <|hc (iy (s := (List.take (Int.toNat (0)) ln)) (aA rfl) (jy (by assumption))) <|hnil
 refine cR (tb := (aT zX)) (ra := .tu [.ag [.s 0 0, .s 0 0], .aZ 63 (.ag [I6 10, .s 31 zn8])]) rfl ((ab (bA (xD ln)) (fun j _ => aV (l := xD ln) rfl j)).hyps ho) rfl gq.1 gq.2 (fun e => runParse_1 e ) (args := [St' ln]) (by simp only [aJ, Rel]; exact ⟨_, _, rfl, rfl, rfl⟩) w hl fun x hx => ?_
 simp only [Rel, aJ] at hx
 obtain ⟨_, rfl, ⟨_, _, rfl, ⟨_, rfl, ⟨_, _, rfl, ⟨rfl, _⟩, ⟨_, _, rfl, ⟨rfl, _⟩, rfl⟩⟩⟩, ⟨_, _, rfl, ⟨_, rfl, ⟨_, rfl, ⟨_, _, rfl, rfl, ⟨_, _, rfl, ⟨rfl, _⟩, rfl⟩⟩⟩⟩, rfl⟩⟩⟩ := hx
 rfl
def zW : LK := [(.bin .eql (.s 1 58) (.x 0), .b false), (.ext 67 [.x 0, .i .u8 (.ofNat 58)], .x 1), (.bin .geq (.x 1) (I6 0), .b true), (.sub (.x 0) none (some (.x 1)), .x 2), (.bin .add (.x 1) (I6 1), .x 3), (.sub (.x 0) (some (.x 3)) none, .x 4), (.call 34 [.x 4, .s 2 2336], .x 5), (.call 51 [.x 2], .b false)]
theorem runParse_2 (e : Nat) : okA (call (aT zW) 9000 39 [.x 0] ⟨H0 e , 4, 0, 0⟩) (.tu [.ag [.s 0 0, .s 0 0], .aZ 63 (.ag [I6 10, .s 31 zn8])]) = true := by kernel_rfl
def xC (ln : LB) : List Value := [St' ln, .int .i64 (aF ln 58), St' (List.take (Int.toNat (aF ln 58)) ln), .int .i64 ((aF ln 58) + 1), St' (List.drop (Int.toNat ((aF ln 58) + 1)) ln), St' (bb (List.drop (Int.toNat ((aF ln 58) + 1)) ln))]
theorem pathParse_2 (ln : LB) (b0 : ln.length ≤ 9223372036854775807) (p0 : ln.length ≤ 140737488355328) (h0 : ¬ ([u8 58] = ln)) (h1 : 0 ≤ aF ln 58) (h2 : ¬ (cU (List.take (Int.toNat (aF ln 58)) ln) = true)) (w : World) (hl : aH w) : bp 39 #[St' ln] w (.tuple #[.agg #[St' ([] : LB), St' ([] : LB)], .iface 63 (.agg #[.int .i64 10, St' qv])]) := by
 have := dj ln 58
 have := gj (l := ln) (Q := aF ln 58) (by omega) (by omega)
 have := ev (l := ln) (P := (aF ln 58) + 1) (by omega) (by omega)
 have := jS (List.drop (Int.toNat ((aF ln 58) + 1)) ln)
 have ho : ∀ k r, (k, r) ∈ zW → aM (cx (bA (xC ln)) (fun j _ => aV (l := xC ln) rfl j) 1 aH aQ) k r := by
  unfold zW
  exact hc (bu (ar (l := [u8 58]) 1 58 rfl) (aA rfl) (by first | exact decide_eq_true rfl | exact decide_eq_true ‹_› | exact decide_eq_false ‹_›)) <|hc (ew (n := aF ln 58) e9 fB fA (aA rfl) (b7 (m := 58) rfl) (aG rfl) rfl) <|hc gL <|hc ia <|hc au <|hc gu <|hc (ji (s := (List.drop (Int.toNat ((aF ln 58) + 1)) ln)) (aA rfl) (ar (l := [u8 32, u8 9]) 2 2336 rfl) (aG (congrArg (fun l => St' l) ((iY _).symm)))) <|hc (iy (s := (List.take (Int.toNat (aF ln 58)) ln)) (aA rfl) (jy (by assumption))) <|hnil
 refine cR (tb := (aT zW)) (ra := .tu [.ag [.s 0 0, .s 0 0], .aZ 63 (.ag [I6 10, .s 31 zn8])]) rfl ((ab (bA (xC ln)) (fun j _ => aV (l := xC ln) rfl j)).hyps ho) rfl gq.1 gq.2 (fun e => runParse_2 e ) (args := [St' ln]) (by simp only [aJ, Rel]; exact ⟨_, _, rfl, rfl, rfl⟩) w hl fun x hx => ?_
 simp only [Rel, aJ] at hx
 obtain ⟨_, rfl, ⟨_, _, rfl, ⟨_, rfl, ⟨_, _, rfl, ⟨rfl, _⟩, ⟨_, _, rfl, ⟨rfl, _⟩, rfl⟩⟩⟩, ⟨_, _, rfl, ⟨_, rfl, ⟨_, rfl, ⟨_, _, rfl, rfl, ⟨_, _, rfl, ⟨rfl, _⟩, rfl⟩⟩⟩⟩, rfl⟩⟩⟩ := hx
 rfl
def zV : LK := [(.bin .eql (.s 1 58) (.x 0), .b false), (.ext 67 [.x 0, .i .u8 (.ofNat 58)], .x 1), (.bin .geq (.x 1) (I6 0), .b true), (.sub (.x 0) none (some (.x 1)), .x 2), (.bin .add (.x 1) (I6 1), .x 3), (.sub (.x 0) (some (.x 3)) none, .x 4), (.call 34 [.x 4, .s 2 2336], .x 5), (.call 51 [.x 2], .b true), (.call 52 [.x 5], .b true), (.len (.x 2), .x 6), (.bin .gtr (.x 6) (I6 64), .b false), (.len (.x 5), .x 7), (.bin .gtr (.x 7) (I6 512), .b false)]
theorem runParse_3 (e : Nat) : okA (call (aT zV) 9000 39 [.x 0] ⟨H0 e , 4, 0, 0⟩) (.tu [.ag [.x 2, .x 5], .ni]) = true := by kernel_rfl
def xB (ln : LB) : List Value := [St' ln, .int .i64 (aF ln 58), St' (List.take (Int.toNat (aF ln 58)) ln), .int .i64 ((aF ln 58) + 1), St' (List.drop (Int.toNat ((aF ln 58) + 1)) ln), St' (bb (List.drop (Int.toNat ((aF ln 58) + 1)) ln)), .int .i64 ((aF ln 58)), .int .i64 (((bb (List.drop (Int.toNat ((aF ln 58) + 1)) ln)).length : Int))]
theorem pathParse_3 (ln : LB) (b0 : ln.length ≤ 9223372036854775807) (p0 : ln.length ≤ 140737488355328) (h0 : ¬ ([u8 58] = ln)) (h1 : 0 ≤ aF ln 58) (h2 : cU (List.take (Int.toNat (aF ln 58)) ln) = true) (h3 : dk (bb (List.drop (Int.toNat ((aF ln 58) + 1)) ln)) = true) (h4 : ¬ (64 < (aF ln 58))) (h5 : ¬ (512 < ((bb (List.drop (Int.toNat ((aF ln 58) + 1)) ln)).length : Int))) (w : World) (hl : aH w) : bp 39 #[St' ln] w (.tuple #[.agg #[St' (List.take (Int.toNat (aF ln 58)) ln), St' (bb (List.drop (Int.toNat ((aF ln 58) + 1)) ln))], .nilIface]) := by
 have := dj ln 58
 have := gj (l := ln) (Q := aF ln 58) (by omega) (by omega)
 have := ev (l := ln) (P := (aF ln 58) + 1) (by omega) (by omega)
 have := jS (List.drop (Int.toNat ((aF ln 58) + 1)) ln)
 have ho : ∀ k r, (k, r) ∈ zV → aM (cx (bA (xB ln)) (fun j _ => aV (l := xB ln) rfl j) 1 aH aQ) k r := by
  unfold zV
  exact hc (bu (ar (l := [u8 58]) 1 58 rfl) (aA rfl) (by first | exact decide_eq_true rfl | exact decide_eq_true ‹_› | exact decide_eq_false ‹_›)) <|hc (ew (n := aF ln 58) e9 fB fA (aA rfl) (b7 (m := 58) rfl) (aG rfl) rfl) <|hc gL <|hc ia <|hc au <|hc gu <|hc (ji (s := (List.drop (Int.toNat ((aF ln 58) + 1)) ln)) (aA rfl) (ar (l := [u8 32, u8 9]) 2 2336 rfl) (aG (congrArg (fun l => St' l) ((iY _).symm)))) <|hc (iy (s := (List.take (Int.toNat (aF ln 58)) ln)) (aA rfl) (dJ (by assumption))) <|hc (ld (s := (bb (List.drop (Int.toNat ((aF ln 58) + 1)) ln))) (aA rfl) (dJ (by assumption))) <|hc av <|hc cN <|hc av <|hc cN <|hnil
 refine cR (tb := (aT zV)) (ra := .tu [.ag [.x 2, .x 5], .ni]) rfl ((ab (bA (xB ln)) (fun j _ => aV (l := xB ln) rfl j)).hyps ho) rfl gq.1 gq.2 (fun e => runParse_3 e ) (args := [St' ln]) (by simp only [aJ, Rel]; exact ⟨_, _, rfl, rfl, rfl⟩) w hl fun x hx => ?_
 simp only [Rel, aJ] at hx
 obtain ⟨_, rfl, ⟨_, _, rfl, ⟨_, rfl, ⟨_, _, rfl, rfl, ⟨_, _, rfl, rfl, rfl⟩⟩⟩, ⟨_, _, rfl, rfl, rfl⟩⟩⟩ := hx
 rfl
def zU : LK := [(.bin .eql (.s 1 58) (.x 0), .b false), (.ext 67 [.x 0, .i .u8 (.ofNat 58)], .x 1), (.bin .geq (.x 1) (I6 0), .b true), (.sub (.x 0) none (some (.x 1)), .x 2), (.bin .add (.x 1) (I6 1), .x 3), (.sub (.x 0) (some (.x 3)) none, .x 4), (.call 34 [.x 4, .s 2 2336], .x 5), (.call 51 [.x 2], .b true), (.call 52 [.x 5], .b false)]
theorem runParse_4 (e : Nat) : okA (call (aT zU) 9000 39 [.x 0] ⟨H0 e , 4, 0, 0⟩) (.tu [.ag [.s 0 0, .s 0 0], .aZ 63 (.ag [I6 10, .s 43 zn12])]) = true := by kernel_rfl
def xA (ln : LB) : List Value := [St' ln, .int .i64 (aF ln 58), St' (List.take (Int.toNat (aF ln 58)) ln), .int .i64 ((aF ln 58) + 1), St' (List.drop (Int.toNat ((aF ln 58) + 1)) ln), St' (bb (List.drop (Int.toNat ((aF ln 58) + 1)) ln))]
theorem pathParse_4 (ln : LB) (b0 : ln.length ≤ 9223372036854775807) (p0 : ln.length ≤ 140737488355328) (h0 : ¬ ([u8 58] = ln)) (h1 : 0 ≤ aF ln 58) (h2 : cU (List.take (Int.toNat (aF ln 58)) ln) = true) (h3 : ¬ (dk (bb (List.drop (Int.toNat ((aF ln 58) + 1)) ln)) = true)) (w : World) (hl : aH w) : bp 39 #[St' ln] w (.tuple #[.agg #[St' ([] : LB), St' ([] : LB)], .iface 63 (.agg #[.int .i64 10, St' zq14])]) := by
 have := dj ln 58
 have := gj (l := ln) (Q := aF ln 58) (by omega) (by omega)
 have := ev (l := ln) (P := (aF ln 58) + 1) (by omega) (by omega)
 have := jS (List.drop (Int.toNat ((aF ln 58) + 1)) ln)
 have ho : ∀ k r, (k, r) ∈ zU → aM (cx (bA (xA ln)) (fun j _ => aV (l := xA ln) rfl j) 1 aH aQ) k r := by
  unfold zU
  exact hc (bu (ar (l := [u8 58]) 1 58 rfl) (aA rfl) (by first | exact decide_eq_true rfl | exact decide_eq_true ‹_› | exact decide_eq_false ‹_›)) <|hc (ew (n := aF ln 58) e9 fB fA (aA rfl) (b7 (m := 58) rfl) (aG rfl) rfl) <|hc gL <|hc ia <|hc au <|hc gu <|hc (ji (s := (List.drop (Int.toNat ((aF ln 58) + 1)) ln)) (aA rfl) (ar (l := [u8 32, u8 9]) 2 2336 rfl) (aG (congrArg (fun l => St' l) ((iY _).symm)))) <|hc (iy (s := (List.take (Int.toNat (aF ln 58)) ln)) (aA rfl) (dJ (by assumption))) <|hc (ld (s := (bb (List.drop (Int.toNat ((aF ln 58) + 1)) ln))) (aA rfl) (jy (by assumption))) <|hnil
 refine cR (tb := (aT zU)) (ra := .tu [.ag [.s 0 0, .s 0 0], .aZ 63 (.ag [I6 10, .s 43 zn12])]) rfl ((ab (bA (xA ln)) (fun j _ => aV (l := xA ln) rfl j)).hyps ho) rfl gq.1 gq.2 (fun e => runParse_4 e ) (args := [St' ln]) (by simp only [aJ, Rel]; exact ⟨_, _, rfl, rfl, rfl⟩) w hl fun x hx => ?_
 simp only [Rel, aJ] at hx
 obtain ⟨_, rfl, ⟨_, _, rfl, ⟨_, rfl, ⟨_, _, rfl, ⟨rfl, _⟩, ⟨_, _, rfl, ⟨rfl, _⟩, rfl⟩⟩⟩, ⟨_, _, rfl, ⟨_, rfl, ⟨_, rfl, ⟨_, _, rfl, rfl, ⟨_, _, rfl, ⟨rfl, _⟩, rfl⟩⟩⟩⟩, rfl⟩⟩⟩ := hx
 rfl
def zT : LK := [(.bin .eql (.s 1 58) (.x 0), .b false), (.ext 67 [.x 0, .i .u8 (.ofNat 58)], .x 1), (.bin .geq (.x 1) (I6 0), .b true), (.sub (.x 0) none (some (.x 1)), .x 2), (.bin .add (.x 1) (I6 1), .x 3), (.sub (.x 0) (some (.x 3)) none, .x 4), (.call 34 [.x 4, .s 2 2336], .x 5), (.call 51 [.x 2], .b true), (.call 52 [.x 5], .b true), (.len (.x 2), .x 6), (.bin .gtr (.x 6) (I6 64), .b true)]
theorem runParse_5 (e : Nat) : okA (call (aT zT) 9000 39 [.x 0] ⟨H0 e , 4, 0, 0⟩) (.tu [.ag [.s 0 0, .s 0 0], .aZ 63 (.ag [I6 12, .s 31 zn13])]) = true := by kernel_rfl
def w9 (ln : LB) : List Value := [St' ln, .int .i64 (aF ln 58), St' (List.take (Int.toNat (aF ln 58)) ln), .int .i64 ((aF ln 58) + 1), St' (List.drop (Int.toNat ((aF ln 58) + 1)) ln), St' (bb (List.drop (Int.toNat ((aF ln 58) + 1)) ln)), .int .i64 ((aF ln 58))]
theorem pathParse_5 (ln : LB) (b0 : ln.length ≤ 9223372036854775807) (p0 : ln.length ≤ 140737488355328) (h0 : ¬ ([u8 58] = ln)) (h1 : 0 ≤ aF ln 58) (h2 : cU (List.take (Int.toNat (aF ln 58)) ln) = true) (h3 : dk (bb (List.drop (Int.toNat ((aF ln 58) + 1)) ln)) = true) (h4 : 64 < (aF ln 58)) (w : World) (hl : aH w) : bp 39 #[St' ln] w (.tuple #[.agg #[St' ([] : LB), St' ([] : LB)], .iface 63 (.agg #[.int .i64 12, St' zq15])]) := by
 have := dj ln 58
 have := gj (l := ln) (Q := aF ln 58) (by omega) (by omega)
 have := ev (l := ln) (P := (aF ln 58) + 1) (by omega) (by omega)
 have := jS (List.drop (Int.toNat ((aF ln 58) + 1)) ln)
 have ho : ∀ k r, (k, r) ∈ zT → aM (cx (bA (w9 ln)) (fun j _ => aV (l := w9 ln) rfl j) 1 aH aQ) k r := by
  unfold zT
  exact hc (bu (ar (l := [u8 58]) 1 58 rfl) (aA rfl) (by first | exact decide_eq_true rfl | exact decide_eq_true ‹_› | exact decide_eq_false ‹_›)) <|hc (ew (n := aF ln 58) e9 fB fA (aA rfl) (b7 (m := 58) rfl) (aG rfl) rfl) <|hc gL <|hc ia <|hc au <|hc gu <|hc (ji (s := (List.drop (Int.toNat ((aF ln 58) + 1)) ln)) (aA rfl) (ar (l := [u8 32, u8 9]) 2 2336 rfl) (aG (congrArg (fun l => St' l) ((iY _).symm)))) <|hc (iy (s := (List.take (Int.toNat (aF ln 58)) ln)) (aA rfl) (dJ (by assumption))) <|hc (ld (s := (bb (List.drop (Int.toNat ((aF ln 58) + 1)) ln))) (aA rfl) (dJ (by assumption))) <|hc av <|hc cZ <|hnil
 refine cR (tb := (aT zT)) (ra := .tu [.ag [.s 0 0, .s 0 0], .aZ 63 (.ag [I6 12, .s 31 zn13])]) rfl ((ab (bA (w9 ln)) (fun j _ => aV (l := w9 ln) rfl j)).hyps ho) rfl gq.1 gq.2 (fun e => runParse_5 e ) (args := [St' ln]) (by simp only [aJ, Rel]; exact ⟨_, _, rfl, rfl, rfl⟩) w hl fun x hx => ?_
 simp only [Rel, aJ] at hx
 obtain ⟨_, rfl, ⟨_, _, rfl, ⟨_, rfl, ⟨_, _, rfl, ⟨rfl, _⟩, ⟨_, _, rfl, ⟨rfl, _⟩, rfl⟩⟩⟩, ⟨_, _, rfl, ⟨_, rfl, ⟨_, rfl, ⟨_, _, rfl, rfl, ⟨_, _, rfl, ⟨rfl, _⟩, rfl⟩⟩⟩⟩, rfl⟩⟩⟩ := hx
 rfl
def zS : LK := [(.bin .eql (.s 1 58) (.x 0), .b false), (.ext 67 [.x 0, .i .u8 (.ofNat 58)], .x 1), (.bin .geq (.x 1) (I6 0), .b true), (.sub (.x 0) none (some (.x 1)), .x 2), (.bin .add (.x 1) (I6 1), .x 3), (.sub (.x 0) (some (.x 3)) none, .x 4), (.call 34 [.x 4, .s 2 2336], .x 5), (.call 51 [.x 2], .b true), (.call 52 [.x 5], .b true), (.len (.x 2), .x 6), (.bin .gtr (.x 6) (I6 64), .b false), (.len (.x 5), .x 7), (.bin .gtr (.x 7) (I6 512), .b true)]
theorem runParse_6 (e : Nat) : okA (call (aT zS) 9000 39 [.x 0] ⟨H0 e , 4, 0, 0⟩) (.tu [.ag [.s 0 0, .s 0 0], .aZ 63 (.ag [I6 12, .s 32 zn14])]) = true := by kernel_rfl
def w8 (ln : LB) : List Value := [St' ln, .int .i64 (aF ln 58), St' (List.take (Int.toNat (aF ln 58)) ln), .int .i64 ((aF ln 58) + 1), St' (List.drop (Int.toNat ((aF ln 58) + 1)) ln), St' (bb (List.drop (Int.toNat ((aF ln 58) + 1)) ln)), .int .i64 ((aF ln 58)), .int .i64 (((bb (List.drop (Int.toNat ((aF ln 58) + 1)) ln)).length : Int))]
theorem pathParse_6 (ln : LB) (b0 : ln.length ≤ 9223372036854775807) (p0 : ln.length ≤ 140737488355328) (h0 : ¬ ([u8 58] = ln)) (h1 : 0 ≤ aF ln 58) (h2 : cU (List.take (Int.toNat (aF ln 58)) ln) = true) (h3 : dk (bb (List.drop (Int.toNat ((aF ln 58) + 1)) ln)) = true) (h4 : ¬ (64 < (aF ln 58))) (h5 : 512 < ((bb (List.drop (Int.toNat ((aF ln 58) + 1)) ln)).length : Int)) (w : World) (hl : aH w) : bp 39 #[St' ln] w (.tuple #[.agg #[St' ([] : LB), St' ([] : LB)], .iface 63 (.agg #[.int .i64 12, St' zq16])]) := by
 have := dj ln 58
 have := gj (l := ln) (Q := aF ln 58) (by omega) (by omega)
 have := ev (l := ln) (P := (aF ln 58) + 1) (by omega) (by omega)
 have := jS (List.drop (Int.toNat ((aF ln 58) + 1)) ln)
 have ho : ∀ k r, (k, r) ∈ zS → aM (cx (bA (w8 ln)) (fun j _ => aV (l := w8 ln) rfl j) 1 aH aQ) k r := by
  unfold zS
  exact hc (bu (ar (l := [u8 58]) 1 58 rfl) (aA rfl) (by first | exact decide_eq_true rfl | exact decide_eq_true ‹_› | exact decide_eq_false ‹_›)) <|hc (ew (n := aF ln 58) e9 fB fA (aA rfl) (b7 (m := 58) rfl) (aG rfl) rfl) <|hc gL <|hc ia <|hc au <|hc gu <|hc (ji (s := (List.drop (Int.toNat ((aF ln 58) + 1)) ln)) (aA rfl) (ar (l := [u8 32, u8 9]) 2 2336 rfl) (aG (congrArg (fun l => St' l) ((iY _).symm)))) <|hc (iy (s := (List.take (Int.toNat (aF ln 58)) ln)) (aA rfl) (dJ (by assumption))) <|hc (ld (s := (bb (List.drop (Int.toNat ((aF ln 58) + 1)) ln))) (aA rfl) (dJ (by assumption))) <|hc av <|hc cN <|hc av <|hc cZ <|hnil
 refine cR (tb := (aT zS)) (ra := .tu [.ag [.s 0 0, .s 0 0], .aZ 63 (.ag [I6 12, .s 32 zn14])]) rfl ((ab (bA (w8 ln)) (fun j _ => aV (l := w8 ln) rfl j)).hyps ho) rfl gq.1 gq.2 (fun e => runParse_6 e ) (args := [St' ln]) (by simp only [aJ, Rel]; exact ⟨_, _, rfl, rfl, rfl⟩) w hl fun x hx => ?_
 simp only [Rel, aJ] at hx
 obtain ⟨_, rfl, ⟨_, _, rfl, ⟨_, rfl, ⟨_, _, rfl, ⟨rfl, _⟩, ⟨_, _, rfl, ⟨rfl, _⟩, rfl⟩⟩⟩, ⟨_, _, rfl, ⟨_, rfl, ⟨_, rfl, ⟨_, _, rfl, rfl, ⟨_, _, rfl, ⟨rfl, _⟩, rfl⟩⟩⟩⟩, rfl⟩⟩⟩ := hx
 rfl
theorem callsParse (ln : LB) (b0 : ln.length ≤ 9223372036854775807) (p0 : ln.length ≤ 140737488355328) (w : World) (hl : aH w) : bp 39 #[St' ln] w ((.tuple #[.agg #[St' (pA ln), St' (pB ln)], pE ln])) := by
 by_cases h0 : [u8 58] = ln
 ·rw [show ((.tuple #[.agg #[St' (pA ln), St' (pB ln)], pE ln]) : Value) = (.tuple #[.agg #[St' ([] : LB), St' ([] : LB)], .iface 63 (.agg #[.int .i64 10, St' qv])] : Value) from by first | (have hc := oJ (by assumption); exact cQ (k := 2) (gZ (by omega) (by show ¬ cU (pN ln) = true; rw [show pN ln = [] by unfold pN; rw [hc]; rfl]; exact nV)) (by decide)) | exact cQ (k := 1) (pk1 (by omega)) (by decide) | exact cQ (k := 2) (gZ (by omega) (by assumption)) (by decide) | exact cQ (k := 3) (pk3 (by omega) (by assumption) (by assumption)) (by decide) | exact cQ (k := 4) (pk4 (by omega) (by assumption) (by assumption) (by omega)) (by decide) | exact cQ (k := 5) (pk5 (by omega) (by assumption) (by assumption) (by omega) (by show 512 < (bb (List.drop (Int.toNat ((aF ln 58) + 1)) ln)).length; omega)) (by decide) | exact pvO (pk0 (by omega) (by assumption) (by assumption) (by omega) (by show ¬ 512 < (bb (List.drop (Int.toNat ((aF ln 58) + 1)) ln)).length; omega))]
  exact pathParse_1 ln b0 p0 h0 w hl
 ·by_cases h1 : 0 ≤ aF ln 58
  ·by_cases h2 : cU (List.take (Int.toNat (aF ln 58)) ln) = true
   ·by_cases h3 : dk (bb (List.drop (Int.toNat ((aF ln 58) + 1)) ln)) = true
    ·by_cases h4 : 64 < (aF ln 58)
     ·rw [show ((.tuple #[.agg #[St' (pA ln), St' (pB ln)], pE ln]) : Value) = (.tuple #[.agg #[St' ([] : LB), St' ([] : LB)], .iface 63 (.agg #[.int .i64 12, St' zq15])] : Value) from by first | (have hc := oJ (by assumption); exact cQ (k := 2) (gZ (by omega) (by show ¬ cU (pN ln) = true; rw [show pN ln = [] by unfold pN; rw [hc]; rfl]; exact nV)) (by decide)) | exact cQ (k := 1) (pk1 (by omega)) (by decide) | exact cQ (k := 2) (gZ (by omega) (by assumption)) (by decide) | exact cQ (k := 3) (pk3 (by omega) (by assumption) (by assumption)) (by decide) | exact cQ (k := 4) (pk4 (by omega) (by assumption) (by assumption) (by omega)) (by decide) | exact cQ (k := 5) (pk5 (by omega) (by assumption) (by assumption) (by omega) (by show 512 < (bb (List.drop (Int.toNat ((aF ln 58) + 1)) ln)).length; omega)) (by decide) | exact pvO (pk0 (by omega) (by assumption) (by assumption) (by omega) (by show ¬ 512 < (bb (List.drop (Int.toNat ((aF ln 58) + 1)) ln)).length; omega))]
      exact pathParse_5 ln b0 p0 h0 h1 h2 h3 h4 w hl
     ·by_cases h5 : 512 < ((bb (List.drop (Int.toNat ((aF ln 58) + 1)) ln)).length : Int)
      ·rw [show ((.tuple #[.agg #[St' (pA ln), St' (pB ln)], pE ln]) : Value) = (.tuple #[.agg #[St' ([] : LB), St' ([] : LB)], .iface 63 (.agg #[.int .i64 12, St' zq16])] : Value) from by first | (have hc := oJ (by assumption); exact cQ (k := 2) (gZ (by omega) (by show ¬ cU (pN ln) = true; rw [show pN ln = [] by unfold pN; rw [hc]; rfl]; exact nV)) (by decide)) | exact cQ (k := 1) (pk1 (by omega)) (by decide) | exact cQ (k := 2) (gZ (by omega) (by assumption)) (by decide) | exact cQ (k := 3) (pk3 (by omega) (by assumption) (by assumption)) (by decide) | exact cQ (k := 4) (pk4 (by omega) (by assumption) (by assumption) (by omega)) (by decide) | exact cQ (k := 5) (pk5 (by omega) (by assumption) (by assumption) (by omega) (by show 512 < (bb (List.drop (Int.toNat ((aF ln 58) + 1)) ln)).length; omega)) (by decide) | exact pvO (pk0 (by omega) (by assumption) (by assumption) (by omega) (by show ¬ 512 < (bb (List.drop (Int.toNat ((aF ln 58) + 1)) ln)).length; omega))]
       exact pathParse_6 ln b0 p0 h0 h1 h2 h3 h4 h5 w hl
      ·rw [show ((.tuple #[.agg #[St' (pA ln), St' (pB ln)], pE ln]) : Value) = (.tuple #[.agg #[St' (List.take (Int.toNat (aF ln 58)) ln), St' (bb (List.drop (Int.toNat ((aF ln 58) + 1)) ln))], .nilIface] : Value) from by first | (have hc := oJ (by assumption); exact cQ (k := 2) (gZ (by omega) (by show ¬ cU (pN ln) = true; rw [show pN ln = [] by unfold pN; rw [hc]; rfl]; exact nV)) (by decide)) | exact cQ (k := 1) (pk1 (by omega)) (by decide) | exact cQ (k := 2) (gZ (by omega) (by assumption)) (by decide) | exact cQ (k := 3) (pk3 (by omega) (by assumption) (by assumption)) (by decide) | exact cQ (k := 4) (pk4 (by omega) (by assumption) (by assumption) (by omega)) (by decide) | exact cQ (k := 5) (pk5 (by omega) (by assumption) (by assumption) (by omega) (by show 512 < (bb (List.drop (Int.toNat ((aF ln 58) + 1)) ln)).length; omega)) (by decide) | exact pvO (pk0 (by omega) (by assumption) (by assumption) (by omega) (by show ¬ 512 < (bb (List.drop (Int.toNat ((aF ln 58) + 1)) ln)).length; omega))]
       exact pathParse_3 ln b0 p0 h0 h1 h2 h3 h4 h5 w hl
    ·rw [show ((.tuple #[.agg #[St' (pA ln), St' (pB ln)], pE ln]) : Value) = (.tuple #[.agg #[St' ([] : LB), St' ([] : LB)], .iface 63 (.agg #[.int .i64 10, St' zq14])] : Value) from by first | (have hc := oJ (by assumption); exact cQ (k := 2) (gZ (by omega) (by show ¬ cU (pN ln) = true; rw [show pN ln = [] by unfold pN; rw [hc]; rfl]; exact nV)) (by decide)) | exact cQ (k := 1) (pk1 (by omega)) (by decide) | exact cQ (k := 2) (gZ (by omega) (by assumption)) (by decide) | exact cQ (k := 3) (pk3 (by omega) (by assumption) (by assumption)) (by decide) | exact cQ (k := 4) (pk4 (by omega) (by assumption) (by assumption) (by omega)) (by decide) | exact cQ (k := 5) (pk5 (by omega) (by assumption) (by assumption) (by omega) (by show 512 < (bb (List.drop (Int.toNat ((aF ln 58) + 1)) ln)).length; omega)) (by decide) | exact pvO (pk0 (by omega) (by assumption) (by assumption) (by omega) (by show ¬ 512 < (bb (List.drop (Int.toNat ((aF ln 58) + 1)) ln)).length; omega))]
     exact pathParse_4 ln b0 p0 h0 h1 h2 h3 w hl
   ·rw [show ((.tuple #[.agg #[St' (pA ln), St' (pB ln)], pE ln]) : Value) = (.tuple #[.agg #[St' ([] : LB), St' ([] : LB)], .iface 63 (.agg #[.int .i64 10, St' qv])] : Value) from by first | (have hc := oJ (by assumption); exact cQ (k := 2) (gZ (by omega) (by show ¬ cU (pN ln) = true; rw [show pN ln = [] by unfold pN; rw [hc]; rfl]; exact nV)) (by decide)) | exact cQ (k := 1) (pk1 (by omega)) (by decide) | exact cQ (k := 2) (gZ (by omega) (by assumption)) (by decide) | exact cQ (k := 3) (pk3 (by omega) (by assumption) (by assumption)) (by decide) | exact cQ (k := 4) (pk4 (by omega) (by assumption) (by assumption) (by omega)) (by decide) | exact cQ (k := 5) (pk5 (by omega) (by assumption) (by assumption) (by omega) (by show 512 < (bb (List.drop (Int.toNat ((aF ln 58) + 1)) ln)).length; omega)) (by decide) | exact pvO (pk0 (by omega) (by assumption) (by assumption) (by omega) (by show ¬ 512 < (bb (List.drop (Int.toNat ((aF ln 58) + 1)) ln)).length; omega))]
    exact pathParse_2 ln b0 p0 h0 h1 h2 w hl
  ·rw [show ((.tuple #[.agg #[St' (pA ln), St' (pB ln)], pE ln]) : Value) = (.tuple #[.agg #[St' ([] : LB), St' ([] : LB)], .iface 63 (.agg #[.int .i64 10, St' zq13])] : Value) from by first | (have hc := oJ (by assumption); exact cQ (k := 2) (gZ (by omega) (by show ¬ cU (pN ln) = true; rw [show pN ln = [] by unfold pN; rw [hc]; rfl]; exact nV)) (by decide)) | exact cQ (k := 1) (pk1 (by omega)) (by decide) | exact cQ (k := 2) (gZ (by omega) (by assumption)) (by decide) | exact cQ (k := 3) (pk3 (by omega) (by assumption) (by assumption)) (by decide) | exact cQ (k := 4) (pk4 (by omega) (by assumption) (by assumption) (by omega)) (by decide) | exact cQ (k := 5) (pk5 (by omega) (by assumption) (by assumption) (by omega) (by show 512 < (bb (List.drop (Int.toNat ((aF ln 58) + 1)) ln)).length; omega)) (by decide) | exact pvO (pk0 (by omega) (by assumption) (by assumption) (by omega) (by show ¬ 512 < (bb (List.drop (Int.toNat ((aF ln 58) + 1)) ln)).length; omega))]
   exact pathParse_0 ln b0 p0 h0 h1 w hl
theorem oN {x0 r : AV} {ln : LB} (i0 : Is (cx nu one 1 aH aQ) x0 (St' ln)) (hr : Den (cx nu one 1 aH aQ) r ((.tuple #[.agg #[St' (pA ln), St' (pB ln)], pE ln]))) (b0 : ln.length ≤ 9223372036854775807 := by omega) (p0 : ln.length ≤ 140737488355328 := by omega) : aM (cx nu one 1 aH aQ) (.call 39 [x0]) r := by
 intro ρ args ha w hl _
 simp only [aJ] at ha
 obtain ⟨v0, t0, rfl, a0, rfl⟩ := ha
 have e0 := i0 ρ _ a0; subst e0
 exact (callsParse ln b0 p0 w hl).mono fun e w' he => ⟨_, he.1, hr ρ, he.2⟩
end Go.Proofs.YtcjanblpboaleaaDoor.cgiCuts

