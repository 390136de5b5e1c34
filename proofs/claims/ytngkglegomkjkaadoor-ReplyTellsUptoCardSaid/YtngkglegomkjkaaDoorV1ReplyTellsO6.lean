/- A part of the proof: what an interpreter answers on partly known states is what the program answers. No condition. -/
import Derived.Test.YtngkglegomkjkaaDoorV1ReplyTellsO5
set_option maxRecDepth 100000
set_option linter.unusedVariables false
set_option linter.unusedSimpArgs false
set_option maxHeartbeats 4000000
namespace Go.Proofs.YtngkglegomkjkaaDoor.replyTells
open Go Go.AX Go.Proofs Go.Proofs.YtngkglegomkjkaaDoor
variable {nu : Nat → Value} {one : ∀ i, i < 1000000 → (nu i).oneCell' = true} {E' : Cx} {x' : Ex} {e' : LA} {h' : LE}
def cM (a : LB) : Bool := if aj a = cR then true else if aj a = eM then true else if aj a = iD then true else if aj a = jO then true else if aj a = lp then true else false
def aX (z : List (LB × LB)) : List (LB × LB) := z.filter fun p => !cM p.1
def dB (z : List (LB × LB)) : Bool := z.any fun p => cM p.1
def dH : List (LB × LB) → Nat
 | [] => 0
 | p :: z => if cM p.1 = true then 0 else dH z + 1
theorem gw : bc.fn.get 30 = some (fI Tryd.f30 0) ∧ (fI Tryd.f30 0).body.isSome = true := ⟨rfl, by kernel_rfl⟩
def zE : LK := [(.call 40 [.x 0], .x 2), (.bin .eql (.x 2) (.s 10 cJ), .b true)]
theorem runFrm_0 (e0 : Nat) (e1 : Nat) (e2 : Nat) : okA (call (aR zE) 9000 30 [.ag [.x 0, .x 1]] ⟨H0 e0 e1 e2 , 3, 0, 0⟩) (.b true) = true := by kernel_rfl
def vz (a v : LB) : List Value := [St' a, St' v, St' (aj a)]
theorem pathFrm_0 (a v : LB) (b0 : a.length ≤ 140737488355328) (h0 : (aj a) = cR) (w : World) (hl : aG w) : au 30 #[.agg #[St' a, St' v]] w (.bool true) := by
 have : (aj a).length = a.length := List.length_map ..
 have ho : ∀ k r, (k, r) ∈ zE → aS (cx (aY (vz a v)) (fun j _ => aT (l := vz a v) rfl j) 3 aG aJ) k r := by
  unfold zE
  exact hc (om (s := a) (aA rfl) (aF rfl)) <|hc (br (aA rfl) (aO (l := cR) 10 cJ rfl) (by first | exact decide_eq_true rfl | exact decide_eq_true ‹_› | exact decide_eq_false ‹_›)) <|hnil
 refine a7 (tb := (aR zE)) (ra := .b true) rfl ((ab (aY (vz a v)) (fun j _ => aT (l := vz a v) rfl j)).hyps ho) rfl gw.1 gw.2 (fun e0 e1 e2 => runFrm_0 e0 e1 e2 ) (args := [.agg #[St' a, St' v]]) (by simp only [aH, Rel]; exact ⟨_, _, rfl, ⟨_, rfl, ⟨_, _, rfl, rfl, ⟨_, _, rfl, rfl, rfl⟩⟩⟩, rfl⟩) w hl fun x hx => ?_
 simp only [Rel, aH] at hx
 exact hx
def zD : LK := [(.call 40 [.x 0], .x 2), (.bin .eql (.x 2) (.s 10 cJ), .b false), (.bin .eql (.x 2) (.s 10 cg), .b true)]
theorem runFrm_1 (e0 : Nat) (e1 : Nat) (e2 : Nat) : okA (call (aR zD) 9000 30 [.ag [.x 0, .x 1]] ⟨H0 e0 e1 e2 , 3, 0, 0⟩) (.b true) = true := by kernel_rfl
def vw (a v : LB) : List Value := [St' a, St' v, St' (aj a)]
theorem pathFrm_1 (a v : LB) (b0 : a.length ≤ 140737488355328) (h0 : ¬ ((aj a) = cR)) (h1 : (aj a) = eM) (w : World) (hl : aG w) : au 30 #[.agg #[St' a, St' v]] w (.bool true) := by
 have : (aj a).length = a.length := List.length_map ..
 have ho : ∀ k r, (k, r) ∈ zD → aS (cx (aY (vw a v)) (fun j _ => aT (l := vw a v) rfl j) 3 aG aJ) k r := by
  unfold zD
  exact hc (om (s := a) (aA rfl) (aF rfl)) <|hc (br (aA rfl) (aO (l := cR) 10 cJ rfl) (by first | exact decide_eq_true rfl | exact decide_eq_true ‹_› | exact decide_eq_false ‹_›)) <|hc (br (aA rfl) (aO (l := eM) 10 cg rfl) (by first | exact decide_eq_true rfl | exact decide_eq_true ‹_› | exact decide_eq_false ‹_›)) <|hnil
 refine a7 (tb := (aR zD)) (ra := .b true) rfl ((ab (aY (vw a v)) (fun j _ => aT (l := vw a v) rfl j)).hyps ho) rfl gw.1 gw.2 (fun e0 e1 e2 => runFrm_1 e0 e1 e2 ) (args := [.agg #[St' a, St' v]]) (by simp only [aH, Rel]; exact ⟨_, _, rfl, ⟨_, rfl, ⟨_, _, rfl, rfl, ⟨_, _, rfl, rfl, rfl⟩⟩⟩, rfl⟩) w hl fun x hx => ?_
 simp only [Rel, aH] at hx
 exact hx
def zC : LK := [(.call 40 [.x 0], .x 2), (.bin .eql (.x 2) (.s 10 cJ), .b false), (.bin .eql (.x 2) (.s 10 cg), .b false), (.bin .eql (.x 2) (.s 17 dJ), .b true)]
theorem runFrm_2 (e0 : Nat) (e1 : Nat) (e2 : Nat) : okA (call (aR zC) 9000 30 [.ag [.x 0, .x 1]] ⟨H0 e0 e1 e2 , 3, 0, 0⟩) (.b true) = true := by kernel_rfl
def vu (a v : LB) : List Value := [St' a, St' v, St' (aj a)]
theorem pathFrm_2 (a v : LB) (b0 : a.length ≤ 140737488355328) (h0 : ¬ ((aj a) = cR)) (h1 : ¬ ((aj a) = eM)) (h2 : (aj a) = iD) (w : World) (hl : aG w) : au 30 #[.agg #[St' a, St' v]] w (.bool true) := by
 have : (aj a).length = a.length := List.length_map ..
 have ho : ∀ k r, (k, r) ∈ zC → aS (cx (aY (vu a v)) (fun j _ => aT (l := vu a v) rfl j) 3 aG aJ) k r := by
  unfold zC
  exact hc (om (s := a) (aA rfl) (aF rfl)) <|hc (br (aA rfl) (aO (l := cR) 10 cJ rfl) (by first | exact decide_eq_true rfl | exact decide_eq_true ‹_› | exact decide_eq_false ‹_›)) <|hc (br (aA rfl) (aO (l := eM) 10 cg rfl) (by first | exact decide_eq_true rfl | exact decide_eq_true ‹_› | exact decide_eq_false ‹_›)) <|hc (br (aA rfl) (aO (l := iD) 17 dJ rfl) (by first | exact decide_eq_true rfl | exact decide_eq_true ‹_› | exact decide_eq_false ‹_›)) <|hnil
 refine a7 (tb := (aR zC)) (ra := .b true) rfl ((ab (aY (vu a v)) (fun j _ => aT (l := vu a v) rfl j)).hyps ho) rfl gw.1 gw.2 (fun e0 e1 e2 => runFrm_2 e0 e1 e2 ) (args := [.agg #[St' a, St' v]]) (by simp only [aH, Rel]; exact ⟨_, _, rfl, ⟨_, rfl, ⟨_, _, rfl, rfl, ⟨_, _, rfl, rfl, rfl⟩⟩⟩, rfl⟩) w hl fun x hx => ?_
 simp only [Rel, aH] at hx
 exact hx
def zB : LK := [(.call 40 [.x 0], .x 2), (.bin .eql (.x 2) (.s 10 cJ), .b false), (.bin .eql (.x 2) (.s 10 cg), .b false), (.bin .eql (.x 2) (.s 17 dJ), .b false), (.bin .eql (.x 2) (.s 14 dX), .b true)]
theorem runFrm_3 (e0 : Nat) (e1 : Nat) (e2 : Nat) : okA (call (aR zB) 9000 30 [.ag [.x 0, .x 1]] ⟨H0 e0 e1 e2 , 3, 0, 0⟩) (.b true) = true := by kernel_rfl
def vr (a v : LB) : List Value := [St' a, St' v, St' (aj a)]
theorem pathFrm_3 (a v : LB) (b0 : a.length ≤ 140737488355328) (h0 : ¬ ((aj a) = cR)) (h1 : ¬ ((aj a) = eM)) (h2 : ¬ ((aj a) = iD)) (h3 : (aj a) = jO) (w : World) (hl : aG w) : au 30 #[.agg #[St' a, St' v]] w (.bool true) := by
 have : (aj a).length = a.length := List.length_map ..
 have ho : ∀ k r, (k, r) ∈ zB → aS (cx (aY (vr a v)) (fun j _ => aT (l := vr a v) rfl j) 3 aG aJ) k r := by
  unfold zB
  exact hc (om (s := a) (aA rfl) (aF rfl)) <|hc (br (aA rfl) (aO (l := cR) 10 cJ rfl) (by first | exact decide_eq_true rfl | exact decide_eq_true ‹_› | exact decide_eq_false ‹_›)) <|hc (br (aA rfl) (aO (l := eM) 10 cg rfl) (by first | exact decide_eq_true rfl | exact decide_eq_true ‹_› | exact decide_eq_false ‹_›)) <|hc (br (aA rfl) (aO (l := iD) 17 dJ rfl) (by first | exact decide_eq_true rfl | exact decide_eq_true ‹_› | exact decide_eq_false ‹_›)) <|hc (br (aA rfl) (aO (l := jO) 14 dX rfl) (by first | exact decide_eq_true rfl | exact decide_eq_true ‹_› | exact decide_eq_false ‹_›)) <|hnil
 refine a7 (tb := (aR zB)) (ra := .b true) rfl ((ab (aY (vr a v)) (fun j _ => aT (l := vr a v) rfl j)).hyps ho) rfl gw.1 gw.2 (fun e0 e1 e2 => runFrm_3 e0 e1 e2 ) (args := [.agg #[St' a, St' v]]) (by simp only [aH, Rel]; exact ⟨_, _, rfl, ⟨_, rfl, ⟨_, _, rfl, rfl, ⟨_, _, rfl, rfl, rfl⟩⟩⟩, rfl⟩) w hl fun x hx => ?_
 simp only [Rel, aH] at hx
 exact hx
def zA : LK := [(.call 40 [.x 0], .x 2), (.bin .eql (.x 2) (.s 10 cJ), .b false), (.bin .eql (.x 2) (.s 10 cg), .b false), (.bin .eql (.x 2) (.s 17 dJ), .b false), (.bin .eql (.x 2) (.s 14 dX), .b false), (.bin .eql (.x 2) (.s 6 eD), .b true)]
theorem runFrm_4 (e0 : Nat) (e1 : Nat) (e2 : Nat) : okA (call (aR zA) 9000 30 [.ag [.x 0, .x 1]] ⟨H0 e0 e1 e2 , 3, 0, 0⟩) (.b true) = true := by kernel_rfl
def vq (a v : LB) : List Value := [St' a, St' v, St' (aj a)]
theorem pathFrm_4 (a v : LB) (b0 : a.length ≤ 140737488355328) (h0 : ¬ ((aj a) = cR)) (h1 : ¬ ((aj a) = eM)) (h2 : ¬ ((aj a) = iD)) (h3 : ¬ ((aj a) = jO)) (h4 : (aj a) = lp) (w : World) (hl : aG w) : au 30 #[.agg #[St' a, St' v]] w (.bool true) := by
 have : (aj a).length = a.length := List.length_map ..
 have ho : ∀ k r, (k, r) ∈ zA → aS (cx (aY (vq a v)) (fun j _ => aT (l := vq a v) rfl j) 3 aG aJ) k r := by
  unfold zA
  exact hc (om (s := a) (aA rfl) (aF rfl)) <|hc (br (aA rfl) (aO (l := cR) 10 cJ rfl) (by first | exact decide_eq_true rfl | exact decide_eq_true ‹_› | exact decide_eq_false ‹_›)) <|hc (br (aA rfl) (aO (l := eM) 10 cg rfl) (by first | exact decide_eq_true rfl | exact decide_eq_true ‹_› | exact decide_eq_false ‹_›)) <|hc (br (aA rfl) (aO (l := iD) 17 dJ rfl) (by first | exact decide_eq_true rfl | exact decide_eq_true ‹_› | exact decide_eq_false ‹_›)) <|hc (br (aA rfl) (aO (l := jO) 14 dX rfl) (by first | exact decide_eq_true rfl | exact decide_eq_true ‹_› | exact decide_eq_false ‹_›)) <|hc (br (aA rfl) (aO (l := lp) 6 eD rfl) (by first | exact decide_eq_true rfl | exact decide_eq_true ‹_› | exact decide_eq_false ‹_›)) <|hnil
 refine a7 (tb := (aR zA)) (ra := .b true) rfl ((ab (aY (vq a v)) (fun j _ => aT (l := vq a v) rfl j)).hyps ho) rfl gw.1 gw.2 (fun e0 e1 e2 => runFrm_4 e0 e1 e2 ) (args := [.agg #[St' a, St' v]]) (by simp only [aH, Rel]; exact ⟨_, _, rfl, ⟨_, rfl, ⟨_, _, rfl, rfl, ⟨_, _, rfl, rfl, rfl⟩⟩⟩, rfl⟩) w hl fun x hx => ?_
 simp only [Rel, aH] at hx
 exact hx
def y9 : LK := [(.call 40 [.x 0], .x 2), (.bin .eql (.x 2) (.s 10 cJ), .b false), (.bin .eql (.x 2) (.s 10 cg), .b false), (.bin .eql (.x 2) (.s 17 dJ), .b false), (.bin .eql (.x 2) (.s 14 dX), .b false), (.bin .eql (.x 2) (.s 6 eD), .b false)]
theorem runFrm_5 (e0 : Nat) (e1 : Nat) (e2 : Nat) : okA (call (aR y9) 9000 30 [.ag [.x 0, .x 1]] ⟨H0 e0 e1 e2 , 3, 0, 0⟩) (.b false) = true := by kernel_rfl
def vp (a v : LB) : List Value := [St' a, St' v, St' (aj a)]
theorem pathFrm_5 (a v : LB) (b0 : a.length ≤ 140737488355328) (h0 : ¬ ((aj a) = cR)) (h1 : ¬ ((aj a) = eM)) (h2 : ¬ ((aj a) = iD)) (h3 : ¬ ((aj a) = jO)) (h4 : ¬ ((aj a) = lp)) (w : World) (hl : aG w) : au 30 #[.agg #[St' a, St' v]] w (.bool false) := by
 have : (aj a).length = a.length := List.length_map ..
 have ho : ∀ k r, (k, r) ∈ y9 → aS (cx (aY (vp a v)) (fun j _ => aT (l := vp a v) rfl j) 3 aG aJ) k r := by
  unfold y9
  exact hc (om (s := a) (aA rfl) (aF rfl)) <|hc (br (aA rfl) (aO (l := cR) 10 cJ rfl) (by first | exact decide_eq_true rfl | exact decide_eq_true ‹_› | exact decide_eq_false ‹_›)) <|hc (br (aA rfl) (aO (l := eM) 10 cg rfl) (by first | exact decide_eq_true rfl | exact decide_eq_true ‹_› | exact decide_eq_false ‹_›)) <|hc (br (aA rfl) (aO (l := iD) 17 dJ rfl) (by first | exact decide_eq_true rfl | exact decide_eq_true ‹_› | exact decide_eq_false ‹_›)) <|hc (br (aA rfl) (aO (l := jO) 14 dX rfl) (by first | exact decide_eq_true rfl | exact decide_eq_true ‹_› | exact decide_eq_false ‹_›)) <|hc (br (aA rfl) (aO (l := lp) 6 eD rfl) (by first | exact decide_eq_true rfl | exact decide_eq_true ‹_› | exact decide_eq_false ‹_›)) <|hnil
 refine a7 (tb := (aR y9)) (ra := .b false) rfl ((ab (aY (vp a v)) (fun j _ => aT (l := vp a v) rfl j)).hyps ho) rfl gw.1 gw.2 (fun e0 e1 e2 => runFrm_5 e0 e1 e2 ) (args := [.agg #[St' a, St' v]]) (by simp only [aH, Rel]; exact ⟨_, _, rfl, ⟨_, rfl, ⟨_, _, rfl, rfl, ⟨_, _, rfl, rfl, rfl⟩⟩⟩, rfl⟩) w hl fun x hx => ?_
 simp only [Rel, aH] at hx
 exact hx
theorem callsFrm (a v : LB) (b0 : a.length ≤ 140737488355328) (w : World) (hl : aG w) : au 30 #[.agg #[St' a, St' v]] w (.bool (cM a)) := by
 by_cases h0 : (aj a) = cR
 ·rw [show (.bool (cM a) : Value) = (.bool true : Value) from by unfold cM; rw [if_pos h0]]
  exact pathFrm_0 a v b0 h0 w hl
 ·by_cases h1 : (aj a) = eM
  ·rw [show (.bool (cM a) : Value) = (.bool true : Value) from by unfold cM; rw [if_neg h0, if_pos h1]]
   exact pathFrm_1 a v b0 h0 h1 w hl
  ·by_cases h2 : (aj a) = iD
   ·rw [show (.bool (cM a) : Value) = (.bool true : Value) from by unfold cM; rw [if_neg h0, if_neg h1, if_pos h2]]
    exact pathFrm_2 a v b0 h0 h1 h2 w hl
   ·by_cases h3 : (aj a) = jO
    ·rw [show (.bool (cM a) : Value) = (.bool true : Value) from by unfold cM; rw [if_neg h0, if_neg h1, if_neg h2, if_pos h3]]
     exact pathFrm_3 a v b0 h0 h1 h2 h3 w hl
    ·by_cases h4 : (aj a) = lp
     ·rw [show (.bool (cM a) : Value) = (.bool true : Value) from by unfold cM; rw [if_neg h0, if_neg h1, if_neg h2, if_neg h3, if_pos h4]]
      exact pathFrm_4 a v b0 h0 h1 h2 h3 h4 w hl
     ·rw [show (.bool (cM a) : Value) = (.bool false : Value) from by unfold cM; rw [if_neg h0, if_neg h1, if_neg h2, if_neg h3, if_neg h4]]
      exact pathFrm_5 a v b0 h0 h1 h2 h3 h4 w hl
theorem zj {x0 r : AV} {a v : LB} (i0 : Is (cx nu one 3 aG aJ) x0 (.agg #[St' a, St' v])) (hr : Den (cx nu one 3 aG aJ) r (.bool (cM a))) (b0 : a.length ≤ 140737488355328 := by omega) : aS (cx nu one 3 aG aJ) (.call 30 [x0]) r := by
 intro ρ args ha w hl _
 simp only [aH] at ha
 obtain ⟨v0, t0, rfl, a0, rfl⟩ := ha
 have e0 := i0 ρ _ a0; subst e0
 exact (callsFrm a v b0 w hl).mono fun e w' he => ⟨_, he.1, hr ρ, he.2⟩
section
variable {z : List (LB × LB)} {i j : Int}
theorem kp_y (h0 : 0 ≤ j) (h1 : j < (z.length : Int)) (h : ¬ cM (aU z j.toNat).1 = true) : aX (z.take (Int.toNat (j + 1))) = aX (z.take j.toNat) ++ [aU z j.toNat] := by
 have e : cM (aU z j.toNat).1 = false := Bool.eq_false_iff.2 h
 rw [nj h0 h1, aX, aX, List.filter_append, List.filter_cons, e]; rfl
theorem kp_n (h0 : 0 ≤ j) (h1 : j < (z.length : Int)) (h : cM (aU z j.toNat).1 = true) : aX (z.take (Int.toNat (j + 1))) = aX (z.take j.toNat) := by
 rw [nj h0 h1, aX, aX, List.filter_append, List.filter_cons, h]; simp
def dlS (z : List (LB × LB)) (j : Nat) : List (LB × LB) := aX (z.take j) ++ z.drop (aX (z.take j)).length
theorem mG (z : List (LB × LB)) (j : Nat) : (aX (z.take j)).length ≤ j ∧ (aX (z.take j)).length ≤ z.length := by
 have := List.length_filter_le (fun p : LB × LB => !cM p.1) (z.take j)
 rw [List.length_take] at this
 unfold aX; omega
theorem dp (z : List (LB × LB)) : (aX z).length ≤ z.length := List.length_filter_le _ _
theorem jI (z : List (LB × LB)) (j : Nat) : (dlS z j).length = z.length := by
 have := mG z j
 unfold dlS; rw [List.length_append, List.length_drop]; omega
theorem Aa (h0 : 0 ≤ j) (h1 : j < (z.length : Int)) : (dlS z j.toNat).getD j.toNat ([], []) = aU z j.toNat := by
 have := mG z j.toNat
 unfold dlS aU
 rw [List.getD_eq_getElem?_getD, List.getElem?_append_right (by omega), List.getElem?_drop, List.getD_eq_getElem?_getD]
 congr 2; omega
theorem dl_y (h0 : 0 ≤ j) (h1 : j < (z.length : Int)) (h : ¬ cM (aU z j.toNat).1 = true) : (dlS z j.toNat).set (Int.toNat ((aX (z.take j.toNat)).length : Int)) ((aU z j.toNat).1, (aU z j.toNat).2) = dlS z (Int.toNat (j + 1)) := by
 have := mG z j.toNat
 unfold dlS
 rw [kp_y h0 h1 h, Int.toNat_natCast, List.length_append, List.set_append_right _ _ (Nat.le_refl _), Nat.sub_self]
 rw [List.drop_eq_getElem_cons (show (aX (z.take j.toNat)).length < z.length by omega), List.set_cons_zero]
 simp
theorem dl_n (h0 : 0 ≤ j) (h1 : j < (z.length : Int)) (h : cM (aU z j.toNat).1 = true) : dlS z j.toNat = dlS z (Int.toNat (j + 1)) := by
 unfold dlS; rw [kp_n h0 h1 h]
theorem dl_e (h1 : ¬ j < (z.length : Int)) : dlS z j.toNat = aX z ++ z.drop (aX z).length ∧ aX (z.take j.toNat) = aX z := by
 unfold dlS; rw [List.take_of_length_le (by omega)]; exact ⟨rfl, rfl⟩
theorem an_n (h0 : 0 ≤ i) (h1 : i < (z.length : Int)) (h : dB (z.take i.toNat) = false) (hn : ¬ cM (aU z i.toNat).1 = true) : dB (z.take (Int.toNat (i + 1))) = false := by
 have e : cM (aU z i.toNat).1 = false := Bool.eq_false_iff.2 hn
 unfold dB at h ⊢
 rw [nj h0 h1, List.any_append, h, List.any_cons, List.any_nil, e]; rfl
theorem an_e (h1 : ¬ i < (z.length : Int)) (h : dB (z.take i.toNat) = false) : dB z = false := by
 rw [List.take_of_length_le (by omega)] at h; exact h
theorem A3 (h : dB z = false) : aX z = z := by
 unfold dB at h; unfold aX
 rw [List.filter_eq_self]
 intro p hp
 rw [List.any_eq_false] at h
 have := h p hp
 simpa using this
end
theorem En : ∀ (z : List (LB × LB)) (i : Nat), i < z.length → dB (z.take i) = false → cM (aU z i).1 = true → dB z = true ∧ dH z = i
 | [], _, h, _, _ => absurd h (Nat.not_lt_zero _)
 | p :: z, 0, _, _, h => by
  have h : cM p.1 = true := h
  unfold dB dH; rw [List.any_cons, h]; exact ⟨rfl, rfl⟩
 | p :: z, i + 1, hl, ha, h => by
  unfold dB at ha
  rw [List.take_succ_cons, List.any_cons, Bool.or_eq_false_iff] at ha
  obtain ⟨g1, g2⟩ := En z i (by simpa using hl) ha.2 h
  unfold dB at g1 ⊢; unfold dH
  rw [List.any_cons, g1, ha.1, g2, Bool.or_true]; exact ⟨rfl, rfl⟩
theorem Em : ∀ z : List (LB × LB), dB z = true → dH z < z.length ∧ aX (z.take (dH z + 1)) = z.take (dH z)
 | [], h => by cases h
 | p :: z, h => by
  unfold dH
  cases hp : cM p.1 with
  | true => refine ⟨by simp, ?_⟩; simp [aX, hp]
  | false =>
   unfold dB at h
   rw [List.any_cons, hp, Bool.false_or] at h
   obtain ⟨g1, g2⟩ := Em z h
   refine ⟨by simp only [Bool.false_eq_true, if_false, List.length_cons]; omega, ?_⟩
   simp only [Bool.false_eq_true, if_false]
   rw [List.take_succ_cons, List.take_succ_cons, aX, List.filter_cons, hp]
   unfold aX at g2
   simp [g2]
theorem aO8 {z : List (LB × LB)} (h : dB z = true) : dlS z (Int.toNat ((dH z : Int) + 1)) = z ∧ ((aX (z.take (Int.toNat ((dH z : Int) + 1)))).length : Int) = (dH z : Int) := by
 obtain ⟨g1, g2⟩ := Em z h
 rw [show Int.toNat ((dH z : Int) + 1) = dH z + 1 by omega]
 unfold dlS
 rw [g2, List.length_take, Nat.min_eq_left (by omega), List.take_append_drop]
 exact ⟨rfl, rfl⟩
theorem dl_fin {z A R : List (LB × LB)} {n : Int} (hA : A = aX z ++ z.drop (aX z).length) (hn : n = ((aX z).length : Int)) : (A.take n.toNat ++ R).take n.toNat = aX z := by
 subst hA; subst hn
 simp
def okB (z : List (LB × LB)) : Prop := ∀ q, q ∈ z → q.1.length ≤ 1048576 ∧ q.2.length ≤ 1048576
theorem eX {z : List (LB × LB)} {i : Int} (h : okB z) (h0 : 0 ≤ i) (h1 : i < (z.length : Int)) : (aU z i.toNat).1.length ≤ 1048576 ∧ (aU z i.toNat).2.length ≤ 1048576 := by
 have hi : i.toNat < z.length := by omega
 refine h _ ?_
 rw [aU, List.getD_eq_getElem?_getD, List.getElem?_eq_getElem hi]; exact List.getElem_mem hi
theorem dT {z : List (LB × LB)} (h : okB z) : okB (aX z) := fun q hq => h q (List.mem_filter.1 hq).1
theorem tZ {z : List (LB × LB)} (h : ∀ q, q ∈ z → cf q) : ∀ q, q ∈ aX z → cf q := fun q hq => h q (List.mem_filter.1 hq).1
theorem kpa_len (z : List (LB × LB)) : (aX z ++ z.drop (aX z).length).length = z.length := by
 have := dp z
 rw [List.length_append, List.length_drop]; omega
theorem rc_len {A : List (LB × LB)} {j : Nat} (h : j ≤ A.length) : (A.take j ++ List.replicate (A.length - j) ([], [])).length = A.length := by
 rw [List.length_append, List.length_take, List.length_replicate]; omega
noncomputable def Ap : Code := fa (Tryd.f39.body.getD .skip) 0
theorem keyIx : fH (ct (Tryd.f39.body.getD .skip)) 2 0 0 = true := by kernel_rfl
def kq : List Nat := []
def E0 : LA := [(0, .sr 23), (1, .fn 30 [] []), (7, .x 0), (8, .x 1)]
def EW : LE := [(23, .r 2000000 37 2 false)]
def vd (z : List (LB × LB)) (i : Int) : List Value := [.int .i64 ((z.length : Int)), .int .i64 (i), St' ([] : LB), St' ((aU z i.toNat).1), St' ((aU z i.toNat).2), .int .i64 (i + 1), St' ([] : LB), St' ((aU z i.toNat).1), St' ((aU z i.toNat).2), St' ([] : LB)]
def roIx_0 (z : List (LB × LB)) (i : Int) : List Value := [aN aM z, bJ ([] : List LB), bJ ([] : List LB), bJ ([] : List LB)]
def pB (st : Nat × Int) : LA := E0
def zh (st : Nat × Int) : LE := EW
def nuIx (z : List (LB × LB)) (st : Nat × Int) : List Value := vd z (st.2)
def roIx (z : List (LB × LB)) (st : Nat × Int) : List Value := roIx_0 z (st.2)
theorem onIx (z : List (LB × LB)) (st : Nat × Int) : ∀ j, (aY (nuIx z st) j).oneCell' = true := by
 intro j
 unfold nuIx
 exact aT (l := vd z (st.2)) rfl j
theorem ebIx (st : Nat × Int) : (dG (pB st) && eG kq) = true := by
 unfold pB
 rfl
noncomputable def DIx (z : List (LB × LB)) (st : Nat × Int) (X : Nat → Value) : Cx := cx (ay (nuIx z st) (rX (roIx z st) X)) (az (onIx z st)) 3 aG aJ
abbrev CjIx (z : List (LB × LB)) (tag : Nat) (i : Int) : Prop := (0 ≤ i) ∧ (i ≤ (z.length : Int)) ∧ (z.length ≤ 40) ∧ (∀ q, q ∈ z → cf q) ∧ (okB z) ∧ (dB (z.take i.toNat) = false) ∧ (tag < 1)
def kD (z : List (LB × LB)) (st : Nat × Int) : Prop := CjIx z st.1 (st.2)
theorem Ck {z : List (LB × LB)} {tag : Nat} {i : Int} (h : CjIx z tag i) : kD z (tag, i) := h
theorem Bp (z : List (LB × LB)) (tag : Nat) (i : Int) (h : kD z (tag, i)) : CjIx z tag i := h
def qR (z : List (LB × LB)) (st : Nat × Int) : Nat := (z.length - (st.2).toNat)
abbrev sI (z : List (LB × LB)) (E' : Cx) (ex' : Ex) (epx' : LA) (hpx' : LE) (st : Nat × Int) (X : Nat → Value) : Prop := bm E' Ap kq 19 ex' 3 24 24 24 pB zh epx' hpx' (kD z) (qR z) (DIx z) st X
noncomputable abbrev BQ (z : List (LB × LB)) (i : Int) (X : Nat → Value) : Cx := cx (ay (vd z i) (rX (roIx_0 z i) X)) (az (aT (l := vd z i) rfl)) 3 aG aJ
noncomputable abbrev sC (h : LK) (x : Ex) (th : LA) (sg : List (Nat × Nat)) (m : Nat) (ep : LA) (hp : LE) : Bool := cr (code (aR h) 2000 [] Ap (cN (cV E0 kq) 19) ⟨bA EW .leaf, 24, 0, 0⟩) x kq 19 24 th sg 24 m ep hp
theorem stIx_0 {z : List (LB × LB)} {i : Int} {X : Nat → Value} {h : LK} (y : Nat × Int) {th : LA} {sg : List (Nat × Nat)} (ho : ∀ a' r', (a', r') ∈ h → aS (BQ z i X) a' r') (hy : kD z y) (lt : qR z y < qR z (0, i)) (ht : bN (BQ z i X) (DIx z y X) th) (run : sC h .normal th sg 24 (pB y) (zh y) = true) : sI z E' x' e' h' (0, i) X :=
 bm.next (tb := aR h) (L := []) (f := 2000) y ((ab _ _).hyps ho) (bU.nil _) rfl hy lt ht run
theorem lvIx_0 {z : List (LB × LB)} {i : Int} {X : Nat → Value} {h : LK} {th : LA} {sg : List (Nat × Nat)} (hne : eK x' .normal = false) (ho : ∀ a' r', (a', r') ∈ h → aS (BQ z i X) a' r') (ht : bN (BQ z i X) E' th) (run : sC h x' th sg 24 e' h' = true) : sI z E' x' e' h' (0, i) X :=
 bm.leave (tb := aR h) (L := []) (f := 2000) ((ab _ _).hyps ho) (bU.nil _) rfl hne ht run
def Dw : LK := [(.bin .lss (.x 1) (.x 0), .b true), (.el (.x 2000000) (.x 1) 2 0, .x 3), (.el (.x 2000000) (.x 1) 2 1, .x 4), (.call 30 [.ag [.x 3, .x 4]], .b false), (.bin .add (.x 1) (I6 1), .x 5)]
theorem runIx_p0 : sC Dw .normal [(0, .x 0), (1, .x 5), (2000000, .x 2000000)] [] 24 E0 EW = true := by kernel_rfl
def Dv : LK := [(.bin .lss (.x 1) (.x 0), .b true), (.el (.x 2000000) (.x 1) 2 0, .x 7), (.el (.x 2000000) (.x 1) 2 1, .x 8), (.call 30 [.ag [.x 7, .x 8]], .b true)]
theorem runIx_p1 : sC Dv .ret [(0, .x 1), (2000000, .x 2000000)] [] 24 [(4, .x 0)] [(23, .r 2000000 37 2 false)] = true := by kernel_rfl
def Du : LK := [(.bin .lss (.x 1) (.x 0), .b false)]
theorem runIx_p2 : sC Du (.exit 0) [(2000000, .x 2000000)] [] 24 [] [(23, .r 2000000 37 2 false)] = true := by kernel_rfl
section
variable {z : List (LB × LB)} {i : Int} {X : Nat → Value}
theorem aW3 (hI : kD z (0, i)) (h0 : i < (z.length : Int)) (h1 : ¬ (cM ((aU z i.toNat).1) = true)) : sI z E' x' e' h' (0, i) X := by
 obtain ⟨i0, i1, i2, i3, i4, i5, it⟩ := Bp z 0 i hI
 have h6 := eX i4 i0 (by omega)
 have := eW (l := z) (by assumption) i.toNat
 refine stIx_0 (h := Dw) (0, (i + 1)) ?_ (Ck ⟨by omega, by omega, i2, i3, i4, an_n i0 (by omega) i5 (by assumption), by omega⟩) (by show z.length - (i + 1).toNat < z.length - i.toNat; omega) (aW (v := .int .i64 ((z.length : Int))) (c8 (b := ((i + 1))) rfl rfl (by omega) (aW (v := aN aM z) (ao)))) runIx_p0
 unfold Dw
 exact hc dO <|hc (cY (j := i.toNat) (d := ([], [])) bH (by decide) (aA rfl) (aA rfl) (aF rfl) (by omega) (by omega) rfl) <|hc (cY (j := i.toNat) (d := ([], [])) bH (by decide) (aA rfl) (aA rfl) (aF rfl) (by omega) (by omega) rfl) <|hc (zj (xT (aA rfl) (aA rfl)) (denBF (by assumption))) <|hc cQ <|hnil
end
def aX0 (z : List (LB × LB)) : List Value := []
def roEIx_0 (z : List (LB × LB)) : List Value := [aN aM z]
noncomputable def EIx_0 (z : List (LB × LB)) : Cx := cx (ay (aX0 z) (rX (roEIx_0 z) (fun _ => .bool true))) (az (aT (l := aX0 z) rfl)) 3 aG aJ
theorem roundsIx_0 (z : List (LB × LB)) (x0 : dB z = false) (st : Nat × Int) (X : Nat → Value) (hI : kD z st) : sI z (EIx_0 z) (.exit 0) [] [(23, .r 2000000 37 2 false)] st X := by
 obtain ⟨tag, i⟩ := st
 have hI0 := hI
 obtain ⟨i0, i1, i2, i3, i4, i5, it⟩ := Bp z tag i hI
 obtain rfl : tag = 0 := by omega
 skip
 by_cases h0 : i < (z.length : Int)
 ·by_cases h1 : cM ((aU z i.toNat).1) = true
  ·exfalso; have hC := (En z i.toNat (by omega) i5 (by assumption)).1; rw [x0] at hC; cases hC
  ·exact aW3 hI0 h0 h1
 ·refine lvIx_0 (h := Du) rfl ?_ (aW (v := aN aM z) (ao)) runIx_p2
  unfold Du
  exact hc iJ <|hnil
theorem lfOkIx_0 (z : List (LB × LB)) (x0 : dB z = false) : cI (cx nu one 3 aG aJ) (EIx_0 z) Ap kq 19 (.exit 0) 3 24 24 24 pB zh [] [(23, .r 2000000 37 2 false)] (kD z) (DIx z) :=
 fb (qR z) (fun _ _ => rfl) (fun _ _ => rfl) (fun _ _ => rfl) (fun st X t ht => fX.trans (fV ((by decide : ∀ t, t ∈ kq → t < 1000000) t ht))) rfl rfl rfl ebIx rfl rfl (roundsIx_0 z x0)
def aW9 (z : List (LB × LB)) : List Value := [.int .i64 ((dH z : Int))]
def roEIx_1 (z : List (LB × LB)) : List Value := [aN aM z]
noncomputable def EIx_1 (z : List (LB × LB)) : Cx := cx (ay (aW9 z) (rX (roEIx_1 z) (fun _ => .bool true))) (az (aT (l := aW9 z) rfl)) 3 aG aJ
theorem roundsIx_1 (z : List (LB × LB)) (x0 : dB z = true) (st : Nat × Int) (X : Nat → Value) (hI : kD z st) : sI z (EIx_1 z) .ret [(4, .x 0)] [(23, .r 2000000 37 2 false)] st X := by
 obtain ⟨tag, i⟩ := st
 have hI0 := hI
 obtain ⟨i0, i1, i2, i3, i4, i5, it⟩ := Bp z tag i hI
 obtain rfl : tag = 0 := by omega
 skip
 by_cases h0 : i < (z.length : Int)
 ·by_cases h1 : cM ((aU z i.toNat).1) = true
  ·have h6 := eX i4 i0 (by omega)
   have := eW (l := z) (by assumption) i.toNat
   refine lvIx_0 (h := Dv) rfl ?_ (bn (v := .int .i64 (i)) (u := .int .i64 ((dH z : Int))) rfl rfl (congrArg (Value.int .i64) (by have hC := (En z i.toNat (by omega) i5 (by assumption)).2; omega)) (aW (v := aN aM z) (ao))) runIx_p1
   unfold Dv
   exact hc dO <|hc (cY (j := i.toNat) (d := ([], [])) bH (by decide) (aA rfl) (aA rfl) (aF rfl) (by omega) (by omega) rfl) <|hc (cY (j := i.toNat) (d := ([], [])) bH (by decide) (aA rfl) (aA rfl) (aF rfl) (by omega) (by omega) rfl) <|hc (zj (xT (aA rfl) (aA rfl)) (pF (by assumption))) <|hnil
  ·exact aW3 hI0 h0 h1
 ·exfalso; have hC := an_e (by omega) i5; rw [x0] at hC; cases hC
theorem lfOkIx_1 (z : List (LB × LB)) (x0 : dB z = true) : cI (cx nu one 3 aG aJ) (EIx_1 z) Ap kq 19 .ret 3 24 24 24 pB zh [(4, .x 0)] [(23, .r 2000000 37 2 false)] (kD z) (DIx z) :=
 fb (qR z) (fun _ _ => rfl) (fun _ _ => rfl) (fun _ _ => rfl) (fun st X t ht => fX.trans (fV ((by decide : ∀ t, t ∈ kq → t < 1000000) t ht))) rfl rfl rfl ebIx rfl rfl (roundsIx_1 z x0)
noncomputable def FL : Code := fa (Tryd.f28.body.getD .skip) 0
theorem keyDl : fH (ct (Tryd.f28.body.getD .skip)) 5 0 0 = true := by kernel_rfl
def oQ : List Nat := []
def AU : LA := [(0, .sr 23), (1, .fn 30 [] []), (5, .x 0), (6, .x 1)]
def zi : LE := [(23, .r 2000000 37 2 false)]
def wH (z : List (LB × LB)) (j : Int) : List Value := [.int .i64 (((aX (z.take j.toNat)).length : Int)), .int .i64 (j), St' ([] : LB), .int .i64 ((z.length : Int)), St' ((aU z j.toNat).1), St' ((aU z j.toNat).2), St' ((aU (dlS z j.toNat) (Int.toNat (((aX (z.take j.toNat)).length : Int)))).1), .int .i64 (((aX (z.take j.toNat)).length : Int) + 1), .int .i64 (j + 1), St' ([] : LB), .int .i64 ((z.length : Int)), St' ((aU z j.toNat).1), St' ((aU z j.toNat).2), .int .i64 (j + 1), St' ([] : LB), .int .i64 ((z.length : Int))]
def roDl_0 (z : List (LB × LB)) (j : Int) : List Value := [aN aM (dlS z j.toNat), bJ ([] : List LB), aN aM (dlS z (Int.toNat (j + 1))), bJ ([] : List LB), bJ ([] : List LB)]
def rO (st : Nat × Int) : LA := AU
def hpDl (st : Nat × Int) : LE := zi
def nuDl (z : List (LB × LB)) (st : Nat × Int) : List Value := wH z (st.2)
def roDl (z : List (LB × LB)) (st : Nat × Int) : List Value := roDl_0 z (st.2)
theorem onDl (z : List (LB × LB)) (st : Nat × Int) : ∀ j, (aY (nuDl z st) j).oneCell' = true := by
 intro j
 unfold nuDl
 exact aT (l := wH z (st.2)) rfl j
theorem ebDl (st : Nat × Int) : (dG (rO st) && eG oQ) = true := by
 unfold rO
 rfl
noncomputable def DDl (z : List (LB × LB)) (st : Nat × Int) (X : Nat → Value) : Cx := cx (ay (nuDl z st) (rX (roDl z st) X)) (az (onDl z st)) 3 aG aJ
abbrev CjDl (z : List (LB × LB)) (tag : Nat) (j : Int) : Prop := (0 ≤ j) ∧ (j ≤ (z.length : Int)) ∧ (z.length ≤ 40) ∧ (∀ q, q ∈ z → cf q) ∧ (okB z) ∧ (tag < 1)
def lj (z : List (LB × LB)) (st : Nat × Int) : Prop := CjDl z st.1 (st.2)
theorem Cl {z : List (LB × LB)} {tag : Nat} {j : Int} (h : CjDl z tag j) : lj z (tag, j) := h
theorem Bq (z : List (LB × LB)) (tag : Nat) (j : Int) (h : lj z (tag, j)) : CjDl z tag j := h
def wu (z : List (LB × LB)) (st : Nat × Int) : Nat := (z.length - (st.2).toNat)
abbrev sJ (z : List (LB × LB)) (E' : Cx) (ex' : Ex) (epx' : LA) (hpx' : LE) (st : Nat × Int) (X : Nat → Value) : Prop := bm E' FL oQ 42 ex' 3 24 24 25 rO hpDl epx' hpx' (lj z) (wu z) (DDl z) st X
noncomputable abbrev BV (z : List (LB × LB)) (j : Int) (X : Nat → Value) : Cx := cx (ay (wH z j) (rX (roDl_0 z j) X)) (az (aT (l := wH z j) rfl)) 3 aG aJ
noncomputable abbrev sH (h : LK) (x : Ex) (th : LA) (sg : List (Nat × Nat)) (m : Nat) (ep : LA) (hp : LE) : Bool := cr (code (aR h) 2000 [] FL (cN (cV AU oQ) 42) ⟨bA zi .leaf, 24, 0, 0⟩) x oQ 42 25 th sg 24 m ep hp
theorem stDl_0 {z : List (LB × LB)} {j : Int} {X : Nat → Value} {h : LK} (y : Nat × Int) {th : LA} {sg : List (Nat × Nat)} (ho : ∀ a' r', (a', r') ∈ h → aS (BV z j X) a' r') (hy : lj z y) (lt : wu z y < wu z (0, j)) (ht : bN (BV z j X) (DDl z y X) th) (run : sH h .normal th sg 24 (rO y) (hpDl y) = true) : sJ z E' x' e' h' (0, j) X :=
 bm.next (tb := aR h) (L := []) (f := 2000) y ((ab _ _).hyps ho) (bU.nil _) rfl hy lt ht run
theorem lvDl_0 {z : List (LB × LB)} {j : Int} {X : Nat → Value} {h : LK} {th : LA} {sg : List (Nat × Nat)} (hne : eK x' .normal = false) (ho : ∀ a' r', (a', r') ∈ h → aS (BV z j X) a' r') (ht : bN (BV z j X) E' th) (run : sH h x' th sg 25 e' h' = true) : sJ z E' x' e' h' (0, j) X :=
 bm.leave (tb := aR h) (L := []) (f := 2000) ((ab _ _).hyps ho) (bU.nil _) rfl hne ht run
def EL : LK := [(.rl (.x 2000000) 2, .x 3), (.bin .lss (.x 1) (.x 3), .b true), (.el (.x 2000000) (.x 1) 2 0, .x 4), (.el (.x 2000000) (.x 1) 2 1, .x 5), (.call 30 [.ag [.x 4, .x 5]], .b false), (.el (.x 2000000) (.x 0) 2 0, .x 6), (.rp (.x 2000000) (.x 0) [.x 4, .x 5], .x 2000002), (.bin .add (.x 0) (I6 1), .x 7), (.bin .add (.x 1) (I6 1), .x 8)]
theorem runDl_p0 : sH EL .normal [(0, .x 7), (1, .x 8), (2000000, .x 2000002)] [] 24 AU zi = true := by kernel_rfl
def EK : LK := [(.rl (.x 2000000) 2, .x 10), (.bin .lss (.x 1) (.x 10), .b true), (.el (.x 2000000) (.x 1) 2 0, .x 11), (.el (.x 2000000) (.x 1) 2 1, .x 12), (.call 30 [.ag [.x 11, .x 12]], .b true), (.bin .add (.x 1) (I6 1), .x 13)]
theorem runDl_p1 : sH EK .normal [(0, .x 0), (1, .x 13), (2000000, .x 2000000)] [] 24 AU zi = true := by kernel_rfl
def EJ : LK := [(.rl (.x 2000000) 2, .x 15), (.bin .lss (.x 1) (.x 15), .b false)]
theorem runDl_p2 : sH EJ (.exit 0) [(0, .x 0), (2000000, .x 2000000)] [] 25 [(0, .sr 23), (5, .x 0)] [(23, .r 2000000 37 2 false)] = true := by kernel_rfl
section
variable {z : List (LB × LB)} {j : Int} {X : Nat → Value}
theorem nxDl_p0 (hI : lj z (0, j)) (h0 : j < (z.length : Int)) (h1 : ¬ (cM ((aU z j.toNat).1) = true)) : sJ z E' x' e' h' (0, j) X := by
 obtain ⟨i0, i1, i2, i3, i4, it⟩ := Bq z 0 j hI
 have h6 := eX i4 i0 (by omega)
 have hkl := mG z j.toNat
 have hdl := jI z j.toNat
 have := eW (l := z) (by assumption) j.toNat
 refine stDl_0 (h := EL) (0, (j + 1)) ?_ (Cl ⟨by omega, by omega, i2, i3, i4, by omega⟩) (by show z.length - (j + 1).toNat < z.length - j.toNat; omega) (bn (v := .int .i64 (((aX (z.take j.toNat)).length : Int) + 1)) (u := .int .i64 (((aX (z.take (Int.toNat (j + 1)))).length : Int))) rfl rfl (congrArg (Value.int .i64) (by rw [kp_y i0 (by omega) (by assumption), List.length_append]; rfl)) (c8 (b := ((j + 1))) rfl rfl (by omega) (bn (v := aN aM (dlS z (Int.toNat (j + 1)))) (u := aN aM (dlS z (Int.toNat (j + 1)))) rfl rfl (rfl) (ao)))) runDl_p0
 unfold EL
 exact hc (cK bH (aA rfl) (aF rfl) (by first | omega | (simp <;> omega))) <|hc dO <|hc (cY (j := j.toNat) (d := ([], [])) bH (by decide) (aA rfl) (aA rfl) (aF rfl) (by omega) (by rw [jI]; omega) (by rw [Aa i0 (by omega)]; rfl)) <|hc (cY (j := j.toNat) (d := ([], [])) bH (by decide) (aA rfl) (aA rfl) (aF rfl) (by omega) (by rw [jI]; omega) (by rw [Aa i0 (by omega)]; rfl)) <|hc (zj (xT (aA rfl) (aA rfl)) (denBF (by assumption))) <|hc (cY (j := (Int.toNat (((aX (z.take j.toNat)).length : Int)))) (d := ([], [])) bH (by decide) (aA rfl) (aA rfl) (aF rfl) (by omega) (by rw [jI]; omega) rfl) <|hc (kRp (j := (Int.toNat (((aX (z.take j.toNat)).length : Int)))) (p := (aU z j.toNat).1) (q := (aU z j.toNat).2) (aA rfl) (aA rfl) (aA rfl) (aA rfl) (aF (congrArg (aN aM) (dl_y i0 (by omega) (by assumption)).symm)) (by omega) (by rw [jI]; omega)) <|hc cQ <|hc cQ <|hnil
theorem nxDl_p1 (hI : lj z (0, j)) (h0 : j < (z.length : Int)) (h1 : cM ((aU z j.toNat).1) = true) : sJ z E' x' e' h' (0, j) X := by
 obtain ⟨i0, i1, i2, i3, i4, it⟩ := Bq z 0 j hI
 have h6 := eX i4 i0 (by omega)
 have hkl := mG z j.toNat
 have hdl := jI z j.toNat
 have := eW (l := z) (by assumption) j.toNat
 refine stDl_0 (h := EK) (0, (j + 1)) ?_ (Cl ⟨by omega, by omega, i2, i3, i4, by omega⟩) (by show z.length - (j + 1).toNat < z.length - j.toNat; omega) (bn (v := .int .i64 (((aX (z.take j.toNat)).length : Int))) (u := .int .i64 (((aX (z.take (Int.toNat (j + 1)))).length : Int))) rfl rfl (congrArg (Value.int .i64) (by rw [kp_n i0 (by omega) (by assumption)])) (c8 (b := ((j + 1))) rfl rfl (by omega) (bn (v := aN aM (dlS z j.toNat)) (u := aN aM (dlS z (Int.toNat (j + 1)))) rfl rfl (congrArg (aN aM) (dl_n i0 (by omega) (by assumption))) (ao)))) runDl_p1
 unfold EK
 exact hc (cK bH (aA rfl) (aF rfl) (by first | omega | (simp <;> omega))) <|hc dO <|hc (cY (j := j.toNat) (d := ([], [])) bH (by decide) (aA rfl) (aA rfl) (aF rfl) (by omega) (by rw [jI]; omega) (by rw [Aa i0 (by omega)]; rfl)) <|hc (cY (j := j.toNat) (d := ([], [])) bH (by decide) (aA rfl) (aA rfl) (aF rfl) (by omega) (by rw [jI]; omega) (by rw [Aa i0 (by omega)]; rfl)) <|hc (zj (xT (aA rfl) (aA rfl)) (pF (by assumption))) <|hc cQ <|hnil
end
def aX1 (z : List (LB × LB)) : List Value := [.int .i64 (((aX z).length : Int))]
def roEDl_0 (z : List (LB × LB)) : List Value := [aN aM (aX z ++ z.drop (aX z).length)]
noncomputable def EDl_0 (z : List (LB × LB)) : Cx := cx (ay (aX1 z) (rX (roEDl_0 z) (fun _ => .bool true))) (az (aT (l := aX1 z) rfl)) 3 aG aJ
theorem roundsDl_0 (z : List (LB × LB)) (st : Nat × Int) (X : Nat → Value) (hI : lj z st) : sJ z (EDl_0 z) (.exit 0) [(0, .sr 23), (5, .x 0)] [(23, .r 2000000 37 2 false)] st X := by
 obtain ⟨tag, j⟩ := st
 have hI0 := hI
 obtain ⟨i0, i1, i2, i3, i4, it⟩ := Bq z tag j hI
 obtain rfl : tag = 0 := by omega
 skip
 have hkl := mG z j.toNat
 have hdl := jI z j.toNat
 by_cases h0 : j < (z.length : Int)
 ·by_cases h1 : cM ((aU z j.toNat).1) = true
  ·exact nxDl_p1 hI0 h0 h1
  ·exact nxDl_p0 hI0 h0 h1
 ·have hkl := mG z j.toNat
  have hdl := jI z j.toNat
  refine lvDl_0 (h := EJ) rfl ?_ (bn (v := .int .i64 (((aX (z.take j.toNat)).length : Int))) (u := .int .i64 (((aX z).length : Int))) rfl rfl (congrArg (Value.int .i64) (by rw [(dl_e (by omega)).2])) (bn (v := aN aM (dlS z j.toNat)) (u := aN aM (aX z ++ z.drop (aX z).length)) rfl rfl (congrArg (aN aM) (dl_e (by omega)).1) (ao))) runDl_p2
  unfold EJ
  exact hc (cK bH (aA rfl) (aF rfl) (by first | omega | (simp <;> omega))) <|hc iJ <|hnil
theorem lfOkDl_0 (z : List (LB × LB)) : cI (cx nu one 3 aG aJ) (EDl_0 z) FL oQ 42 (.exit 0) 3 24 24 25 rO hpDl [(0, .sr 23), (5, .x 0)] [(23, .r 2000000 37 2 false)] (lj z) (DDl z) :=
 fb (wu z) (fun _ _ => rfl) (fun _ _ => rfl) (fun _ _ => rfl) (fun st X t ht => fX.trans (fV ((by decide : ∀ t, t ∈ oQ → t < 1000000) t ht))) rfl rfl rfl ebDl rfl rfl (roundsDl_0 z)
noncomputable def gx : FI := (bc.fn.get 28).getD default
theorem jF : bc.fn.get 28 = some gx := by kernel_rfl
theorem jE : gx.body = some (Tryd.f28.body.getD .skip) := by kernel_rfl
theorem fiB28 : gx.body.isSome = true := by rw [jE]; rfl
theorem lV : (ct (Tryd.f28.body.getD .skip)).all (fun b => !(iM (Go.AX.keyOf b) 8888888)) = true := by kernel_rfl
noncomputable def AE : FI := (bc.fn.get 39).getD default
theorem aY8 : bc.fn.get 39 = some AE := by kernel_rfl
theorem aH7 : AE.body = some (Tryd.f39.body.getD .skip) := by kernel_rfl
def A4 : List AV := [.sr 23, .fn 30 [] []]
def oe : LE := [(23, .r 2000000 37 2 false)]
def aX2 (z : List (LB × LB)) : List Value := [St' ([] : LB), .int .i64 ((z.length : Int)), St' ([] : LB), .int .i64 ((z.length : Int)), .int .i64 ((dH z : Int)), .int .i64 ((dH z : Int) + 1), .int .i64 (((aX z).length : Int))]
def roDel23 (z : List (LB × LB)) : List Value := [aN aM z, bJ ([] : List LB), aN aM z, bJ ([] : List LB), aN aM z, aN aM (aX z ++ z.drop (aX z).length), aN aM ((aX z ++ z.drop (aX z).length).take (Int.toNat (((aX z).length : Int)))), aN aM ((aX z ++ z.drop (aX z).length).take (Int.toNat (((aX z).length : Int))) ++ List.replicate ((aX z ++ z.drop (aX z).length).length - (Int.toNat (((aX z).length : Int)))) ([], [])), aN aM (aX z)]
noncomputable def pS (z : List (LB × LB)) : Cx := cx (ay (aX2 z) (rX (roDel23 z) (fun _ => .bool true))) (az (aT (l := aX2 z) rfl)) 3 aG aJ
def EN : LK := [(.rl (.x 2000000) 2, .x 1)]
def lh1 : LH := ⟨3, 24, 24, [(23, .r 2000000 37 2 false)], [(23, .r 2000002 37 2 false)]⟩
def lf1 : LF := ⟨2, 19, [(0, .sr 23), (1, .fn 30 [] []), (7, .x 1), (8, I6 0)], [], (.exit 0), [], some lh1⟩
noncomputable def aB8 : Tab := bf ((aR EN)) 39 AE [lf1]
theorem runDel23_c0 (e : Unit) : dA (call aB8 2000 28 A4 ⟨bA oe ((fun _ : Unit => T.leaf) e), 24, 0, 0⟩) (.sr 23) [(2000000, .x 2000002)] [] 24 84 [(23, .r 2000000 37 2 false)] = true := by kernel_rfl
def EM : LK := [(.rl (.x 2000000) 2, .x 3), (.bin .eql (.x 4) (.i .i64 (.negSucc 0)), .b false), (.bin .add (.x 4) (I6 1), .x 5), (.rt (.x 2000005) (.x 6) 2, .x 2000006), (.rc 37 (.x 2000005) (.x 6), .x 2000007), (.rt (.x 2000007) (.x 6) 2, .x 2000008)]
def lh2 : LH := ⟨3, 24, 24, [(23, .r 2000000 37 2 false)], [(23, .r 2000004 37 2 false)]⟩
def lf2 : LF := ⟨2, 19, [(0, .sr 23), (1, .fn 30 [] []), (7, .x 3), (8, I6 0)], [], .ret, [(4, .x 4)], some lh2⟩
def lh3 : LH := ⟨3, 24, 25, [(23, .r 2000004 37 2 false)], [(23, .r 2000005 37 2 false)]⟩
def lf3 : LF := ⟨5, 42, [(0, .sr 23), (1, .fn 30 [] []), (5, .x 4), (6, .x 5)], [], (.exit 0), [(0, .sr 23), (5, .x 6)], some lh3⟩
noncomputable def aB7 : Tab := bf (bf ((aR EM)) 39 AE [lf2]) 28 gx [lf3]
theorem runDel23_c1 (e : Unit) : dA (call aB7 2000 28 A4 ⟨bA oe ((fun _ : Unit => T.leaf) e), 24, 0, 0⟩) (.sr 24) [(2000000, .x 2000008)] [(24, 25)] 24 84 [(24, .r 2000000 37 2 false)] = true := by kernel_rfl
def aD4 (z : List (LB × LB)) : List Value := []
def roEDel23_0 (z : List (LB × LB)) : List Value := [aN aM z]
noncomputable def aQ2 (z : List (LB × LB)) : Cx := cx (ay (aD4 z) (rX (roEDel23_0 z) (fun _ => .bool true))) (az (aT (l := aD4 z) rfl)) 3 aG aJ
theorem Ak {l : LF} {h : LH} {qA : Nat × AV} (z : List (LB × LB)) (p0 : z.length ≤ 40) (p1 : ∀ q, q ∈ z → cf q) (p2 : okB z) (x0 : dB z = false) (hl : l.hp = some h) (hq : l.post = [qA]) (hsA : ju l h 3 24 84 = true) {bD : LA} {a8 : List (Nat × Nat)} (cB : bN (cx nu one 3 aG aJ) (pS z) bD) (h0 : (iP bD (cd 24 24 a8) A4 (l.pre.map (·.2)) && ck 24 24 bD a8 (bA h.pre .leaf) oe && cj (numsOf 24 a8 oe)) = true) {bB : LA} (cA : bN (aQ2 z) (cx nu one 3 aG aJ) bB) (hx : (inA bB (cd 24 84 []) 8 qA.2 (.sr 23) && ck 24 84 bB [] (bA [(23, .r 2000000 37 2 false)] .leaf) h.post && cj (numsOf 24 [] h.post)) = true) : iY (cx nu one 3 aG aJ) 28 l := by
 by_cases d0 : dB z = true
 ·exfalso; simp_all
 ·have ho : ∀ a' r', (a', r') ∈ EN → aS (pS z) a' r' := by
   unfold EN
   exact hc (cK bH (aA rfl) (aF rfl) (by first | omega | (simp <;> omega))) <|hnil
  exact dQ (D := pS z) (E := aQ2 z) (Gf := (fun _ : Unit => T.leaf)) (f := 2000) (tb := aB8) rfl rfl rfl rfl rfl rfl hl hq hsA rfl cB h0 cA hx (bM.dn ((ab _ _).hyps ho) (by omega) aY8 aH7 (bq (dm rfl ⟨0, keyIx, cI.use (l := lf1) (h := lh1) (lfOkIx_0 z (Bool.eq_false_iff.2 (by assumption))) (0, (0 : Int)) (Ck ⟨by omega, by omega, by omega, by assumption, by assumption, rfl, by omega⟩) rfl (by kernel_rfl) (bD := [(0, .x 1), (1, I6 0), (2000000, .x 2000000)]) (a8 := []) (fun X => aW (v := .int .i64 ((z.length : Int))) (eF ed (aW (v := aN aM z) (ao)))) (by kernel_rfl) (bB := [(2000002, .x 2000000)]) (aW (v := aN aM z) (ao)) (by kernel_rfl)⟩) bj)) rfl (cG (by omega) (by omega) jF) fiB28 (.inl ⟨fun _ => rfl, ⟨()⟩⟩) (aW (v := aN aM z) (ao)) runDel23_c0
def aD3 (z : List (LB × LB)) : List Value := []
def roEDel23_1 (z : List (LB × LB)) : List Value := [aN aM (aX z)]
noncomputable def aQ1 (z : List (LB × LB)) : Cx := cx (ay (aD3 z) (rX (roEDel23_1 z) (fun _ => .bool true))) (az (aT (l := aD3 z) rfl)) 3 aG aJ
theorem Aj {l : LF} {h : LH} {qA : Nat × AV} (z : List (LB × LB)) (p0 : z.length ≤ 40) (p1 : ∀ q, q ∈ z → cf q) (p2 : okB z) (x0 : dB z = true) (hl : l.hp = some h) (hq : l.post = [qA]) (hsA : ju l h 3 24 84 = true) {bD : LA} {a8 : List (Nat × Nat)} (cB : bN (cx nu one 3 aG aJ) (pS z) bD) (h0 : (iP bD (cd 24 24 a8) A4 (l.pre.map (·.2)) && ck 24 24 bD a8 (bA h.pre .leaf) oe && cj (numsOf 24 a8 oe)) = true) {bB : LA} (cA : bN (aQ1 z) (cx nu one 3 aG aJ) bB) (hx : (inA bB (cd 24 84 []) 8 qA.2 (.sr 24) && ck 24 84 bB [] (bA [(24, .r 2000000 37 2 false)] .leaf) h.post && cj (numsOf 24 [] h.post)) = true) : iY (cx nu one 3 aG aJ) 28 l := by
 by_cases d0 : dB z = true
 ·have hfx := (Em z (by assumption)).1
  have hkl := dp z
  have hka := kpa_len z
  have ho : ∀ a' r', (a', r') ∈ EM → aS (pS z) a' r' := by
   unfold EM
   exact hc (cK bH (aA rfl) (aF rfl) (by first | omega | (simp <;> omega))) <|hc (kEqI (aA rfl) (bw (m := (-1)) rfl) (decide_eq_false (by omega))) <|hc cQ <|hc (kRt (f := aM) (j := (Int.toNat (((aX z).length : Int)))) bH (aA rfl) (aA rfl) (aF rfl) (by omega) (by omega)) <|hc (kRc (j := (Int.toNat (((aX z).length : Int)))) (by refine ⟨_, rfl, ?_, ?_⟩ <;> kernel_rfl) (aA rfl) (aA rfl) (aF rfl) (by omega) (by omega)) <|hc (kRt (f := aM) (j := (Int.toNat (((aX z).length : Int)))) bH (aA rfl) (aA rfl) (aF (congrArg (aN aM) (dl_fin rfl rfl).symm)) (by omega) (by rw [rc_len (by omega)]; omega)) <|hnil
  exact dQ (D := pS z) (E := aQ1 z) (Gf := (fun _ : Unit => T.leaf)) (f := 2000) (tb := aB7) rfl rfl rfl rfl rfl rfl hl hq hsA rfl cB h0 cA hx (bM.dn (bM.dn ((ab _ _).hyps ho) (by omega) aY8 aH7 (bq (dm rfl ⟨0, keyIx, cI.use (l := lf2) (h := lh2) (lfOkIx_1 z (by assumption)) (0, (0 : Int)) (Ck ⟨by omega, by omega, by omega, by assumption, by assumption, rfl, by omega⟩) rfl (by kernel_rfl) (bD := [(0, .x 3), (1, I6 0), (2000000, .x 2000000)]) (a8 := []) (fun X => aW (v := .int .i64 ((z.length : Int))) (eF ed (aW (v := aN aM z) (ao)))) (by kernel_rfl) (bB := [(4, .x 0), (2000004, .x 2000000)]) (aW (v := .int .i64 ((dH z : Int))) (aW (v := aN aM z) (ao))) (by kernel_rfl)⟩) bj)) (by omega) (cG (by omega) (by omega) jF) jE (bq (dm rfl ⟨0, keyDl, cI.use (l := lf3) (h := lh3) (lfOkDl_0 z) (0, ((dH z : Int) + 1)) (Cl ⟨by omega, by omega, by omega, by assumption, by assumption, by omega⟩) rfl (by kernel_rfl) (bD := [(0, .x 4), (1, .x 5), (2000000, .x 2000004)]) (a8 := []) (fun X => bn (v := .int .i64 ((dH z : Int))) (u := .int .i64 (((aX (z.take (Int.toNat ((dH z : Int) + 1)))).length : Int))) rfl rfl (congrArg (Value.int .i64) (aO8 (by assumption)).2.symm) (bn (v := .int .i64 ((dH z : Int) + 1)) (u := .int .i64 (((dH z : Int) + 1))) rfl rfl (by first | rfl | (congr 1; omega)) (bn (v := aN aM z) (u := aN aM (dlS z (Int.toNat ((dH z : Int) + 1)))) rfl rfl (congrArg (aN aM) (aO8 (by assumption)).1.symm) (ao)))) (by kernel_rfl) (bB := [(6, .x 0), (2000005, .x 2000000)]) (aW (v := .int .i64 (((aX z).length : Int))) (aW (v := aN aM (aX z ++ z.drop (aX z).length)) (ao))) (by kernel_rfl)⟩) bj)) rfl (fh (by omega)) fiB28 (.inl ⟨fun _ => rfl, ⟨()⟩⟩) (aW (v := aN aM (aX z)) (ao)) runDel23_c1
 ·exfalso; simp_all
end Go.Proofs.YtngkglegomkjkaaDoor.replyTells

