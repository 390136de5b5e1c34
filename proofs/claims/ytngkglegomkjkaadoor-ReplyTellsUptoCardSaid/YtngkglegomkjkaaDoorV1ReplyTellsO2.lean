/- A part of the proof: what an interpreter answers on partly known states is what the program answers. No condition. -/
import Derived.Test.YtngkglegomkjkaaDoorV1ReplyTellsO
set_option maxRecDepth 100000
set_option linter.unusedVariables false
set_option linter.unusedSimpArgs false
set_option maxHeartbeats 4000000
namespace Go.Proofs.YtngkglegomkjkaaDoor.replyTells
open Go Go.AX Go.Proofs Go.Proofs.YtngkglegomkjkaaDoor
variable {nu : Nat → Value} {one : ∀ i, i < 1000000 → (nu i).oneCell' = true} {E' : Cx} {x' : Ex} {e' : LA} {h' : LE}
def aV (n : Int) : LB := if n = 100 then nU else if n = 200 then [u8 79, u8 75] else if n = 204 then nT else if n = 302 then nS else if n = 304 then nR else if n = 400 then nQ else if n = 404 then nP else if n = 405 then nO else if n = 413 then nN else if n = 431 then nM else if n = 500 then nL else if n = 501 then nK else if n = 502 then nJ else if n = 503 then nI else if n = 504 then nH else if n = 505 then nG else nF
theorem rsS_p {P : LB → Prop} (n : Int) (h : P nU ∧ P [u8 79, u8 75] ∧ P nT ∧ P nS ∧ P nR ∧ P nQ ∧ P nP ∧ P nO ∧ P nN ∧ P nM ∧ P nL ∧ P nK ∧ P nJ ∧ P nI ∧ P nH ∧ P nG ∧ P nF) : P (aV n) := by
 unfold aV
 obtain ⟨q0, q1, q2, q3, q4, q5, q6, q7, q8, q9, q10, q11, q12, q13, q14, q15, q16⟩ := h
 iterate 16 (refine iteInduction (fun _ => by assumption) (fun _ => ?_))
 assumption
theorem ic (n : Int) : 1 ≤ (aV n).length ∧ (aV n).length ≤ 40 := rsS_p (P := fun l => 1 ≤ l.length ∧ l.length ≤ 40) n ⟨by decide, by decide, by decide, by decide, by decide, by decide, by decide, by decide, by decide, by decide, by decide, by decide, by decide, by decide, by decide, by decide, by decide⟩
theorem cO : bc.fn.get 5 = some (fI Tryd.f5 0) ∧ (fI Tryd.f5 0).body.isSome = true := ⟨rfl, by kernel_rfl⟩
def x5 : LK := [(.bin .eql (.x 0) (I6 100), .b true)]
theorem runRsn_0 (e0 : Nat) (e1 : Nat) (e2 : Nat) : okA (call (aR x5) 9000 5 [.x 0] ⟨H0 e0 e1 e2 , 3, 0, 0⟩) (.s 8 sw) = true := by kernel_rfl
def uQ (n : Int) : List Value := [.int .i64 (n)]
theorem pathRsn_0 (n : Int) (b0 : -9223372036854775808 ≤ n) (b1 : n ≤ 9223372036854775807) (h0 : n = 100) (w : World) (hl : aG w) : au 5 #[.int .i64 n] w (St' nU) := by
 have ho : ∀ k r, (k, r) ∈ x5 → aS (cx (aY (uQ n)) (fun j _ => aT (l := uQ n) rfl j) 3 aG aJ) k r := by
  unfold x5
  exact hc bu <|hnil
 refine a7 (tb := (aR x5)) (ra := .s 8 sw) rfl ((ab (aY (uQ n)) (fun j _ => aT (l := uQ n) rfl j)).hyps ho) rfl cO.1 cO.2 (fun e0 e1 e2 => runRsn_0 e0 e1 e2 ) (args := [.int .i64 n]) (by simp only [aH, Rel]; exact ⟨_, _, rfl, rfl, rfl⟩) w hl fun x hx => ?_
 simp only [Rel, aH] at hx
 exact hx.1
def xz : LK := [(.bin .eql (.x 0) (I6 100), .b false), (.bin .eql (.x 0) (I6 200), .b true)]
theorem runRsn_1 (e0 : Nat) (e1 : Nat) (e2 : Nat) : okA (call (aR xz) 9000 5 [.x 0] ⟨H0 e0 e1 e2 , 3, 0, 0⟩) (.s 2 19279) = true := by kernel_rfl
def uP (n : Int) : List Value := [.int .i64 (n)]
theorem pathRsn_1 (n : Int) (b0 : -9223372036854775808 ≤ n) (b1 : n ≤ 9223372036854775807) (h0 : ¬ (n = 100)) (h1 : n = 200) (w : World) (hl : aG w) : au 5 #[.int .i64 n] w (St' [u8 79, u8 75]) := by
 have ho : ∀ k r, (k, r) ∈ xz → aS (cx (aY (uP n)) (fun j _ => aT (l := uP n) rfl j) 3 aG aJ) k r := by
  unfold xz
  exact hc aQ <|hc bu <|hnil
 refine a7 (tb := (aR xz)) (ra := .s 2 19279) rfl ((ab (aY (uP n)) (fun j _ => aT (l := uP n) rfl j)).hyps ho) rfl cO.1 cO.2 (fun e0 e1 e2 => runRsn_1 e0 e1 e2 ) (args := [.int .i64 n]) (by simp only [aH, Rel]; exact ⟨_, _, rfl, rfl, rfl⟩) w hl fun x hx => ?_
 simp only [Rel, aH] at hx
 exact hx.1
def xn : LK := [(.bin .eql (.x 0) (I6 100), .b false), (.bin .eql (.x 0) (I6 200), .b false), (.bin .eql (.x 0) (I6 204), .b true)]
theorem runRsn_2 (e0 : Nat) (e1 : Nat) (e2 : Nat) : okA (call (aR xn) 9000 5 [.x 0] ⟨H0 e0 e1 e2 , 3, 0, 0⟩) (.s 10 su) = true := by kernel_rfl
def uH (n : Int) : List Value := [.int .i64 (n)]
theorem pathRsn_2 (n : Int) (b0 : -9223372036854775808 ≤ n) (b1 : n ≤ 9223372036854775807) (h0 : ¬ (n = 100)) (h1 : ¬ (n = 200)) (h2 : n = 204) (w : World) (hl : aG w) : au 5 #[.int .i64 n] w (St' nT) := by
 have ho : ∀ k r, (k, r) ∈ xn → aS (cx (aY (uH n)) (fun j _ => aT (l := uH n) rfl j) 3 aG aJ) k r := by
  unfold xn
  exact hc aQ <|hc aQ <|hc bu <|hnil
 refine a7 (tb := (aR xn)) (ra := .s 10 su) rfl ((ab (aY (uH n)) (fun j _ => aT (l := uH n) rfl j)).hyps ho) rfl cO.1 cO.2 (fun e0 e1 e2 => runRsn_2 e0 e1 e2 ) (args := [.int .i64 n]) (by simp only [aH, Rel]; exact ⟨_, _, rfl, rfl, rfl⟩) w hl fun x hx => ?_
 simp only [Rel, aH] at hx
 exact hx.1
def xm : LK := [(.bin .eql (.x 0) (I6 100), .b false), (.bin .eql (.x 0) (I6 200), .b false), (.bin .eql (.x 0) (I6 204), .b false), (.bin .eql (.x 0) (I6 302), .b true)]
theorem runRsn_3 (e0 : Nat) (e1 : Nat) (e2 : Nat) : okA (call (aR xm) 9000 5 [.x 0] ⟨H0 e0 e1 e2 , 3, 0, 0⟩) (.s 5 431349919558) = true := by kernel_rfl
def uG (n : Int) : List Value := [.int .i64 (n)]
theorem pathRsn_3 (n : Int) (b0 : -9223372036854775808 ≤ n) (b1 : n ≤ 9223372036854775807) (h0 : ¬ (n = 100)) (h1 : ¬ (n = 200)) (h2 : ¬ (n = 204)) (h3 : n = 302) (w : World) (hl : aG w) : au 5 #[.int .i64 n] w (St' nS) := by
 have ho : ∀ k r, (k, r) ∈ xm → aS (cx (aY (uG n)) (fun j _ => aT (l := uG n) rfl j) 3 aG aJ) k r := by
  unfold xm
  exact hc aQ <|hc aQ <|hc aQ <|hc bu <|hnil
 refine a7 (tb := (aR xm)) (ra := .s 5 431349919558) rfl ((ab (aY (uG n)) (fun j _ => aT (l := uG n) rfl j)).hyps ho) rfl cO.1 cO.2 (fun e0 e1 e2 => runRsn_3 e0 e1 e2 ) (args := [.int .i64 n]) (by simp only [aH, Rel]; exact ⟨_, _, rfl, rfl, rfl⟩) w hl fun x hx => ?_
 simp only [Rel, aH] at hx
 exact hx.1
def xl : LK := [(.bin .eql (.x 0) (I6 100), .b false), (.bin .eql (.x 0) (I6 200), .b false), (.bin .eql (.x 0) (I6 204), .b false), (.bin .eql (.x 0) (I6 302), .b false), (.bin .eql (.x 0) (I6 304), .b true)]
theorem runRsn_4 (e0 : Nat) (e1 : Nat) (e2 : Nat) : okA (call (aR xl) 9000 5 [.x 0] ⟨H0 e0 e1 e2 , 3, 0, 0⟩) (.s 12 ss) = true := by kernel_rfl
def uF (n : Int) : List Value := [.int .i64 (n)]
theorem pathRsn_4 (n : Int) (b0 : -9223372036854775808 ≤ n) (b1 : n ≤ 9223372036854775807) (h0 : ¬ (n = 100)) (h1 : ¬ (n = 200)) (h2 : ¬ (n = 204)) (h3 : ¬ (n = 302)) (h4 : n = 304) (w : World) (hl : aG w) : au 5 #[.int .i64 n] w (St' nR) := by
 have ho : ∀ k r, (k, r) ∈ xl → aS (cx (aY (uF n)) (fun j _ => aT (l := uF n) rfl j) 3 aG aJ) k r := by
  unfold xl
  exact hc aQ <|hc aQ <|hc aQ <|hc aQ <|hc bu <|hnil
 refine a7 (tb := (aR xl)) (ra := .s 12 ss) rfl ((ab (aY (uF n)) (fun j _ => aT (l := uF n) rfl j)).hyps ho) rfl cO.1 cO.2 (fun e0 e1 e2 => runRsn_4 e0 e1 e2 ) (args := [.int .i64 n]) (by simp only [aH, Rel]; exact ⟨_, _, rfl, rfl, rfl⟩) w hl fun x hx => ?_
 simp only [Rel, aH] at hx
 exact hx.1
def xk : LK := [(.bin .eql (.x 0) (I6 100), .b false), (.bin .eql (.x 0) (I6 200), .b false), (.bin .eql (.x 0) (I6 204), .b false), (.bin .eql (.x 0) (I6 302), .b false), (.bin .eql (.x 0) (I6 304), .b false), (.bin .eql (.x 0) (I6 400), .b true)]
theorem runRsn_5 (e0 : Nat) (e1 : Nat) (e2 : Nat) : okA (call (aR xk) 9000 5 [.x 0] ⟨H0 e0 e1 e2 , 3, 0, 0⟩) (.s 11 sq) = true := by kernel_rfl
def uE (n : Int) : List Value := [.int .i64 (n)]
theorem pathRsn_5 (n : Int) (b0 : -9223372036854775808 ≤ n) (b1 : n ≤ 9223372036854775807) (h0 : ¬ (n = 100)) (h1 : ¬ (n = 200)) (h2 : ¬ (n = 204)) (h3 : ¬ (n = 302)) (h4 : ¬ (n = 304)) (h5 : n = 400) (w : World) (hl : aG w) : au 5 #[.int .i64 n] w (St' nQ) := by
 have ho : ∀ k r, (k, r) ∈ xk → aS (cx (aY (uE n)) (fun j _ => aT (l := uE n) rfl j) 3 aG aJ) k r := by
  unfold xk
  exact hc aQ <|hc aQ <|hc aQ <|hc aQ <|hc aQ <|hc bu <|hnil
 refine a7 (tb := (aR xk)) (ra := .s 11 sq) rfl ((ab (aY (uE n)) (fun j _ => aT (l := uE n) rfl j)).hyps ho) rfl cO.1 cO.2 (fun e0 e1 e2 => runRsn_5 e0 e1 e2 ) (args := [.int .i64 n]) (by simp only [aH, Rel]; exact ⟨_, _, rfl, rfl, rfl⟩) w hl fun x hx => ?_
 simp only [Rel, aH] at hx
 exact hx.1
def xj : LK := [(.bin .eql (.x 0) (I6 100), .b false), (.bin .eql (.x 0) (I6 200), .b false), (.bin .eql (.x 0) (I6 204), .b false), (.bin .eql (.x 0) (I6 302), .b false), (.bin .eql (.x 0) (I6 304), .b false), (.bin .eql (.x 0) (I6 400), .b false), (.bin .eql (.x 0) (I6 404), .b true)]
theorem runRsn_6 (e0 : Nat) (e1 : Nat) (e2 : Nat) : okA (call (aR xj) 9000 5 [.x 0] ⟨H0 e0 e1 e2 , 3, 0, 0⟩) (.s 9 sm) = true := by kernel_rfl
def uD (n : Int) : List Value := [.int .i64 (n)]
theorem pathRsn_6 (n : Int) (b0 : -9223372036854775808 ≤ n) (b1 : n ≤ 9223372036854775807) (h0 : ¬ (n = 100)) (h1 : ¬ (n = 200)) (h2 : ¬ (n = 204)) (h3 : ¬ (n = 302)) (h4 : ¬ (n = 304)) (h5 : ¬ (n = 400)) (h6 : n = 404) (w : World) (hl : aG w) : au 5 #[.int .i64 n] w (St' nP) := by
 have ho : ∀ k r, (k, r) ∈ xj → aS (cx (aY (uD n)) (fun j _ => aT (l := uD n) rfl j) 3 aG aJ) k r := by
  unfold xj
  exact hc aQ <|hc aQ <|hc aQ <|hc aQ <|hc aQ <|hc aQ <|hc bu <|hnil
 refine a7 (tb := (aR xj)) (ra := .s 9 sm) rfl ((ab (aY (uD n)) (fun j _ => aT (l := uD n) rfl j)).hyps ho) rfl cO.1 cO.2 (fun e0 e1 e2 => runRsn_6 e0 e1 e2 ) (args := [.int .i64 n]) (by simp only [aH, Rel]; exact ⟨_, _, rfl, rfl, rfl⟩) w hl fun x hx => ?_
 simp only [Rel, aH] at hx
 exact hx.1
def xi : LK := [(.bin .eql (.x 0) (I6 100), .b false), (.bin .eql (.x 0) (I6 200), .b false), (.bin .eql (.x 0) (I6 204), .b false), (.bin .eql (.x 0) (I6 302), .b false), (.bin .eql (.x 0) (I6 304), .b false), (.bin .eql (.x 0) (I6 400), .b false), (.bin .eql (.x 0) (I6 404), .b false), (.bin .eql (.x 0) (I6 405), .b true)]
theorem runRsn_7 (e0 : Nat) (e1 : Nat) (e2 : Nat) : okA (call (aR xi) 9000 5 [.x 0] ⟨H0 e0 e1 e2 , 3, 0, 0⟩) (.s 18 sk) = true := by kernel_rfl
def uC (n : Int) : List Value := [.int .i64 (n)]
theorem pathRsn_7 (n : Int) (b0 : -9223372036854775808 ≤ n) (b1 : n ≤ 9223372036854775807) (h0 : ¬ (n = 100)) (h1 : ¬ (n = 200)) (h2 : ¬ (n = 204)) (h3 : ¬ (n = 302)) (h4 : ¬ (n = 304)) (h5 : ¬ (n = 400)) (h6 : ¬ (n = 404)) (h7 : n = 405) (w : World) (hl : aG w) : au 5 #[.int .i64 n] w (St' nO) := by
 have ho : ∀ k r, (k, r) ∈ xi → aS (cx (aY (uC n)) (fun j _ => aT (l := uC n) rfl j) 3 aG aJ) k r := by
  unfold xi
  exact hc aQ <|hc aQ <|hc aQ <|hc aQ <|hc aQ <|hc aQ <|hc aQ <|hc bu <|hnil
 refine a7 (tb := (aR xi)) (ra := .s 18 sk) rfl ((ab (aY (uC n)) (fun j _ => aT (l := uC n) rfl j)).hyps ho) rfl cO.1 cO.2 (fun e0 e1 e2 => runRsn_7 e0 e1 e2 ) (args := [.int .i64 n]) (by simp only [aH, Rel]; exact ⟨_, _, rfl, rfl, rfl⟩) w hl fun x hx => ?_
 simp only [Rel, aH] at hx
 exact hx.1
def xh : LK := [(.bin .eql (.x 0) (I6 100), .b false), (.bin .eql (.x 0) (I6 200), .b false), (.bin .eql (.x 0) (I6 204), .b false), (.bin .eql (.x 0) (I6 302), .b false), (.bin .eql (.x 0) (I6 304), .b false), (.bin .eql (.x 0) (I6 400), .b false), (.bin .eql (.x 0) (I6 404), .b false), (.bin .eql (.x 0) (I6 405), .b false), (.bin .eql (.x 0) (I6 413), .b true)]
theorem runRsn_8 (e0 : Nat) (e1 : Nat) (e2 : Nat) : okA (call (aR xh) 9000 5 [.x 0] ⟨H0 e0 e1 e2 , 3, 0, 0⟩) (.s 17 sj) = true := by kernel_rfl
def uB (n : Int) : List Value := [.int .i64 (n)]
theorem pathRsn_8 (n : Int) (b0 : -9223372036854775808 ≤ n) (b1 : n ≤ 9223372036854775807) (h0 : ¬ (n = 100)) (h1 : ¬ (n = 200)) (h2 : ¬ (n = 204)) (h3 : ¬ (n = 302)) (h4 : ¬ (n = 304)) (h5 : ¬ (n = 400)) (h6 : ¬ (n = 404)) (h7 : ¬ (n = 405)) (h8 : n = 413) (w : World) (hl : aG w) : au 5 #[.int .i64 n] w (St' nN) := by
 have ho : ∀ k r, (k, r) ∈ xh → aS (cx (aY (uB n)) (fun j _ => aT (l := uB n) rfl j) 3 aG aJ) k r := by
  unfold xh
  exact hc aQ <|hc aQ <|hc aQ <|hc aQ <|hc aQ <|hc aQ <|hc aQ <|hc aQ <|hc bu <|hnil
 refine a7 (tb := (aR xh)) (ra := .s 17 sj) rfl ((ab (aY (uB n)) (fun j _ => aT (l := uB n) rfl j)).hyps ho) rfl cO.1 cO.2 (fun e0 e1 e2 => runRsn_8 e0 e1 e2 ) (args := [.int .i64 n]) (by simp only [aH, Rel]; exact ⟨_, _, rfl, rfl, rfl⟩) w hl fun x hx => ?_
 simp only [Rel, aH] at hx
 exact hx.1
def xg : LK := [(.bin .eql (.x 0) (I6 100), .b false), (.bin .eql (.x 0) (I6 200), .b false), (.bin .eql (.x 0) (I6 204), .b false), (.bin .eql (.x 0) (I6 302), .b false), (.bin .eql (.x 0) (I6 304), .b false), (.bin .eql (.x 0) (I6 400), .b false), (.bin .eql (.x 0) (I6 404), .b false), (.bin .eql (.x 0) (I6 405), .b false), (.bin .eql (.x 0) (I6 413), .b false), (.bin .eql (.x 0) (I6 431), .b true)]
theorem runRsn_9 (e0 : Nat) (e1 : Nat) (e2 : Nat) : okA (call (aR xg) 9000 5 [.x 0] ⟨H0 e0 e1 e2 , 3, 0, 0⟩) (.s 31 sf) = true := by kernel_rfl
def uA (n : Int) : List Value := [.int .i64 (n)]
theorem pathRsn_9 (n : Int) (b0 : -9223372036854775808 ≤ n) (b1 : n ≤ 9223372036854775807) (h0 : ¬ (n = 100)) (h1 : ¬ (n = 200)) (h2 : ¬ (n = 204)) (h3 : ¬ (n = 302)) (h4 : ¬ (n = 304)) (h5 : ¬ (n = 400)) (h6 : ¬ (n = 404)) (h7 : ¬ (n = 405)) (h8 : ¬ (n = 413)) (h9 : n = 431) (w : World) (hl : aG w) : au 5 #[.int .i64 n] w (St' nM) := by
 have ho : ∀ k r, (k, r) ∈ xg → aS (cx (aY (uA n)) (fun j _ => aT (l := uA n) rfl j) 3 aG aJ) k r := by
  unfold xg
  exact hc aQ <|hc aQ <|hc aQ <|hc aQ <|hc aQ <|hc aQ <|hc aQ <|hc aQ <|hc aQ <|hc bu <|hnil
 refine a7 (tb := (aR xg)) (ra := .s 31 sf) rfl ((ab (aY (uA n)) (fun j _ => aT (l := uA n) rfl j)).hyps ho) rfl cO.1 cO.2 (fun e0 e1 e2 => runRsn_9 e0 e1 e2 ) (args := [.int .i64 n]) (by simp only [aH, Rel]; exact ⟨_, _, rfl, rfl, rfl⟩) w hl fun x hx => ?_
 simp only [Rel, aH] at hx
 exact hx.1
def xy : LK := [(.bin .eql (.x 0) (I6 100), .b false), (.bin .eql (.x 0) (I6 200), .b false), (.bin .eql (.x 0) (I6 204), .b false), (.bin .eql (.x 0) (I6 302), .b false), (.bin .eql (.x 0) (I6 304), .b false), (.bin .eql (.x 0) (I6 400), .b false), (.bin .eql (.x 0) (I6 404), .b false), (.bin .eql (.x 0) (I6 405), .b false), (.bin .eql (.x 0) (I6 413), .b false), (.bin .eql (.x 0) (I6 431), .b false), (.bin .eql (.x 0) (I6 500), .b true)]
theorem runRsn_10 (e0 : Nat) (e1 : Nat) (e2 : Nat) : okA (call (aR xy) 9000 5 [.x 0] ⟨H0 e0 e1 e2 , 3, 0, 0⟩) (.s 21 sd) = true := by kernel_rfl
def uO (n : Int) : List Value := [.int .i64 (n)]
theorem pathRsn_10 (n : Int) (b0 : -9223372036854775808 ≤ n) (b1 : n ≤ 9223372036854775807) (h0 : ¬ (n = 100)) (h1 : ¬ (n = 200)) (h2 : ¬ (n = 204)) (h3 : ¬ (n = 302)) (h4 : ¬ (n = 304)) (h5 : ¬ (n = 400)) (h6 : ¬ (n = 404)) (h7 : ¬ (n = 405)) (h8 : ¬ (n = 413)) (h9 : ¬ (n = 431)) (h10 : n = 500) (w : World) (hl : aG w) : au 5 #[.int .i64 n] w (St' nL) := by
 have ho : ∀ k r, (k, r) ∈ xy → aS (cx (aY (uO n)) (fun j _ => aT (l := uO n) rfl j) 3 aG aJ) k r := by
  unfold xy
  exact hc aQ <|hc aQ <|hc aQ <|hc aQ <|hc aQ <|hc aQ <|hc aQ <|hc aQ <|hc aQ <|hc aQ <|hc bu <|hnil
 refine a7 (tb := (aR xy)) (ra := .s 21 sd) rfl ((ab (aY (uO n)) (fun j _ => aT (l := uO n) rfl j)).hyps ho) rfl cO.1 cO.2 (fun e0 e1 e2 => runRsn_10 e0 e1 e2 ) (args := [.int .i64 n]) (by simp only [aH, Rel]; exact ⟨_, _, rfl, rfl, rfl⟩) w hl fun x hx => ?_
 simp only [Rel, aH] at hx
 exact hx.1
def xw : LK := [(.bin .eql (.x 0) (I6 100), .b false), (.bin .eql (.x 0) (I6 200), .b false), (.bin .eql (.x 0) (I6 204), .b false), (.bin .eql (.x 0) (I6 302), .b false), (.bin .eql (.x 0) (I6 304), .b false), (.bin .eql (.x 0) (I6 400), .b false), (.bin .eql (.x 0) (I6 404), .b false), (.bin .eql (.x 0) (I6 405), .b false), (.bin .eql (.x 0) (I6 413), .b false), (.bin .eql (.x 0) (I6 431), .b false), (.bin .eql (.x 0) (I6 500), .b false), (.bin .eql (.x 0) (I6 501), .b true)]
theorem runRsn_11 (e0 : Nat) (e1 : Nat) (e2 : Nat) : okA (call (aR xw) 9000 5 [.x 0] ⟨H0 e0 e1 e2 , 3, 0, 0⟩) (.s 15 sZ) = true := by kernel_rfl
def uN (n : Int) : List Value := [.int .i64 (n)]
theorem pathRsn_11 (n : Int) (b0 : -9223372036854775808 ≤ n) (b1 : n ≤ 9223372036854775807) (h0 : ¬ (n = 100)) (h1 : ¬ (n = 200)) (h2 : ¬ (n = 204)) (h3 : ¬ (n = 302)) (h4 : ¬ (n = 304)) (h5 : ¬ (n = 400)) (h6 : ¬ (n = 404)) (h7 : ¬ (n = 405)) (h8 : ¬ (n = 413)) (h9 : ¬ (n = 431)) (h10 : ¬ (n = 500)) (h11 : n = 501) (w : World) (hl : aG w) : au 5 #[.int .i64 n] w (St' nK) := by
 have ho : ∀ k r, (k, r) ∈ xw → aS (cx (aY (uN n)) (fun j _ => aT (l := uN n) rfl j) 3 aG aJ) k r := by
  unfold xw
  exact hc aQ <|hc aQ <|hc aQ <|hc aQ <|hc aQ <|hc aQ <|hc aQ <|hc aQ <|hc aQ <|hc aQ <|hc aQ <|hc bu <|hnil
 refine a7 (tb := (aR xw)) (ra := .s 15 sZ) rfl ((ab (aY (uN n)) (fun j _ => aT (l := uN n) rfl j)).hyps ho) rfl cO.1 cO.2 (fun e0 e1 e2 => runRsn_11 e0 e1 e2 ) (args := [.int .i64 n]) (by simp only [aH, Rel]; exact ⟨_, _, rfl, rfl, rfl⟩) w hl fun x hx => ?_
 simp only [Rel, aH] at hx
 exact hx.1
def xu : LK := [(.bin .eql (.x 0) (I6 100), .b false), (.bin .eql (.x 0) (I6 200), .b false), (.bin .eql (.x 0) (I6 204), .b false), (.bin .eql (.x 0) (I6 302), .b false), (.bin .eql (.x 0) (I6 304), .b false), (.bin .eql (.x 0) (I6 400), .b false), (.bin .eql (.x 0) (I6 404), .b false), (.bin .eql (.x 0) (I6 405), .b false), (.bin .eql (.x 0) (I6 413), .b false), (.bin .eql (.x 0) (I6 431), .b false), (.bin .eql (.x 0) (I6 500), .b false), (.bin .eql (.x 0) (I6 501), .b false), (.bin .eql (.x 0) (I6 502), .b true)]
theorem runRsn_12 (e0 : Nat) (e1 : Nat) (e2 : Nat) : okA (call (aR xu) 9000 5 [.x 0] ⟨H0 e0 e1 e2 , 3, 0, 0⟩) (.s 11 sY) = true := by kernel_rfl
def uM (n : Int) : List Value := [.int .i64 (n)]
theorem pathRsn_12 (n : Int) (b0 : -9223372036854775808 ≤ n) (b1 : n ≤ 9223372036854775807) (h0 : ¬ (n = 100)) (h1 : ¬ (n = 200)) (h2 : ¬ (n = 204)) (h3 : ¬ (n = 302)) (h4 : ¬ (n = 304)) (h5 : ¬ (n = 400)) (h6 : ¬ (n = 404)) (h7 : ¬ (n = 405)) (h8 : ¬ (n = 413)) (h9 : ¬ (n = 431)) (h10 : ¬ (n = 500)) (h11 : ¬ (n = 501)) (h12 : n = 502) (w : World) (hl : aG w) : au 5 #[.int .i64 n] w (St' nJ) := by
 have ho : ∀ k r, (k, r) ∈ xu → aS (cx (aY (uM n)) (fun j _ => aT (l := uM n) rfl j) 3 aG aJ) k r := by
  unfold xu
  exact hc aQ <|hc aQ <|hc aQ <|hc aQ <|hc aQ <|hc aQ <|hc aQ <|hc aQ <|hc aQ <|hc aQ <|hc aQ <|hc aQ <|hc bu <|hnil
 refine a7 (tb := (aR xu)) (ra := .s 11 sY) rfl ((ab (aY (uM n)) (fun j _ => aT (l := uM n) rfl j)).hyps ho) rfl cO.1 cO.2 (fun e0 e1 e2 => runRsn_12 e0 e1 e2 ) (args := [.int .i64 n]) (by simp only [aH, Rel]; exact ⟨_, _, rfl, rfl, rfl⟩) w hl fun x hx => ?_
 simp only [Rel, aH] at hx
 exact hx.1
def xr : LK := [(.bin .eql (.x 0) (I6 100), .b false), (.bin .eql (.x 0) (I6 200), .b false), (.bin .eql (.x 0) (I6 204), .b false), (.bin .eql (.x 0) (I6 302), .b false), (.bin .eql (.x 0) (I6 304), .b false), (.bin .eql (.x 0) (I6 400), .b false), (.bin .eql (.x 0) (I6 404), .b false), (.bin .eql (.x 0) (I6 405), .b false), (.bin .eql (.x 0) (I6 413), .b false), (.bin .eql (.x 0) (I6 431), .b false), (.bin .eql (.x 0) (I6 500), .b false), (.bin .eql (.x 0) (I6 501), .b false), (.bin .eql (.x 0) (I6 502), .b false), (.bin .eql (.x 0) (I6 503), .b true)]
theorem runRsn_13 (e0 : Nat) (e1 : Nat) (e2 : Nat) : okA (call (aR xr) 9000 5 [.x 0] ⟨H0 e0 e1 e2 , 3, 0, 0⟩) (.s 19 sX) = true := by kernel_rfl
def uL (n : Int) : List Value := [.int .i64 (n)]
theorem pathRsn_13 (n : Int) (b0 : -9223372036854775808 ≤ n) (b1 : n ≤ 9223372036854775807) (h0 : ¬ (n = 100)) (h1 : ¬ (n = 200)) (h2 : ¬ (n = 204)) (h3 : ¬ (n = 302)) (h4 : ¬ (n = 304)) (h5 : ¬ (n = 400)) (h6 : ¬ (n = 404)) (h7 : ¬ (n = 405)) (h8 : ¬ (n = 413)) (h9 : ¬ (n = 431)) (h10 : ¬ (n = 500)) (h11 : ¬ (n = 501)) (h12 : ¬ (n = 502)) (h13 : n = 503) (w : World) (hl : aG w) : au 5 #[.int .i64 n] w (St' nI) := by
 have ho : ∀ k r, (k, r) ∈ xr → aS (cx (aY (uL n)) (fun j _ => aT (l := uL n) rfl j) 3 aG aJ) k r := by
  unfold xr
  exact hc aQ <|hc aQ <|hc aQ <|hc aQ <|hc aQ <|hc aQ <|hc aQ <|hc aQ <|hc aQ <|hc aQ <|hc aQ <|hc aQ <|hc aQ <|hc bu <|hnil
 refine a7 (tb := (aR xr)) (ra := .s 19 sX) rfl ((ab (aY (uL n)) (fun j _ => aT (l := uL n) rfl j)).hyps ho) rfl cO.1 cO.2 (fun e0 e1 e2 => runRsn_13 e0 e1 e2 ) (args := [.int .i64 n]) (by simp only [aH, Rel]; exact ⟨_, _, rfl, rfl, rfl⟩) w hl fun x hx => ?_
 simp only [Rel, aH] at hx
 exact hx.1
def xq : LK := [(.bin .eql (.x 0) (I6 100), .b false), (.bin .eql (.x 0) (I6 200), .b false), (.bin .eql (.x 0) (I6 204), .b false), (.bin .eql (.x 0) (I6 302), .b false), (.bin .eql (.x 0) (I6 304), .b false), (.bin .eql (.x 0) (I6 400), .b false), (.bin .eql (.x 0) (I6 404), .b false), (.bin .eql (.x 0) (I6 405), .b false), (.bin .eql (.x 0) (I6 413), .b false), (.bin .eql (.x 0) (I6 431), .b false), (.bin .eql (.x 0) (I6 500), .b false), (.bin .eql (.x 0) (I6 501), .b false), (.bin .eql (.x 0) (I6 502), .b false), (.bin .eql (.x 0) (I6 503), .b false), (.bin .eql (.x 0) (I6 504), .b true)]
theorem runRsn_14 (e0 : Nat) (e1 : Nat) (e2 : Nat) : okA (call (aR xq) 9000 5 [.x 0] ⟨H0 e0 e1 e2 , 3, 0, 0⟩) (.s 15 sW) = true := by kernel_rfl
def uK (n : Int) : List Value := [.int .i64 (n)]
theorem pathRsn_14 (n : Int) (b0 : -9223372036854775808 ≤ n) (b1 : n ≤ 9223372036854775807) (h0 : ¬ (n = 100)) (h1 : ¬ (n = 200)) (h2 : ¬ (n = 204)) (h3 : ¬ (n = 302)) (h4 : ¬ (n = 304)) (h5 : ¬ (n = 400)) (h6 : ¬ (n = 404)) (h7 : ¬ (n = 405)) (h8 : ¬ (n = 413)) (h9 : ¬ (n = 431)) (h10 : ¬ (n = 500)) (h11 : ¬ (n = 501)) (h12 : ¬ (n = 502)) (h13 : ¬ (n = 503)) (cZ : n = 504) (w : World) (hl : aG w) : au 5 #[.int .i64 n] w (St' nH) := by
 have ho : ∀ k r, (k, r) ∈ xq → aS (cx (aY (uK n)) (fun j _ => aT (l := uK n) rfl j) 3 aG aJ) k r := by
  unfold xq
  exact hc aQ <|hc aQ <|hc aQ <|hc aQ <|hc aQ <|hc aQ <|hc aQ <|hc aQ <|hc aQ <|hc aQ <|hc aQ <|hc aQ <|hc aQ <|hc aQ <|hc bu <|hnil
 refine a7 (tb := (aR xq)) (ra := .s 15 sW) rfl ((ab (aY (uK n)) (fun j _ => aT (l := uK n) rfl j)).hyps ho) rfl cO.1 cO.2 (fun e0 e1 e2 => runRsn_14 e0 e1 e2 ) (args := [.int .i64 n]) (by simp only [aH, Rel]; exact ⟨_, _, rfl, rfl, rfl⟩) w hl fun x hx => ?_
 simp only [Rel, aH] at hx
 exact hx.1
def xp : LK := [(.bin .eql (.x 0) (I6 100), .b false), (.bin .eql (.x 0) (I6 200), .b false), (.bin .eql (.x 0) (I6 204), .b false), (.bin .eql (.x 0) (I6 302), .b false), (.bin .eql (.x 0) (I6 304), .b false), (.bin .eql (.x 0) (I6 400), .b false), (.bin .eql (.x 0) (I6 404), .b false), (.bin .eql (.x 0) (I6 405), .b false), (.bin .eql (.x 0) (I6 413), .b false), (.bin .eql (.x 0) (I6 431), .b false), (.bin .eql (.x 0) (I6 500), .b false), (.bin .eql (.x 0) (I6 501), .b false), (.bin .eql (.x 0) (I6 502), .b false), (.bin .eql (.x 0) (I6 503), .b false), (.bin .eql (.x 0) (I6 504), .b false), (.bin .eql (.x 0) (I6 505), .b true)]
theorem runRsn_15 (e0 : Nat) (e1 : Nat) (e2 : Nat) : okA (call (aR xp) 9000 5 [.x 0] ⟨H0 e0 e1 e2 , 3, 0, 0⟩) (.s 26 sV) = true := by kernel_rfl
def uJ (n : Int) : List Value := [.int .i64 (n)]
theorem pathRsn_15 (n : Int) (b0 : -9223372036854775808 ≤ n) (b1 : n ≤ 9223372036854775807) (h0 : ¬ (n = 100)) (h1 : ¬ (n = 200)) (h2 : ¬ (n = 204)) (h3 : ¬ (n = 302)) (h4 : ¬ (n = 304)) (h5 : ¬ (n = 400)) (h6 : ¬ (n = 404)) (h7 : ¬ (n = 405)) (h8 : ¬ (n = 413)) (h9 : ¬ (n = 431)) (h10 : ¬ (n = 500)) (h11 : ¬ (n = 501)) (h12 : ¬ (n = 502)) (h13 : ¬ (n = 503)) (cZ : ¬ (n = 504)) (h15 : n = 505) (w : World) (hl : aG w) : au 5 #[.int .i64 n] w (St' nG) := by
 have ho : ∀ k r, (k, r) ∈ xp → aS (cx (aY (uJ n)) (fun j _ => aT (l := uJ n) rfl j) 3 aG aJ) k r := by
  unfold xp
  exact hc aQ <|hc aQ <|hc aQ <|hc aQ <|hc aQ <|hc aQ <|hc aQ <|hc aQ <|hc aQ <|hc aQ <|hc aQ <|hc aQ <|hc aQ <|hc aQ <|hc aQ <|hc bu <|hnil
 refine a7 (tb := (aR xp)) (ra := .s 26 sV) rfl ((ab (aY (uJ n)) (fun j _ => aT (l := uJ n) rfl j)).hyps ho) rfl cO.1 cO.2 (fun e0 e1 e2 => runRsn_15 e0 e1 e2 ) (args := [.int .i64 n]) (by simp only [aH, Rel]; exact ⟨_, _, rfl, rfl, rfl⟩) w hl fun x hx => ?_
 simp only [Rel, aH] at hx
 exact hx.1
def xo : LK := [(.bin .eql (.x 0) (I6 100), .b false), (.bin .eql (.x 0) (I6 200), .b false), (.bin .eql (.x 0) (I6 204), .b false), (.bin .eql (.x 0) (I6 302), .b false), (.bin .eql (.x 0) (I6 304), .b false), (.bin .eql (.x 0) (I6 400), .b false), (.bin .eql (.x 0) (I6 404), .b false), (.bin .eql (.x 0) (I6 405), .b false), (.bin .eql (.x 0) (I6 413), .b false), (.bin .eql (.x 0) (I6 431), .b false), (.bin .eql (.x 0) (I6 500), .b false), (.bin .eql (.x 0) (I6 501), .b false), (.bin .eql (.x 0) (I6 502), .b false), (.bin .eql (.x 0) (I6 503), .b false), (.bin .eql (.x 0) (I6 504), .b false), (.bin .eql (.x 0) (I6 505), .b false)]
theorem runRsn_16 (e0 : Nat) (e1 : Nat) (e2 : Nat) : okA (call (aR xo) 9000 5 [.x 0] ⟨H0 e0 e1 e2 , 3, 0, 0⟩) (.s 7 sU) = true := by kernel_rfl
def uI (n : Int) : List Value := [.int .i64 (n)]
theorem pathRsn_16 (n : Int) (b0 : -9223372036854775808 ≤ n) (b1 : n ≤ 9223372036854775807) (h0 : ¬ (n = 100)) (h1 : ¬ (n = 200)) (h2 : ¬ (n = 204)) (h3 : ¬ (n = 302)) (h4 : ¬ (n = 304)) (h5 : ¬ (n = 400)) (h6 : ¬ (n = 404)) (h7 : ¬ (n = 405)) (h8 : ¬ (n = 413)) (h9 : ¬ (n = 431)) (h10 : ¬ (n = 500)) (h11 : ¬ (n = 501)) (h12 : ¬ (n = 502)) (h13 : ¬ (n = 503)) (cZ : ¬ (n = 504)) (h15 : ¬ (n = 505)) (w : World) (hl : aG w) : au 5 #[.int .i64 n] w (St' nF) := by
 have ho : ∀ k r, (k, r) ∈ xo → aS (cx (aY (uI n)) (fun j _ => aT (l := uI n) rfl j) 3 aG aJ) k r := by
  unfold xo
  exact hc aQ <|hc aQ <|hc aQ <|hc aQ <|hc aQ <|hc aQ <|hc aQ <|hc aQ <|hc aQ <|hc aQ <|hc aQ <|hc aQ <|hc aQ <|hc aQ <|hc aQ <|hc aQ <|hnil
 refine a7 (tb := (aR xo)) (ra := .s 7 sU) rfl ((ab (aY (uI n)) (fun j _ => aT (l := uI n) rfl j)).hyps ho) rfl cO.1 cO.2 (fun e0 e1 e2 => runRsn_16 e0 e1 e2 ) (args := [.int .i64 n]) (by simp only [aH, Rel]; exact ⟨_, _, rfl, rfl, rfl⟩) w hl fun x hx => ?_
 simp only [Rel, aH] at hx
 exact hx.1
theorem callsRsn (n : Int) (b0 : -9223372036854775808 ≤ n) (b1 : n ≤ 9223372036854775807) (w : World) (hl : aG w) : au 5 #[.int .i64 n] w (St' (aV n)) := by
 by_cases h0 : n = 100
 ·rw [show (St' (aV n) : Value) = (St' nU : Value) from by unfold aV; rw [if_pos h0]]
  exact pathRsn_0 n b0 b1 h0 w hl
 ·by_cases h1 : n = 200
  ·rw [show (St' (aV n) : Value) = (St' [u8 79, u8 75] : Value) from by unfold aV; rw [if_neg h0, if_pos h1]]
   exact pathRsn_1 n b0 b1 h0 h1 w hl
  ·by_cases h2 : n = 204
   ·rw [show (St' (aV n) : Value) = (St' nT : Value) from by unfold aV; rw [if_neg h0, if_neg h1, if_pos h2]]
    exact pathRsn_2 n b0 b1 h0 h1 h2 w hl
   ·by_cases h3 : n = 302
    ·rw [show (St' (aV n) : Value) = (St' nS : Value) from by unfold aV; rw [if_neg h0, if_neg h1, if_neg h2, if_pos h3]]
     exact pathRsn_3 n b0 b1 h0 h1 h2 h3 w hl
    ·by_cases h4 : n = 304
     ·rw [show (St' (aV n) : Value) = (St' nR : Value) from by unfold aV; rw [if_neg h0, if_neg h1, if_neg h2, if_neg h3, if_pos h4]]
      exact pathRsn_4 n b0 b1 h0 h1 h2 h3 h4 w hl
     ·by_cases h5 : n = 400
      ·rw [show (St' (aV n) : Value) = (St' nQ : Value) from by unfold aV; rw [if_neg h0, if_neg h1, if_neg h2, if_neg h3, if_neg h4, if_pos h5]]
       exact pathRsn_5 n b0 b1 h0 h1 h2 h3 h4 h5 w hl
      ·by_cases h6 : n = 404
       ·rw [show (St' (aV n) : Value) = (St' nP : Value) from by unfold aV; rw [if_neg h0, if_neg h1, if_neg h2, if_neg h3, if_neg h4, if_neg h5, if_pos h6]]
        exact pathRsn_6 n b0 b1 h0 h1 h2 h3 h4 h5 h6 w hl
       ·by_cases h7 : n = 405
        ·rw [show (St' (aV n) : Value) = (St' nO : Value) from by unfold aV; rw [if_neg h0, if_neg h1, if_neg h2, if_neg h3, if_neg h4, if_neg h5, if_neg h6, if_pos h7]]
         exact pathRsn_7 n b0 b1 h0 h1 h2 h3 h4 h5 h6 h7 w hl
        ·by_cases h8 : n = 413
         ·rw [show (St' (aV n) : Value) = (St' nN : Value) from by unfold aV; rw [if_neg h0, if_neg h1, if_neg h2, if_neg h3, if_neg h4, if_neg h5, if_neg h6, if_neg h7, if_pos h8]]
          exact pathRsn_8 n b0 b1 h0 h1 h2 h3 h4 h5 h6 h7 h8 w hl
         ·by_cases h9 : n = 431
          ·rw [show (St' (aV n) : Value) = (St' nM : Value) from by unfold aV; rw [if_neg h0, if_neg h1, if_neg h2, if_neg h3, if_neg h4, if_neg h5, if_neg h6, if_neg h7, if_neg h8, if_pos h9]]
           exact pathRsn_9 n b0 b1 h0 h1 h2 h3 h4 h5 h6 h7 h8 h9 w hl
          ·by_cases h10 : n = 500
           ·rw [show (St' (aV n) : Value) = (St' nL : Value) from by unfold aV; rw [if_neg h0, if_neg h1, if_neg h2, if_neg h3, if_neg h4, if_neg h5, if_neg h6, if_neg h7, if_neg h8, if_neg h9, if_pos h10]]
            exact pathRsn_10 n b0 b1 h0 h1 h2 h3 h4 h5 h6 h7 h8 h9 h10 w hl
           ·by_cases h11 : n = 501
            ·rw [show (St' (aV n) : Value) = (St' nK : Value) from by unfold aV; rw [if_neg h0, if_neg h1, if_neg h2, if_neg h3, if_neg h4, if_neg h5, if_neg h6, if_neg h7, if_neg h8, if_neg h9, if_neg h10, if_pos h11]]
             exact pathRsn_11 n b0 b1 h0 h1 h2 h3 h4 h5 h6 h7 h8 h9 h10 h11 w hl
            ·by_cases h12 : n = 502
             ·rw [show (St' (aV n) : Value) = (St' nJ : Value) from by unfold aV; rw [if_neg h0, if_neg h1, if_neg h2, if_neg h3, if_neg h4, if_neg h5, if_neg h6, if_neg h7, if_neg h8, if_neg h9, if_neg h10, if_neg h11, if_pos h12]]
              exact pathRsn_12 n b0 b1 h0 h1 h2 h3 h4 h5 h6 h7 h8 h9 h10 h11 h12 w hl
             ·by_cases h13 : n = 503
              ·rw [show (St' (aV n) : Value) = (St' nI : Value) from by unfold aV; rw [if_neg h0, if_neg h1, if_neg h2, if_neg h3, if_neg h4, if_neg h5, if_neg h6, if_neg h7, if_neg h8, if_neg h9, if_neg h10, if_neg h11, if_neg h12, if_pos h13]]
               exact pathRsn_13 n b0 b1 h0 h1 h2 h3 h4 h5 h6 h7 h8 h9 h10 h11 h12 h13 w hl
              ·by_cases cZ : n = 504
               ·rw [show (St' (aV n) : Value) = (St' nH : Value) from by unfold aV; rw [if_neg h0, if_neg h1, if_neg h2, if_neg h3, if_neg h4, if_neg h5, if_neg h6, if_neg h7, if_neg h8, if_neg h9, if_neg h10, if_neg h11, if_neg h12, if_neg h13, if_pos cZ]]
                exact pathRsn_14 n b0 b1 h0 h1 h2 h3 h4 h5 h6 h7 h8 h9 h10 h11 h12 h13 cZ w hl
               ·by_cases h15 : n = 505
                ·rw [show (St' (aV n) : Value) = (St' nG : Value) from by unfold aV; rw [if_neg h0, if_neg h1, if_neg h2, if_neg h3, if_neg h4, if_neg h5, if_neg h6, if_neg h7, if_neg h8, if_neg h9, if_neg h10, if_neg h11, if_neg h12, if_neg h13, if_neg cZ, if_pos h15]]
                 exact pathRsn_15 n b0 b1 h0 h1 h2 h3 h4 h5 h6 h7 h8 h9 h10 h11 h12 h13 cZ h15 w hl
                ·rw [show (St' (aV n) : Value) = (St' nF : Value) from by unfold aV; rw [if_neg h0, if_neg h1, if_neg h2, if_neg h3, if_neg h4, if_neg h5, if_neg h6, if_neg h7, if_neg h8, if_neg h9, if_neg h10, if_neg h11, if_neg h12, if_neg h13, if_neg cZ, if_neg h15]]
                 exact pathRsn_16 n b0 b1 h0 h1 h2 h3 h4 h5 h6 h7 h8 h9 h10 h11 h12 h13 cZ h15 w hl
theorem og {x0 r : AV} {n : Int} (i0 : Is (cx nu one 3 aG aJ) x0 (.int .i64 n)) (hr : Den (cx nu one 3 aG aJ) r (St' (aV n))) (b0 : -9223372036854775808 ≤ n := by omega) (b1 : n ≤ 9223372036854775807 := by omega) : aS (cx nu one 3 aG aJ) (.call 5 [x0]) r := by
 intro ρ args ha w hl _
 simp only [aH] at ha
 obtain ⟨v0, t0, rfl, a0, rfl⟩ := ha
 have e0 := i0 ρ _ a0; subst e0
 exact (callsRsn n b0 b1 w hl).mono fun e w' he => ⟨_, he.1, hr ρ, he.2⟩
theorem cP : bc.fn.get 6 = some (fI Tryd.f6 0) ∧ (fI Tryd.f6 0).body.isSome = true := ⟨rfl, by kernel_rfl⟩
def yP : LK := [(.bin .eql (.x 0) (I6 100), .b true)]
theorem runRrs_0 (e0 : Nat) (e1 : Nat) (e2 : Nat) : okA (call (aR yP) 9000 6 [.x 0] ⟨H0 e0 e1 e2 , 3, 0, 0⟩) (.s 8 sw) = true := by kernel_rfl
def uh (n : Int) : List Value := [.int .i64 (n)]
theorem pathRrs_0 (n : Int) (b0 : -9223372036854775808 ≤ n) (b1 : n ≤ 9223372036854775807) (h0 : n = 100) (w : World) (hl : aG w) : au 6 #[.int .i64 n] w (St' nU) := by
 have ho : ∀ k r, (k, r) ∈ yP → aS (cx (aY (uh n)) (fun j _ => aT (l := uh n) rfl j) 3 aG aJ) k r := by
  unfold yP
  exact hc bu <|hnil
 refine a7 (tb := (aR yP)) (ra := .s 8 sw) rfl ((ab (aY (uh n)) (fun j _ => aT (l := uh n) rfl j)).hyps ho) rfl cP.1 cP.2 (fun e0 e1 e2 => runRrs_0 e0 e1 e2 ) (args := [.int .i64 n]) (by simp only [aH, Rel]; exact ⟨_, _, rfl, rfl, rfl⟩) w hl fun x hx => ?_
 simp only [Rel, aH] at hx
 exact hx.1
def yO : LK := [(.bin .eql (.x 0) (I6 100), .b false), (.bin .eql (.x 0) (I6 200), .b true)]
theorem runRrs_1 (e0 : Nat) (e1 : Nat) (e2 : Nat) : okA (call (aR yO) 9000 6 [.x 0] ⟨H0 e0 e1 e2 , 3, 0, 0⟩) (.s 2 19279) = true := by kernel_rfl
def ug (n : Int) : List Value := [.int .i64 (n)]
theorem pathRrs_1 (n : Int) (b0 : -9223372036854775808 ≤ n) (b1 : n ≤ 9223372036854775807) (h0 : ¬ (n = 100)) (h1 : n = 200) (w : World) (hl : aG w) : au 6 #[.int .i64 n] w (St' [u8 79, u8 75]) := by
 have ho : ∀ k r, (k, r) ∈ yO → aS (cx (aY (ug n)) (fun j _ => aT (l := ug n) rfl j) 3 aG aJ) k r := by
  unfold yO
  exact hc aQ <|hc bu <|hnil
 refine a7 (tb := (aR yO)) (ra := .s 2 19279) rfl ((ab (aY (ug n)) (fun j _ => aT (l := ug n) rfl j)).hyps ho) rfl cP.1 cP.2 (fun e0 e1 e2 => runRrs_1 e0 e1 e2 ) (args := [.int .i64 n]) (by simp only [aH, Rel]; exact ⟨_, _, rfl, rfl, rfl⟩) w hl fun x hx => ?_
 simp only [Rel, aH] at hx
 exact hx.1
def yG : LK := [(.bin .eql (.x 0) (I6 100), .b false), (.bin .eql (.x 0) (I6 200), .b false), (.bin .eql (.x 0) (I6 204), .b true)]
theorem runRrs_2 (e0 : Nat) (e1 : Nat) (e2 : Nat) : okA (call (aR yG) 9000 6 [.x 0] ⟨H0 e0 e1 e2 , 3, 0, 0⟩) (.s 10 su) = true := by kernel_rfl
def uY (n : Int) : List Value := [.int .i64 (n)]
theorem pathRrs_2 (n : Int) (b0 : -9223372036854775808 ≤ n) (b1 : n ≤ 9223372036854775807) (h0 : ¬ (n = 100)) (h1 : ¬ (n = 200)) (h2 : n = 204) (w : World) (hl : aG w) : au 6 #[.int .i64 n] w (St' nT) := by
 have ho : ∀ k r, (k, r) ∈ yG → aS (cx (aY (uY n)) (fun j _ => aT (l := uY n) rfl j) 3 aG aJ) k r := by
  unfold yG
  exact hc aQ <|hc aQ <|hc bu <|hnil
 refine a7 (tb := (aR yG)) (ra := .s 10 su) rfl ((ab (aY (uY n)) (fun j _ => aT (l := uY n) rfl j)).hyps ho) rfl cP.1 cP.2 (fun e0 e1 e2 => runRrs_2 e0 e1 e2 ) (args := [.int .i64 n]) (by simp only [aH, Rel]; exact ⟨_, _, rfl, rfl, rfl⟩) w hl fun x hx => ?_
 simp only [Rel, aH] at hx
 exact hx.1
def yF : LK := [(.bin .eql (.x 0) (I6 100), .b false), (.bin .eql (.x 0) (I6 200), .b false), (.bin .eql (.x 0) (I6 204), .b false), (.bin .eql (.x 0) (I6 302), .b true)]
theorem runRrs_3 (e0 : Nat) (e1 : Nat) (e2 : Nat) : okA (call (aR yF) 9000 6 [.x 0] ⟨H0 e0 e1 e2 , 3, 0, 0⟩) (.s 5 431349919558) = true := by kernel_rfl
def uX (n : Int) : List Value := [.int .i64 (n)]
theorem pathRrs_3 (n : Int) (b0 : -9223372036854775808 ≤ n) (b1 : n ≤ 9223372036854775807) (h0 : ¬ (n = 100)) (h1 : ¬ (n = 200)) (h2 : ¬ (n = 204)) (h3 : n = 302) (w : World) (hl : aG w) : au 6 #[.int .i64 n] w (St' nS) := by
 have ho : ∀ k r, (k, r) ∈ yF → aS (cx (aY (uX n)) (fun j _ => aT (l := uX n) rfl j) 3 aG aJ) k r := by
  unfold yF
  exact hc aQ <|hc aQ <|hc aQ <|hc bu <|hnil
 refine a7 (tb := (aR yF)) (ra := .s 5 431349919558) rfl ((ab (aY (uX n)) (fun j _ => aT (l := uX n) rfl j)).hyps ho) rfl cP.1 cP.2 (fun e0 e1 e2 => runRrs_3 e0 e1 e2 ) (args := [.int .i64 n]) (by simp only [aH, Rel]; exact ⟨_, _, rfl, rfl, rfl⟩) w hl fun x hx => ?_
 simp only [Rel, aH] at hx
 exact hx.1
def yE : LK := [(.bin .eql (.x 0) (I6 100), .b false), (.bin .eql (.x 0) (I6 200), .b false), (.bin .eql (.x 0) (I6 204), .b false), (.bin .eql (.x 0) (I6 302), .b false), (.bin .eql (.x 0) (I6 304), .b true)]
theorem runRrs_4 (e0 : Nat) (e1 : Nat) (e2 : Nat) : okA (call (aR yE) 9000 6 [.x 0] ⟨H0 e0 e1 e2 , 3, 0, 0⟩) (.s 12 ss) = true := by kernel_rfl
def uW (n : Int) : List Value := [.int .i64 (n)]
theorem pathRrs_4 (n : Int) (b0 : -9223372036854775808 ≤ n) (b1 : n ≤ 9223372036854775807) (h0 : ¬ (n = 100)) (h1 : ¬ (n = 200)) (h2 : ¬ (n = 204)) (h3 : ¬ (n = 302)) (h4 : n = 304) (w : World) (hl : aG w) : au 6 #[.int .i64 n] w (St' nR) := by
 have ho : ∀ k r, (k, r) ∈ yE → aS (cx (aY (uW n)) (fun j _ => aT (l := uW n) rfl j) 3 aG aJ) k r := by
  unfold yE
  exact hc aQ <|hc aQ <|hc aQ <|hc aQ <|hc bu <|hnil
 refine a7 (tb := (aR yE)) (ra := .s 12 ss) rfl ((ab (aY (uW n)) (fun j _ => aT (l := uW n) rfl j)).hyps ho) rfl cP.1 cP.2 (fun e0 e1 e2 => runRrs_4 e0 e1 e2 ) (args := [.int .i64 n]) (by simp only [aH, Rel]; exact ⟨_, _, rfl, rfl, rfl⟩) w hl fun x hx => ?_
 simp only [Rel, aH] at hx
 exact hx.1
def yD : LK := [(.bin .eql (.x 0) (I6 100), .b false), (.bin .eql (.x 0) (I6 200), .b false), (.bin .eql (.x 0) (I6 204), .b false), (.bin .eql (.x 0) (I6 302), .b false), (.bin .eql (.x 0) (I6 304), .b false), (.bin .eql (.x 0) (I6 400), .b true)]
theorem runRrs_5 (e0 : Nat) (e1 : Nat) (e2 : Nat) : okA (call (aR yD) 9000 6 [.x 0] ⟨H0 e0 e1 e2 , 3, 0, 0⟩) (.s 11 sq) = true := by kernel_rfl
def uV (n : Int) : List Value := [.int .i64 (n)]
theorem pathRrs_5 (n : Int) (b0 : -9223372036854775808 ≤ n) (b1 : n ≤ 9223372036854775807) (h0 : ¬ (n = 100)) (h1 : ¬ (n = 200)) (h2 : ¬ (n = 204)) (h3 : ¬ (n = 302)) (h4 : ¬ (n = 304)) (h5 : n = 400) (w : World) (hl : aG w) : au 6 #[.int .i64 n] w (St' nQ) := by
 have ho : ∀ k r, (k, r) ∈ yD → aS (cx (aY (uV n)) (fun j _ => aT (l := uV n) rfl j) 3 aG aJ) k r := by
  unfold yD
  exact hc aQ <|hc aQ <|hc aQ <|hc aQ <|hc aQ <|hc bu <|hnil
 refine a7 (tb := (aR yD)) (ra := .s 11 sq) rfl ((ab (aY (uV n)) (fun j _ => aT (l := uV n) rfl j)).hyps ho) rfl cP.1 cP.2 (fun e0 e1 e2 => runRrs_5 e0 e1 e2 ) (args := [.int .i64 n]) (by simp only [aH, Rel]; exact ⟨_, _, rfl, rfl, rfl⟩) w hl fun x hx => ?_
 simp only [Rel, aH] at hx
 exact hx.1
def yC : LK := [(.bin .eql (.x 0) (I6 100), .b false), (.bin .eql (.x 0) (I6 200), .b false), (.bin .eql (.x 0) (I6 204), .b false), (.bin .eql (.x 0) (I6 302), .b false), (.bin .eql (.x 0) (I6 304), .b false), (.bin .eql (.x 0) (I6 400), .b false), (.bin .eql (.x 0) (I6 404), .b true)]
theorem runRrs_6 (e0 : Nat) (e1 : Nat) (e2 : Nat) : okA (call (aR yC) 9000 6 [.x 0] ⟨H0 e0 e1 e2 , 3, 0, 0⟩) (.s 9 sm) = true := by kernel_rfl
def uU (n : Int) : List Value := [.int .i64 (n)]
theorem pathRrs_6 (n : Int) (b0 : -9223372036854775808 ≤ n) (b1 : n ≤ 9223372036854775807) (h0 : ¬ (n = 100)) (h1 : ¬ (n = 200)) (h2 : ¬ (n = 204)) (h3 : ¬ (n = 302)) (h4 : ¬ (n = 304)) (h5 : ¬ (n = 400)) (h6 : n = 404) (w : World) (hl : aG w) : au 6 #[.int .i64 n] w (St' nP) := by
 have ho : ∀ k r, (k, r) ∈ yC → aS (cx (aY (uU n)) (fun j _ => aT (l := uU n) rfl j) 3 aG aJ) k r := by
  unfold yC
  exact hc aQ <|hc aQ <|hc aQ <|hc aQ <|hc aQ <|hc aQ <|hc bu <|hnil
 refine a7 (tb := (aR yC)) (ra := .s 9 sm) rfl ((ab (aY (uU n)) (fun j _ => aT (l := uU n) rfl j)).hyps ho) rfl cP.1 cP.2 (fun e0 e1 e2 => runRrs_6 e0 e1 e2 ) (args := [.int .i64 n]) (by simp only [aH, Rel]; exact ⟨_, _, rfl, rfl, rfl⟩) w hl fun x hx => ?_
 simp only [Rel, aH] at hx
 exact hx.1
def yB : LK := [(.bin .eql (.x 0) (I6 100), .b false), (.bin .eql (.x 0) (I6 200), .b false), (.bin .eql (.x 0) (I6 204), .b false), (.bin .eql (.x 0) (I6 302), .b false), (.bin .eql (.x 0) (I6 304), .b false), (.bin .eql (.x 0) (I6 400), .b false), (.bin .eql (.x 0) (I6 404), .b false), (.bin .eql (.x 0) (I6 405), .b true)]
theorem runRrs_7 (e0 : Nat) (e1 : Nat) (e2 : Nat) : okA (call (aR yB) 9000 6 [.x 0] ⟨H0 e0 e1 e2 , 3, 0, 0⟩) (.s 18 sk) = true := by kernel_rfl
def uT (n : Int) : List Value := [.int .i64 (n)]
theorem pathRrs_7 (n : Int) (b0 : -9223372036854775808 ≤ n) (b1 : n ≤ 9223372036854775807) (h0 : ¬ (n = 100)) (h1 : ¬ (n = 200)) (h2 : ¬ (n = 204)) (h3 : ¬ (n = 302)) (h4 : ¬ (n = 304)) (h5 : ¬ (n = 400)) (h6 : ¬ (n = 404)) (h7 : n = 405) (w : World) (hl : aG w) : au 6 #[.int .i64 n] w (St' nO) := by
 have ho : ∀ k r, (k, r) ∈ yB → aS (cx (aY (uT n)) (fun j _ => aT (l := uT n) rfl j) 3 aG aJ) k r := by
  unfold yB
  exact hc aQ <|hc aQ <|hc aQ <|hc aQ <|hc aQ <|hc aQ <|hc aQ <|hc bu <|hnil
 refine a7 (tb := (aR yB)) (ra := .s 18 sk) rfl ((ab (aY (uT n)) (fun j _ => aT (l := uT n) rfl j)).hyps ho) rfl cP.1 cP.2 (fun e0 e1 e2 => runRrs_7 e0 e1 e2 ) (args := [.int .i64 n]) (by simp only [aH, Rel]; exact ⟨_, _, rfl, rfl, rfl⟩) w hl fun x hx => ?_
 simp only [Rel, aH] at hx
 exact hx.1
def yA : LK := [(.bin .eql (.x 0) (I6 100), .b false), (.bin .eql (.x 0) (I6 200), .b false), (.bin .eql (.x 0) (I6 204), .b false), (.bin .eql (.x 0) (I6 302), .b false), (.bin .eql (.x 0) (I6 304), .b false), (.bin .eql (.x 0) (I6 400), .b false), (.bin .eql (.x 0) (I6 404), .b false), (.bin .eql (.x 0) (I6 405), .b false), (.bin .eql (.x 0) (I6 413), .b true)]
theorem runRrs_8 (e0 : Nat) (e1 : Nat) (e2 : Nat) : okA (call (aR yA) 9000 6 [.x 0] ⟨H0 e0 e1 e2 , 3, 0, 0⟩) (.s 17 sj) = true := by kernel_rfl
def uS (n : Int) : List Value := [.int .i64 (n)]
theorem pathRrs_8 (n : Int) (b0 : -9223372036854775808 ≤ n) (b1 : n ≤ 9223372036854775807) (h0 : ¬ (n = 100)) (h1 : ¬ (n = 200)) (h2 : ¬ (n = 204)) (h3 : ¬ (n = 302)) (h4 : ¬ (n = 304)) (h5 : ¬ (n = 400)) (h6 : ¬ (n = 404)) (h7 : ¬ (n = 405)) (h8 : n = 413) (w : World) (hl : aG w) : au 6 #[.int .i64 n] w (St' nN) := by
 have ho : ∀ k r, (k, r) ∈ yA → aS (cx (aY (uS n)) (fun j _ => aT (l := uS n) rfl j) 3 aG aJ) k r := by
  unfold yA
  exact hc aQ <|hc aQ <|hc aQ <|hc aQ <|hc aQ <|hc aQ <|hc aQ <|hc aQ <|hc bu <|hnil
 refine a7 (tb := (aR yA)) (ra := .s 17 sj) rfl ((ab (aY (uS n)) (fun j _ => aT (l := uS n) rfl j)).hyps ho) rfl cP.1 cP.2 (fun e0 e1 e2 => runRrs_8 e0 e1 e2 ) (args := [.int .i64 n]) (by simp only [aH, Rel]; exact ⟨_, _, rfl, rfl, rfl⟩) w hl fun x hx => ?_
 simp only [Rel, aH] at hx
 exact hx.1
def x6 : LK := [(.bin .eql (.x 0) (I6 100), .b false), (.bin .eql (.x 0) (I6 200), .b false), (.bin .eql (.x 0) (I6 204), .b false), (.bin .eql (.x 0) (I6 302), .b false), (.bin .eql (.x 0) (I6 304), .b false), (.bin .eql (.x 0) (I6 400), .b false), (.bin .eql (.x 0) (I6 404), .b false), (.bin .eql (.x 0) (I6 405), .b false), (.bin .eql (.x 0) (I6 413), .b false), (.bin .eql (.x 0) (I6 431), .b true)]
theorem runRrs_9 (e0 : Nat) (e1 : Nat) (e2 : Nat) : okA (call (aR x6) 9000 6 [.x 0] ⟨H0 e0 e1 e2 , 3, 0, 0⟩) (.s 31 sf) = true := by kernel_rfl
def uR (n : Int) : List Value := [.int .i64 (n)]
theorem pathRrs_9 (n : Int) (b0 : -9223372036854775808 ≤ n) (b1 : n ≤ 9223372036854775807) (h0 : ¬ (n = 100)) (h1 : ¬ (n = 200)) (h2 : ¬ (n = 204)) (h3 : ¬ (n = 302)) (h4 : ¬ (n = 304)) (h5 : ¬ (n = 400)) (h6 : ¬ (n = 404)) (h7 : ¬ (n = 405)) (h8 : ¬ (n = 413)) (h9 : n = 431) (w : World) (hl : aG w) : au 6 #[.int .i64 n] w (St' nM) := by
 have ho : ∀ k r, (k, r) ∈ x6 → aS (cx (aY (uR n)) (fun j _ => aT (l := uR n) rfl j) 3 aG aJ) k r := by
  unfold x6
  exact hc aQ <|hc aQ <|hc aQ <|hc aQ <|hc aQ <|hc aQ <|hc aQ <|hc aQ <|hc aQ <|hc bu <|hnil
 refine a7 (tb := (aR x6)) (ra := .s 31 sf) rfl ((ab (aY (uR n)) (fun j _ => aT (l := uR n) rfl j)).hyps ho) rfl cP.1 cP.2 (fun e0 e1 e2 => runRrs_9 e0 e1 e2 ) (args := [.int .i64 n]) (by simp only [aH, Rel]; exact ⟨_, _, rfl, rfl, rfl⟩) w hl fun x hx => ?_
 simp only [Rel, aH] at hx
 exact hx.1
def yN : LK := [(.bin .eql (.x 0) (I6 100), .b false), (.bin .eql (.x 0) (I6 200), .b false), (.bin .eql (.x 0) (I6 204), .b false), (.bin .eql (.x 0) (I6 302), .b false), (.bin .eql (.x 0) (I6 304), .b false), (.bin .eql (.x 0) (I6 400), .b false), (.bin .eql (.x 0) (I6 404), .b false), (.bin .eql (.x 0) (I6 405), .b false), (.bin .eql (.x 0) (I6 413), .b false), (.bin .eql (.x 0) (I6 431), .b false), (.bin .eql (.x 0) (I6 500), .b true)]
theorem runRrs_10 (e0 : Nat) (e1 : Nat) (e2 : Nat) : okA (call (aR yN) 9000 6 [.x 0] ⟨H0 e0 e1 e2 , 3, 0, 0⟩) (.s 21 sd) = true := by kernel_rfl
def uf (n : Int) : List Value := [.int .i64 (n)]
theorem pathRrs_10 (n : Int) (b0 : -9223372036854775808 ≤ n) (b1 : n ≤ 9223372036854775807) (h0 : ¬ (n = 100)) (h1 : ¬ (n = 200)) (h2 : ¬ (n = 204)) (h3 : ¬ (n = 302)) (h4 : ¬ (n = 304)) (h5 : ¬ (n = 400)) (h6 : ¬ (n = 404)) (h7 : ¬ (n = 405)) (h8 : ¬ (n = 413)) (h9 : ¬ (n = 431)) (h10 : n = 500) (w : World) (hl : aG w) : au 6 #[.int .i64 n] w (St' nL) := by
 have ho : ∀ k r, (k, r) ∈ yN → aS (cx (aY (uf n)) (fun j _ => aT (l := uf n) rfl j) 3 aG aJ) k r := by
  unfold yN
  exact hc aQ <|hc aQ <|hc aQ <|hc aQ <|hc aQ <|hc aQ <|hc aQ <|hc aQ <|hc aQ <|hc aQ <|hc bu <|hnil
 refine a7 (tb := (aR yN)) (ra := .s 21 sd) rfl ((ab (aY (uf n)) (fun j _ => aT (l := uf n) rfl j)).hyps ho) rfl cP.1 cP.2 (fun e0 e1 e2 => runRrs_10 e0 e1 e2 ) (args := [.int .i64 n]) (by simp only [aH, Rel]; exact ⟨_, _, rfl, rfl, rfl⟩) w hl fun x hx => ?_
 simp only [Rel, aH] at hx
 exact hx.1
def yM : LK := [(.bin .eql (.x 0) (I6 100), .b false), (.bin .eql (.x 0) (I6 200), .b false), (.bin .eql (.x 0) (I6 204), .b false), (.bin .eql (.x 0) (I6 302), .b false), (.bin .eql (.x 0) (I6 304), .b false), (.bin .eql (.x 0) (I6 400), .b false), (.bin .eql (.x 0) (I6 404), .b false), (.bin .eql (.x 0) (I6 405), .b false), (.bin .eql (.x 0) (I6 413), .b false), (.bin .eql (.x 0) (I6 431), .b false), (.bin .eql (.x 0) (I6 500), .b false), (.bin .eql (.x 0) (I6 501), .b true)]
theorem runRrs_11 (e0 : Nat) (e1 : Nat) (e2 : Nat) : okA (call (aR yM) 9000 6 [.x 0] ⟨H0 e0 e1 e2 , 3, 0, 0⟩) (.s 15 sZ) = true := by kernel_rfl
def ue (n : Int) : List Value := [.int .i64 (n)]
theorem pathRrs_11 (n : Int) (b0 : -9223372036854775808 ≤ n) (b1 : n ≤ 9223372036854775807) (h0 : ¬ (n = 100)) (h1 : ¬ (n = 200)) (h2 : ¬ (n = 204)) (h3 : ¬ (n = 302)) (h4 : ¬ (n = 304)) (h5 : ¬ (n = 400)) (h6 : ¬ (n = 404)) (h7 : ¬ (n = 405)) (h8 : ¬ (n = 413)) (h9 : ¬ (n = 431)) (h10 : ¬ (n = 500)) (h11 : n = 501) (w : World) (hl : aG w) : au 6 #[.int .i64 n] w (St' nK) := by
 have ho : ∀ k r, (k, r) ∈ yM → aS (cx (aY (ue n)) (fun j _ => aT (l := ue n) rfl j) 3 aG aJ) k r := by
  unfold yM
  exact hc aQ <|hc aQ <|hc aQ <|hc aQ <|hc aQ <|hc aQ <|hc aQ <|hc aQ <|hc aQ <|hc aQ <|hc aQ <|hc bu <|hnil
 refine a7 (tb := (aR yM)) (ra := .s 15 sZ) rfl ((ab (aY (ue n)) (fun j _ => aT (l := ue n) rfl j)).hyps ho) rfl cP.1 cP.2 (fun e0 e1 e2 => runRrs_11 e0 e1 e2 ) (args := [.int .i64 n]) (by simp only [aH, Rel]; exact ⟨_, _, rfl, rfl, rfl⟩) w hl fun x hx => ?_
 simp only [Rel, aH] at hx
 exact hx.1
def yL : LK := [(.bin .eql (.x 0) (I6 100), .b false), (.bin .eql (.x 0) (I6 200), .b false), (.bin .eql (.x 0) (I6 204), .b false), (.bin .eql (.x 0) (I6 302), .b false), (.bin .eql (.x 0) (I6 304), .b false), (.bin .eql (.x 0) (I6 400), .b false), (.bin .eql (.x 0) (I6 404), .b false), (.bin .eql (.x 0) (I6 405), .b false), (.bin .eql (.x 0) (I6 413), .b false), (.bin .eql (.x 0) (I6 431), .b false), (.bin .eql (.x 0) (I6 500), .b false), (.bin .eql (.x 0) (I6 501), .b false), (.bin .eql (.x 0) (I6 502), .b true)]
theorem runRrs_12 (e0 : Nat) (e1 : Nat) (e2 : Nat) : okA (call (aR yL) 9000 6 [.x 0] ⟨H0 e0 e1 e2 , 3, 0, 0⟩) (.s 11 sY) = true := by kernel_rfl
def ud (n : Int) : List Value := [.int .i64 (n)]
theorem pathRrs_12 (n : Int) (b0 : -9223372036854775808 ≤ n) (b1 : n ≤ 9223372036854775807) (h0 : ¬ (n = 100)) (h1 : ¬ (n = 200)) (h2 : ¬ (n = 204)) (h3 : ¬ (n = 302)) (h4 : ¬ (n = 304)) (h5 : ¬ (n = 400)) (h6 : ¬ (n = 404)) (h7 : ¬ (n = 405)) (h8 : ¬ (n = 413)) (h9 : ¬ (n = 431)) (h10 : ¬ (n = 500)) (h11 : ¬ (n = 501)) (h12 : n = 502) (w : World) (hl : aG w) : au 6 #[.int .i64 n] w (St' nJ) := by
 have ho : ∀ k r, (k, r) ∈ yL → aS (cx (aY (ud n)) (fun j _ => aT (l := ud n) rfl j) 3 aG aJ) k r := by
  unfold yL
  exact hc aQ <|hc aQ <|hc aQ <|hc aQ <|hc aQ <|hc aQ <|hc aQ <|hc aQ <|hc aQ <|hc aQ <|hc aQ <|hc aQ <|hc bu <|hnil
 refine a7 (tb := (aR yL)) (ra := .s 11 sY) rfl ((ab (aY (ud n)) (fun j _ => aT (l := ud n) rfl j)).hyps ho) rfl cP.1 cP.2 (fun e0 e1 e2 => runRrs_12 e0 e1 e2 ) (args := [.int .i64 n]) (by simp only [aH, Rel]; exact ⟨_, _, rfl, rfl, rfl⟩) w hl fun x hx => ?_
 simp only [Rel, aH] at hx
 exact hx.1
def yK : LK := [(.bin .eql (.x 0) (I6 100), .b false), (.bin .eql (.x 0) (I6 200), .b false), (.bin .eql (.x 0) (I6 204), .b false), (.bin .eql (.x 0) (I6 302), .b false), (.bin .eql (.x 0) (I6 304), .b false), (.bin .eql (.x 0) (I6 400), .b false), (.bin .eql (.x 0) (I6 404), .b false), (.bin .eql (.x 0) (I6 405), .b false), (.bin .eql (.x 0) (I6 413), .b false), (.bin .eql (.x 0) (I6 431), .b false), (.bin .eql (.x 0) (I6 500), .b false), (.bin .eql (.x 0) (I6 501), .b false), (.bin .eql (.x 0) (I6 502), .b false), (.bin .eql (.x 0) (I6 503), .b true)]
theorem runRrs_13 (e0 : Nat) (e1 : Nat) (e2 : Nat) : okA (call (aR yK) 9000 6 [.x 0] ⟨H0 e0 e1 e2 , 3, 0, 0⟩) (.s 19 sX) = true := by kernel_rfl
def uc (n : Int) : List Value := [.int .i64 (n)]
theorem pathRrs_13 (n : Int) (b0 : -9223372036854775808 ≤ n) (b1 : n ≤ 9223372036854775807) (h0 : ¬ (n = 100)) (h1 : ¬ (n = 200)) (h2 : ¬ (n = 204)) (h3 : ¬ (n = 302)) (h4 : ¬ (n = 304)) (h5 : ¬ (n = 400)) (h6 : ¬ (n = 404)) (h7 : ¬ (n = 405)) (h8 : ¬ (n = 413)) (h9 : ¬ (n = 431)) (h10 : ¬ (n = 500)) (h11 : ¬ (n = 501)) (h12 : ¬ (n = 502)) (h13 : n = 503) (w : World) (hl : aG w) : au 6 #[.int .i64 n] w (St' nI) := by
 have ho : ∀ k r, (k, r) ∈ yK → aS (cx (aY (uc n)) (fun j _ => aT (l := uc n) rfl j) 3 aG aJ) k r := by
  unfold yK
  exact hc aQ <|hc aQ <|hc aQ <|hc aQ <|hc aQ <|hc aQ <|hc aQ <|hc aQ <|hc aQ <|hc aQ <|hc aQ <|hc aQ <|hc aQ <|hc bu <|hnil
 refine a7 (tb := (aR yK)) (ra := .s 19 sX) rfl ((ab (aY (uc n)) (fun j _ => aT (l := uc n) rfl j)).hyps ho) rfl cP.1 cP.2 (fun e0 e1 e2 => runRrs_13 e0 e1 e2 ) (args := [.int .i64 n]) (by simp only [aH, Rel]; exact ⟨_, _, rfl, rfl, rfl⟩) w hl fun x hx => ?_
 simp only [Rel, aH] at hx
 exact hx.1
def yJ : LK := [(.bin .eql (.x 0) (I6 100), .b false), (.bin .eql (.x 0) (I6 200), .b false), (.bin .eql (.x 0) (I6 204), .b false), (.bin .eql (.x 0) (I6 302), .b false), (.bin .eql (.x 0) (I6 304), .b false), (.bin .eql (.x 0) (I6 400), .b false), (.bin .eql (.x 0) (I6 404), .b false), (.bin .eql (.x 0) (I6 405), .b false), (.bin .eql (.x 0) (I6 413), .b false), (.bin .eql (.x 0) (I6 431), .b false), (.bin .eql (.x 0) (I6 500), .b false), (.bin .eql (.x 0) (I6 501), .b false), (.bin .eql (.x 0) (I6 502), .b false), (.bin .eql (.x 0) (I6 503), .b false), (.bin .eql (.x 0) (I6 504), .b true)]
theorem runRrs_14 (e0 : Nat) (e1 : Nat) (e2 : Nat) : okA (call (aR yJ) 9000 6 [.x 0] ⟨H0 e0 e1 e2 , 3, 0, 0⟩) (.s 15 sW) = true := by kernel_rfl
def ub (n : Int) : List Value := [.int .i64 (n)]
theorem pathRrs_14 (n : Int) (b0 : -9223372036854775808 ≤ n) (b1 : n ≤ 9223372036854775807) (h0 : ¬ (n = 100)) (h1 : ¬ (n = 200)) (h2 : ¬ (n = 204)) (h3 : ¬ (n = 302)) (h4 : ¬ (n = 304)) (h5 : ¬ (n = 400)) (h6 : ¬ (n = 404)) (h7 : ¬ (n = 405)) (h8 : ¬ (n = 413)) (h9 : ¬ (n = 431)) (h10 : ¬ (n = 500)) (h11 : ¬ (n = 501)) (h12 : ¬ (n = 502)) (h13 : ¬ (n = 503)) (cZ : n = 504) (w : World) (hl : aG w) : au 6 #[.int .i64 n] w (St' nH) := by
 have ho : ∀ k r, (k, r) ∈ yJ → aS (cx (aY (ub n)) (fun j _ => aT (l := ub n) rfl j) 3 aG aJ) k r := by
  unfold yJ
  exact hc aQ <|hc aQ <|hc aQ <|hc aQ <|hc aQ <|hc aQ <|hc aQ <|hc aQ <|hc aQ <|hc aQ <|hc aQ <|hc aQ <|hc aQ <|hc aQ <|hc bu <|hnil
 refine a7 (tb := (aR yJ)) (ra := .s 15 sW) rfl ((ab (aY (ub n)) (fun j _ => aT (l := ub n) rfl j)).hyps ho) rfl cP.1 cP.2 (fun e0 e1 e2 => runRrs_14 e0 e1 e2 ) (args := [.int .i64 n]) (by simp only [aH, Rel]; exact ⟨_, _, rfl, rfl, rfl⟩) w hl fun x hx => ?_
 simp only [Rel, aH] at hx
 exact hx.1
def yI : LK := [(.bin .eql (.x 0) (I6 100), .b false), (.bin .eql (.x 0) (I6 200), .b false), (.bin .eql (.x 0) (I6 204), .b false), (.bin .eql (.x 0) (I6 302), .b false), (.bin .eql (.x 0) (I6 304), .b false), (.bin .eql (.x 0) (I6 400), .b false), (.bin .eql (.x 0) (I6 404), .b false), (.bin .eql (.x 0) (I6 405), .b false), (.bin .eql (.x 0) (I6 413), .b false), (.bin .eql (.x 0) (I6 431), .b false), (.bin .eql (.x 0) (I6 500), .b false), (.bin .eql (.x 0) (I6 501), .b false), (.bin .eql (.x 0) (I6 502), .b false), (.bin .eql (.x 0) (I6 503), .b false), (.bin .eql (.x 0) (I6 504), .b false), (.bin .eql (.x 0) (I6 505), .b true)]
theorem runRrs_15 (e0 : Nat) (e1 : Nat) (e2 : Nat) : okA (call (aR yI) 9000 6 [.x 0] ⟨H0 e0 e1 e2 , 3, 0, 0⟩) (.s 26 sV) = true := by kernel_rfl
def ua (n : Int) : List Value := [.int .i64 (n)]
theorem pathRrs_15 (n : Int) (b0 : -9223372036854775808 ≤ n) (b1 : n ≤ 9223372036854775807) (h0 : ¬ (n = 100)) (h1 : ¬ (n = 200)) (h2 : ¬ (n = 204)) (h3 : ¬ (n = 302)) (h4 : ¬ (n = 304)) (h5 : ¬ (n = 400)) (h6 : ¬ (n = 404)) (h7 : ¬ (n = 405)) (h8 : ¬ (n = 413)) (h9 : ¬ (n = 431)) (h10 : ¬ (n = 500)) (h11 : ¬ (n = 501)) (h12 : ¬ (n = 502)) (h13 : ¬ (n = 503)) (cZ : ¬ (n = 504)) (h15 : n = 505) (w : World) (hl : aG w) : au 6 #[.int .i64 n] w (St' nG) := by
 have ho : ∀ k r, (k, r) ∈ yI → aS (cx (aY (ua n)) (fun j _ => aT (l := ua n) rfl j) 3 aG aJ) k r := by
  unfold yI
  exact hc aQ <|hc aQ <|hc aQ <|hc aQ <|hc aQ <|hc aQ <|hc aQ <|hc aQ <|hc aQ <|hc aQ <|hc aQ <|hc aQ <|hc aQ <|hc aQ <|hc aQ <|hc bu <|hnil
 refine a7 (tb := (aR yI)) (ra := .s 26 sV) rfl ((ab (aY (ua n)) (fun j _ => aT (l := ua n) rfl j)).hyps ho) rfl cP.1 cP.2 (fun e0 e1 e2 => runRrs_15 e0 e1 e2 ) (args := [.int .i64 n]) (by simp only [aH, Rel]; exact ⟨_, _, rfl, rfl, rfl⟩) w hl fun x hx => ?_
 simp only [Rel, aH] at hx
 exact hx.1
def yH : LK := [(.bin .eql (.x 0) (I6 100), .b false), (.bin .eql (.x 0) (I6 200), .b false), (.bin .eql (.x 0) (I6 204), .b false), (.bin .eql (.x 0) (I6 302), .b false), (.bin .eql (.x 0) (I6 304), .b false), (.bin .eql (.x 0) (I6 400), .b false), (.bin .eql (.x 0) (I6 404), .b false), (.bin .eql (.x 0) (I6 405), .b false), (.bin .eql (.x 0) (I6 413), .b false), (.bin .eql (.x 0) (I6 431), .b false), (.bin .eql (.x 0) (I6 500), .b false), (.bin .eql (.x 0) (I6 501), .b false), (.bin .eql (.x 0) (I6 502), .b false), (.bin .eql (.x 0) (I6 503), .b false), (.bin .eql (.x 0) (I6 504), .b false), (.bin .eql (.x 0) (I6 505), .b false)]
theorem runRrs_16 (e0 : Nat) (e1 : Nat) (e2 : Nat) : okA (call (aR yH) 9000 6 [.x 0] ⟨H0 e0 e1 e2 , 3, 0, 0⟩) (.s 7 sU) = true := by kernel_rfl
def uZ (n : Int) : List Value := [.int .i64 (n)]
theorem pathRrs_16 (n : Int) (b0 : -9223372036854775808 ≤ n) (b1 : n ≤ 9223372036854775807) (h0 : ¬ (n = 100)) (h1 : ¬ (n = 200)) (h2 : ¬ (n = 204)) (h3 : ¬ (n = 302)) (h4 : ¬ (n = 304)) (h5 : ¬ (n = 400)) (h6 : ¬ (n = 404)) (h7 : ¬ (n = 405)) (h8 : ¬ (n = 413)) (h9 : ¬ (n = 431)) (h10 : ¬ (n = 500)) (h11 : ¬ (n = 501)) (h12 : ¬ (n = 502)) (h13 : ¬ (n = 503)) (cZ : ¬ (n = 504)) (h15 : ¬ (n = 505)) (w : World) (hl : aG w) : au 6 #[.int .i64 n] w (St' nF) := by
 have ho : ∀ k r, (k, r) ∈ yH → aS (cx (aY (uZ n)) (fun j _ => aT (l := uZ n) rfl j) 3 aG aJ) k r := by
  unfold yH
  exact hc aQ <|hc aQ <|hc aQ <|hc aQ <|hc aQ <|hc aQ <|hc aQ <|hc aQ <|hc aQ <|hc aQ <|hc aQ <|hc aQ <|hc aQ <|hc aQ <|hc aQ <|hc aQ <|hnil
 refine a7 (tb := (aR yH)) (ra := .s 7 sU) rfl ((ab (aY (uZ n)) (fun j _ => aT (l := uZ n) rfl j)).hyps ho) rfl cP.1 cP.2 (fun e0 e1 e2 => runRrs_16 e0 e1 e2 ) (args := [.int .i64 n]) (by simp only [aH, Rel]; exact ⟨_, _, rfl, rfl, rfl⟩) w hl fun x hx => ?_
 simp only [Rel, aH] at hx
 exact hx.1
theorem callsRrs (n : Int) (b0 : -9223372036854775808 ≤ n) (b1 : n ≤ 9223372036854775807) (w : World) (hl : aG w) : au 6 #[.int .i64 n] w (St' (aV n)) := by
 by_cases h0 : n = 100
 ·rw [show (St' (aV n) : Value) = (St' nU : Value) from by unfold aV; rw [if_pos h0]]
  exact pathRrs_0 n b0 b1 h0 w hl
 ·by_cases h1 : n = 200
  ·rw [show (St' (aV n) : Value) = (St' [u8 79, u8 75] : Value) from by unfold aV; rw [if_neg h0, if_pos h1]]
   exact pathRrs_1 n b0 b1 h0 h1 w hl
  ·by_cases h2 : n = 204
   ·rw [show (St' (aV n) : Value) = (St' nT : Value) from by unfold aV; rw [if_neg h0, if_neg h1, if_pos h2]]
    exact pathRrs_2 n b0 b1 h0 h1 h2 w hl
   ·by_cases h3 : n = 302
    ·rw [show (St' (aV n) : Value) = (St' nS : Value) from by unfold aV; rw [if_neg h0, if_neg h1, if_neg h2, if_pos h3]]
     exact pathRrs_3 n b0 b1 h0 h1 h2 h3 w hl
    ·by_cases h4 : n = 304
     ·rw [show (St' (aV n) : Value) = (St' nR : Value) from by unfold aV; rw [if_neg h0, if_neg h1, if_neg h2, if_neg h3, if_pos h4]]
      exact pathRrs_4 n b0 b1 h0 h1 h2 h3 h4 w hl
     ·by_cases h5 : n = 400
      ·rw [show (St' (aV n) : Value) = (St' nQ : Value) from by unfold aV; rw [if_neg h0, if_neg h1, if_neg h2, if_neg h3, if_neg h4, if_pos h5]]
       exact pathRrs_5 n b0 b1 h0 h1 h2 h3 h4 h5 w hl
      ·by_cases h6 : n = 404
       ·rw [show (St' (aV n) : Value) = (St' nP : Value) from by unfold aV; rw [if_neg h0, if_neg h1, if_neg h2, if_neg h3, if_neg h4, if_neg h5, if_pos h6]]
        exact pathRrs_6 n b0 b1 h0 h1 h2 h3 h4 h5 h6 w hl
       ·by_cases h7 : n = 405
        ·rw [show (St' (aV n) : Value) = (St' nO : Value) from by unfold aV; rw [if_neg h0, if_neg h1, if_neg h2, if_neg h3, if_neg h4, if_neg h5, if_neg h6, if_pos h7]]
         exact pathRrs_7 n b0 b1 h0 h1 h2 h3 h4 h5 h6 h7 w hl
        ·by_cases h8 : n = 413
         ·rw [show (St' (aV n) : Value) = (St' nN : Value) from by unfold aV; rw [if_neg h0, if_neg h1, if_neg h2, if_neg h3, if_neg h4, if_neg h5, if_neg h6, if_neg h7, if_pos h8]]
          exact pathRrs_8 n b0 b1 h0 h1 h2 h3 h4 h5 h6 h7 h8 w hl
         ·by_cases h9 : n = 431
          ·rw [show (St' (aV n) : Value) = (St' nM : Value) from by unfold aV; rw [if_neg h0, if_neg h1, if_neg h2, if_neg h3, if_neg h4, if_neg h5, if_neg h6, if_neg h7, if_neg h8, if_pos h9]]
           exact pathRrs_9 n b0 b1 h0 h1 h2 h3 h4 h5 h6 h7 h8 h9 w hl
          ·by_cases h10 : n = 500
           ·rw [show (St' (aV n) : Value) = (St' nL : Value) from by unfold aV; rw [if_neg h0, if_neg h1, if_neg h2, if_neg h3, if_neg h4, if_neg h5, if_neg h6, if_neg h7, if_neg h8, if_neg h9, if_pos h10]]
            exact pathRrs_10 n b0 b1 h0 h1 h2 h3 h4 h5 h6 h7 h8 h9 h10 w hl
           ·by_cases h11 : n = 501
            ·rw [show (St' (aV n) : Value) = (St' nK : Value) from by unfold aV; rw [if_neg h0, if_neg h1, if_neg h2, if_neg h3, if_neg h4, if_neg h5, if_neg h6, if_neg h7, if_neg h8, if_neg h9, if_neg h10, if_pos h11]]
             exact pathRrs_11 n b0 b1 h0 h1 h2 h3 h4 h5 h6 h7 h8 h9 h10 h11 w hl
            ·by_cases h12 : n = 502
             ·rw [show (St' (aV n) : Value) = (St' nJ : Value) from by unfold aV; rw [if_neg h0, if_neg h1, if_neg h2, if_neg h3, if_neg h4, if_neg h5, if_neg h6, if_neg h7, if_neg h8, if_neg h9, if_neg h10, if_neg h11, if_pos h12]]
              exact pathRrs_12 n b0 b1 h0 h1 h2 h3 h4 h5 h6 h7 h8 h9 h10 h11 h12 w hl
             ·by_cases h13 : n = 503
              ·rw [show (St' (aV n) : Value) = (St' nI : Value) from by unfold aV; rw [if_neg h0, if_neg h1, if_neg h2, if_neg h3, if_neg h4, if_neg h5, if_neg h6, if_neg h7, if_neg h8, if_neg h9, if_neg h10, if_neg h11, if_neg h12, if_pos h13]]
               exact pathRrs_13 n b0 b1 h0 h1 h2 h3 h4 h5 h6 h7 h8 h9 h10 h11 h12 h13 w hl
              ·by_cases cZ : n = 504
               ·rw [show (St' (aV n) : Value) = (St' nH : Value) from by unfold aV; rw [if_neg h0, if_neg h1, if_neg h2, if_neg h3, if_neg h4, if_neg h5, if_neg h6, if_neg h7, if_neg h8, if_neg h9, if_neg h10, if_neg h11, if_neg h12, if_neg h13, if_pos cZ]]
                exact pathRrs_14 n b0 b1 h0 h1 h2 h3 h4 h5 h6 h7 h8 h9 h10 h11 h12 h13 cZ w hl
               ·by_cases h15 : n = 505
                ·rw [show (St' (aV n) : Value) = (St' nG : Value) from by unfold aV; rw [if_neg h0, if_neg h1, if_neg h2, if_neg h3, if_neg h4, if_neg h5, if_neg h6, if_neg h7, if_neg h8, if_neg h9, if_neg h10, if_neg h11, if_neg h12, if_neg h13, if_neg cZ, if_pos h15]]
                 exact pathRrs_15 n b0 b1 h0 h1 h2 h3 h4 h5 h6 h7 h8 h9 h10 h11 h12 h13 cZ h15 w hl
                ·rw [show (St' (aV n) : Value) = (St' nF : Value) from by unfold aV; rw [if_neg h0, if_neg h1, if_neg h2, if_neg h3, if_neg h4, if_neg h5, if_neg h6, if_neg h7, if_neg h8, if_neg h9, if_neg h10, if_neg h11, if_neg h12, if_neg h13, if_neg cZ, if_neg h15]]
                 exact pathRrs_16 n b0 b1 h0 h1 h2 h3 h4 h5 h6 h7 h8 h9 h10 h11 h12 h13 cZ h15 w hl
theorem oh {x0 r : AV} {n : Int} (i0 : Is (cx nu one 3 aG aJ) x0 (.int .i64 n)) (hr : Den (cx nu one 3 aG aJ) r (St' (aV n))) (b0 : -9223372036854775808 ≤ n := by omega) (b1 : n ≤ 9223372036854775807 := by omega) : aS (cx nu one 3 aG aJ) (.call 6 [x0]) r := by
 intro ρ args ha w hl _
 simp only [aH] at ha
 obtain ⟨v0, t0, rfl, a0, rfl⟩ := ha
 have e0 := i0 ρ _ a0; subst e0
 exact (callsRrs n b0 b1 w hl).mono fun e w' he => ⟨_, he.1, hr ρ, he.2⟩
def ax (m : LB) (n : Int) : Bool := if m = eC then true else if n = 204 then true else if n = 304 then true else false
def bL (q : Int) (m : LB) (n : Int) : Bool := if q = 1 then !ax m n else false
def aw (k : Bool) : LB := if k = true then eM else pV
theorem Av {m : LB} {n : Int} (h : n = 204 ∨ n = 304) : ax m n = true := by
 unfold ax; split
 ·rfl
 ·split
  ·rfl
  ·rw [if_pos (by omega)]
theorem fq (k : Bool) : 5 ≤ (aw k).length ∧ (aw k).length ≤ 10 := by cases k <;> decide
theorem xM {C : Cx} {x r : AV} {b : Bool} (hx : Is C x (.bool b)) (aB : Den C r (.bool (!b))) : aS C (.un .not x) r := fun ρ vx h => by
 have e := hx ρ vx h; subst e
 exact ⟨_, aB ρ, fun w => rfl⟩
theorem kNotT {C : Cx} {x : AV} {b : Bool} (hx : Is C x (.bool b)) (h : b = true) : aS C (.un .not x) (.b false) := xM hx (by subst h; exact me false)
theorem kNotF {C : Cx} {x : AV} {b : Bool} (hx : Is C x (.bool b)) (h : ¬ b = true) : aS C (.un .not x) (.b true) := xM hx (by rw [Bool.eq_false_iff.2 h]; exact me true)
theorem fp {C : Cx} {a b : AV} {v u : Value} (h : Den C a v) (k : Den C b u) : Den C (.ag [a, b]) (.agg #[v, u]) := fun ρ => by simp only [Rel, aH]; exact ⟨_, rfl, _, _, rfl, h ρ, _, _, rfl, k ρ, rfl⟩
theorem xT {C : Cx} {x y : AV} {u v : Value} (hx : Is C x u) (hy : Is C y v) : Is C (.ag [x, y]) (.agg #[u, v]) := fun ρ w h => by
 simp only [Rel, aH] at h
 obtain ⟨l, rfl, a, t, rfl, h1, b, u, rfl, h2, rfl⟩ := h
 rw [hx ρ _ h1, hy ρ _ h2]
theorem bY {C : Cx} {a b c d e : AV} {u v x y z : Value} (ha : Is C a u) (hb : Is C b v) (hc : Is C c x) (hd : Is C d y) (he : Is C e z) : Is C (.ag [a, b, c, d, e]) (.agg #[u, v, x, y, z]) := fun ρ w h => by
 simp only [Rel, aH] at h
 obtain ⟨l, rfl, _, _, rfl, h1, _, _, rfl, h2, _, _, rfl, h3, _, _, rfl, h4, _, _, rfl, h5, rfl⟩ := h
 rw [ha ρ _ h1, hb ρ _ h2, hc ρ _ h3, hd ρ _ h4, he ρ _ h5]
abbrev jz (C : Cx) (F : AV) : Prop := ∀ ρ v, Rel C ρ F v → ∃ a n c, v = .slice a n c
theorem dS {C : Cx} {b : Nat} : jz C (.sr b) := fun ρ v h => by simp only [Rel] at h; obtain ⟨r, _, _, rfl⟩ := h; exact ⟨_, _, _, rfl⟩
theorem fT {C : Cx} : jz C .es := fun ρ v h => by simp only [Rel] at h; obtain ⟨a, c, rfl⟩ := h; exact ⟨_, _, _, rfl⟩
theorem ib {C : Cx} {i n c : Nat} {a : Option Addr} (e : C.nu i = .slice a n c) : jz C (.x i) := fun ρ v h => by simp only [Rel] at h; exact ⟨_, _, _, h.trans e⟩
theorem lM : bc.fn.get 7 = some (fI Tryd.f7 0) ∧ (fI Tryd.f7 0).body.isSome = true := ⟨rfl, by kernel_rfl⟩
def zT : LK := [(.bin .eql (.x 0) (.s 4 1145128264), .b true)]
theorem runBar_0 (e0 : Nat) (e1 : Nat) (e2 : Nat) : okA (call (aR zT) 9000 7 [.x 0, .x 1] ⟨H0 e0 e1 e2 , 3, 0, 0⟩) (.b true) = true := by kernel_rfl
def wR (m : LB) (n : Int) : List Value := [St' m, .int .i64 (n)]
theorem pathBar_0 (m : LB) (n : Int) (b0 : m.length ≤ 9223372036854775807) (b1 : -9223372036854775808 ≤ n) (b2 : n ≤ 9223372036854775807) (h0 : m = eC) (w : World) (hl : aG w) : au 7 #[St' m, .int .i64 n] w (.bool true) := by
 have ho : ∀ k r, (k, r) ∈ zT → aS (cx (aY (wR m n)) (fun j _ => aT (l := wR m n) rfl j) 3 aG aJ) k r := by
  unfold zT
  exact hc (br (aA rfl) (aO (l := eC) 4 1145128264 rfl) (by first | exact decide_eq_true rfl | exact decide_eq_true ‹_› | exact decide_eq_false ‹_›)) <|hnil
 refine a7 (tb := (aR zT)) (ra := .b true) rfl ((ab (aY (wR m n)) (fun j _ => aT (l := wR m n) rfl j)).hyps ho) rfl lM.1 lM.2 (fun e0 e1 e2 => runBar_0 e0 e1 e2 ) (args := [St' m, .int .i64 n]) (by simp only [aH, Rel]; exact ⟨_, _, rfl, rfl, ⟨_, _, rfl, rfl, rfl⟩⟩) w hl fun x hx => ?_
 simp only [Rel, aH] at hx
 exact hx
def zS : LK := [(.bin .eql (.x 0) (.s 4 1145128264), .b false), (.bin .eql (.x 1) (I6 204), .b true)]
theorem runBar_1 (e0 : Nat) (e1 : Nat) (e2 : Nat) : okA (call (aR zS) 9000 7 [.x 0, .x 1] ⟨H0 e0 e1 e2 , 3, 0, 0⟩) (.b true) = true := by kernel_rfl
def wQ (m : LB) (n : Int) : List Value := [St' m, .int .i64 (n)]
theorem pathBar_1 (m : LB) (n : Int) (b0 : m.length ≤ 9223372036854775807) (b1 : -9223372036854775808 ≤ n) (b2 : n ≤ 9223372036854775807) (h0 : ¬ (m = eC)) (h1 : n = 204) (w : World) (hl : aG w) : au 7 #[St' m, .int .i64 n] w (.bool true) := by
 have ho : ∀ k r, (k, r) ∈ zS → aS (cx (aY (wQ m n)) (fun j _ => aT (l := wQ m n) rfl j) 3 aG aJ) k r := by
  unfold zS
  exact hc (br (aA rfl) (aO (l := eC) 4 1145128264 rfl) (by first | exact decide_eq_true rfl | exact decide_eq_true ‹_› | exact decide_eq_false ‹_›)) <|hc bu <|hnil
 refine a7 (tb := (aR zS)) (ra := .b true) rfl ((ab (aY (wQ m n)) (fun j _ => aT (l := wQ m n) rfl j)).hyps ho) rfl lM.1 lM.2 (fun e0 e1 e2 => runBar_1 e0 e1 e2 ) (args := [St' m, .int .i64 n]) (by simp only [aH, Rel]; exact ⟨_, _, rfl, rfl, ⟨_, _, rfl, rfl, rfl⟩⟩) w hl fun x hx => ?_
 simp only [Rel, aH] at hx
 exact hx
def zR : LK := [(.bin .eql (.x 0) (.s 4 1145128264), .b false), (.bin .eql (.x 1) (I6 204), .b false), (.bin .eql (.x 1) (I6 304), .b true)]
theorem runBar_2 (e0 : Nat) (e1 : Nat) (e2 : Nat) : okA (call (aR zR) 9000 7 [.x 0, .x 1] ⟨H0 e0 e1 e2 , 3, 0, 0⟩) (.b true) = true := by kernel_rfl
def wP (m : LB) (n : Int) : List Value := [St' m, .int .i64 (n)]
theorem pathBar_2 (m : LB) (n : Int) (b0 : m.length ≤ 9223372036854775807) (b1 : -9223372036854775808 ≤ n) (b2 : n ≤ 9223372036854775807) (h0 : ¬ (m = eC)) (h1 : ¬ (n = 204)) (h2 : n = 304) (w : World) (hl : aG w) : au 7 #[St' m, .int .i64 n] w (.bool true) := by
 have ho : ∀ k r, (k, r) ∈ zR → aS (cx (aY (wP m n)) (fun j _ => aT (l := wP m n) rfl j) 3 aG aJ) k r := by
  unfold zR
  exact hc (br (aA rfl) (aO (l := eC) 4 1145128264 rfl) (by first | exact decide_eq_true rfl | exact decide_eq_true ‹_› | exact decide_eq_false ‹_›)) <|hc aQ <|hc bu <|hnil
 refine a7 (tb := (aR zR)) (ra := .b true) rfl ((ab (aY (wP m n)) (fun j _ => aT (l := wP m n) rfl j)).hyps ho) rfl lM.1 lM.2 (fun e0 e1 e2 => runBar_2 e0 e1 e2 ) (args := [St' m, .int .i64 n]) (by simp only [aH, Rel]; exact ⟨_, _, rfl, rfl, ⟨_, _, rfl, rfl, rfl⟩⟩) w hl fun x hx => ?_
 simp only [Rel, aH] at hx
 exact hx
def zQ : LK := [(.bin .eql (.x 0) (.s 4 1145128264), .b false), (.bin .eql (.x 1) (I6 204), .b false), (.bin .eql (.x 1) (I6 304), .b false)]
theorem runBar_3 (e0 : Nat) (e1 : Nat) (e2 : Nat) : okA (call (aR zQ) 9000 7 [.x 0, .x 1] ⟨H0 e0 e1 e2 , 3, 0, 0⟩) (.b false) = true := by kernel_rfl
def wO (m : LB) (n : Int) : List Value := [St' m, .int .i64 (n)]
theorem pathBar_3 (m : LB) (n : Int) (b0 : m.length ≤ 9223372036854775807) (b1 : -9223372036854775808 ≤ n) (b2 : n ≤ 9223372036854775807) (h0 : ¬ (m = eC)) (h1 : ¬ (n = 204)) (h2 : ¬ (n = 304)) (w : World) (hl : aG w) : au 7 #[St' m, .int .i64 n] w (.bool false) := by
 have ho : ∀ k r, (k, r) ∈ zQ → aS (cx (aY (wO m n)) (fun j _ => aT (l := wO m n) rfl j) 3 aG aJ) k r := by
  unfold zQ
  exact hc (br (aA rfl) (aO (l := eC) 4 1145128264 rfl) (by first | exact decide_eq_true rfl | exact decide_eq_true ‹_› | exact decide_eq_false ‹_›)) <|hc aQ <|hc aQ <|hnil
 refine a7 (tb := (aR zQ)) (ra := .b false) rfl ((ab (aY (wO m n)) (fun j _ => aT (l := wO m n) rfl j)).hyps ho) rfl lM.1 lM.2 (fun e0 e1 e2 => runBar_3 e0 e1 e2 ) (args := [St' m, .int .i64 n]) (by simp only [aH, Rel]; exact ⟨_, _, rfl, rfl, ⟨_, _, rfl, rfl, rfl⟩⟩) w hl fun x hx => ?_
 simp only [Rel, aH] at hx
 exact hx
theorem callsBar (m : LB) (n : Int) (b0 : m.length ≤ 9223372036854775807) (b1 : -9223372036854775808 ≤ n) (b2 : n ≤ 9223372036854775807) (w : World) (hl : aG w) : au 7 #[St' m, .int .i64 n] w (.bool (ax m n)) := by
 by_cases h0 : m = eC
 ·rw [show (.bool (ax m n) : Value) = (.bool true : Value) from by unfold ax; rw [if_pos h0]]
  exact pathBar_0 m n b0 b1 b2 h0 w hl
 ·by_cases h1 : n = 204
  ·rw [show (.bool (ax m n) : Value) = (.bool true : Value) from by unfold ax; rw [if_neg h0, if_pos h1]]
   exact pathBar_1 m n b0 b1 b2 h0 h1 w hl
  ·by_cases h2 : n = 304
   ·rw [show (.bool (ax m n) : Value) = (.bool true : Value) from by unfold ax; rw [if_neg h0, if_neg h1, if_pos h2]]
    exact pathBar_2 m n b0 b1 b2 h0 h1 h2 w hl
   ·rw [show (.bool (ax m n) : Value) = (.bool false : Value) from by unfold ax; rw [if_neg h0, if_neg h1, if_neg h2]]
    exact pathBar_3 m n b0 b1 b2 h0 h1 h2 w hl
theorem gp {x0 x1 r : AV} {m : LB} {n : Int} (i0 : Is (cx nu one 3 aG aJ) x0 (St' m)) (i1 : Is (cx nu one 3 aG aJ) x1 (.int .i64 n)) (hr : Den (cx nu one 3 aG aJ) r (.bool (ax m n))) (b0 : m.length ≤ 9223372036854775807 := by omega) (b1 : -9223372036854775808 ≤ n := by omega) (b2 : n ≤ 9223372036854775807 := by omega) : aS (cx nu one 3 aG aJ) (.call 7 [x0, x1]) r := by
 intro ρ args ha w hl _
 simp only [aH] at ha
 obtain ⟨v0, t0, rfl, a0, v1, t1, rfl, a1, rfl⟩ := ha
 have e0 := i0 ρ _ a0; subst e0
 have e1 := i1 ρ _ a1; subst e1
 exact (callsBar m n b0 b1 b2 w hl).mono fun e w' he => ⟨_, he.1, hr ρ, he.2⟩
theorem lJ : bc.fn.get 8 = some (fI Tryd.f8 0) ∧ (fI Tryd.f8 0).body.isSome = true := ⟨rfl, by kernel_rfl⟩
def yk : LK := [(.bin .eql (.x 0) (.s 4 1145128264), .b true)]
theorem runRba_0 (e0 : Nat) (e1 : Nat) (e2 : Nat) : okA (call (aR yk) 9000 8 [.x 0, .x 1] ⟨H0 e0 e1 e2 , 3, 0, 0⟩) (.b true) = true := by kernel_rfl
def vG (m : LB) (n : Int) : List Value := [St' m, .int .i64 (n)]
theorem pathRba_0 (m : LB) (n : Int) (b0 : m.length ≤ 9223372036854775807) (b1 : -9223372036854775808 ≤ n) (b2 : n ≤ 9223372036854775807) (h0 : m = eC) (w : World) (hl : aG w) : au 8 #[St' m, .int .i64 n] w (.bool true) := by
 have ho : ∀ k r, (k, r) ∈ yk → aS (cx (aY (vG m n)) (fun j _ => aT (l := vG m n) rfl j) 3 aG aJ) k r := by
  unfold yk
  exact hc (br (aA rfl) (aO (l := eC) 4 1145128264 rfl) (by first | exact decide_eq_true rfl | exact decide_eq_true ‹_› | exact decide_eq_false ‹_›)) <|hnil
 refine a7 (tb := (aR yk)) (ra := .b true) rfl ((ab (aY (vG m n)) (fun j _ => aT (l := vG m n) rfl j)).hyps ho) rfl lJ.1 lJ.2 (fun e0 e1 e2 => runRba_0 e0 e1 e2 ) (args := [St' m, .int .i64 n]) (by simp only [aH, Rel]; exact ⟨_, _, rfl, rfl, ⟨_, _, rfl, rfl, rfl⟩⟩) w hl fun x hx => ?_
 simp only [Rel, aH] at hx
 exact hx
def yj : LK := [(.bin .eql (.x 0) (.s 4 1145128264), .b false), (.bin .eql (.x 1) (I6 204), .b true)]
theorem runRba_1 (e0 : Nat) (e1 : Nat) (e2 : Nat) : okA (call (aR yj) 9000 8 [.x 0, .x 1] ⟨H0 e0 e1 e2 , 3, 0, 0⟩) (.b true) = true := by kernel_rfl
def vF (m : LB) (n : Int) : List Value := [St' m, .int .i64 (n)]
theorem pathRba_1 (m : LB) (n : Int) (b0 : m.length ≤ 9223372036854775807) (b1 : -9223372036854775808 ≤ n) (b2 : n ≤ 9223372036854775807) (h0 : ¬ (m = eC)) (h1 : n = 204) (w : World) (hl : aG w) : au 8 #[St' m, .int .i64 n] w (.bool true) := by
 have ho : ∀ k r, (k, r) ∈ yj → aS (cx (aY (vF m n)) (fun j _ => aT (l := vF m n) rfl j) 3 aG aJ) k r := by
  unfold yj
  exact hc (br (aA rfl) (aO (l := eC) 4 1145128264 rfl) (by first | exact decide_eq_true rfl | exact decide_eq_true ‹_› | exact decide_eq_false ‹_›)) <|hc bu <|hnil
 refine a7 (tb := (aR yj)) (ra := .b true) rfl ((ab (aY (vF m n)) (fun j _ => aT (l := vF m n) rfl j)).hyps ho) rfl lJ.1 lJ.2 (fun e0 e1 e2 => runRba_1 e0 e1 e2 ) (args := [St' m, .int .i64 n]) (by simp only [aH, Rel]; exact ⟨_, _, rfl, rfl, ⟨_, _, rfl, rfl, rfl⟩⟩) w hl fun x hx => ?_
 simp only [Rel, aH] at hx
 exact hx
def yi : LK := [(.bin .eql (.x 0) (.s 4 1145128264), .b false), (.bin .eql (.x 1) (I6 204), .b false), (.bin .eql (.x 1) (I6 304), .b true)]
theorem runRba_2 (e0 : Nat) (e1 : Nat) (e2 : Nat) : okA (call (aR yi) 9000 8 [.x 0, .x 1] ⟨H0 e0 e1 e2 , 3, 0, 0⟩) (.b true) = true := by kernel_rfl
def vE (m : LB) (n : Int) : List Value := [St' m, .int .i64 (n)]
theorem pathRba_2 (m : LB) (n : Int) (b0 : m.length ≤ 9223372036854775807) (b1 : -9223372036854775808 ≤ n) (b2 : n ≤ 9223372036854775807) (h0 : ¬ (m = eC)) (h1 : ¬ (n = 204)) (h2 : n = 304) (w : World) (hl : aG w) : au 8 #[St' m, .int .i64 n] w (.bool true) := by
 have ho : ∀ k r, (k, r) ∈ yi → aS (cx (aY (vE m n)) (fun j _ => aT (l := vE m n) rfl j) 3 aG aJ) k r := by
  unfold yi
  exact hc (br (aA rfl) (aO (l := eC) 4 1145128264 rfl) (by first | exact decide_eq_true rfl | exact decide_eq_true ‹_› | exact decide_eq_false ‹_›)) <|hc aQ <|hc bu <|hnil
 refine a7 (tb := (aR yi)) (ra := .b true) rfl ((ab (aY (vE m n)) (fun j _ => aT (l := vE m n) rfl j)).hyps ho) rfl lJ.1 lJ.2 (fun e0 e1 e2 => runRba_2 e0 e1 e2 ) (args := [St' m, .int .i64 n]) (by simp only [aH, Rel]; exact ⟨_, _, rfl, rfl, ⟨_, _, rfl, rfl, rfl⟩⟩) w hl fun x hx => ?_
 simp only [Rel, aH] at hx
 exact hx
def yh : LK := [(.bin .eql (.x 0) (.s 4 1145128264), .b false), (.bin .eql (.x 1) (I6 204), .b false), (.bin .eql (.x 1) (I6 304), .b false)]
theorem runRba_3 (e0 : Nat) (e1 : Nat) (e2 : Nat) : okA (call (aR yh) 9000 8 [.x 0, .x 1] ⟨H0 e0 e1 e2 , 3, 0, 0⟩) (.b false) = true := by kernel_rfl
def vD (m : LB) (n : Int) : List Value := [St' m, .int .i64 (n)]
theorem pathRba_3 (m : LB) (n : Int) (b0 : m.length ≤ 9223372036854775807) (b1 : -9223372036854775808 ≤ n) (b2 : n ≤ 9223372036854775807) (h0 : ¬ (m = eC)) (h1 : ¬ (n = 204)) (h2 : ¬ (n = 304)) (w : World) (hl : aG w) : au 8 #[St' m, .int .i64 n] w (.bool false) := by
 have ho : ∀ k r, (k, r) ∈ yh → aS (cx (aY (vD m n)) (fun j _ => aT (l := vD m n) rfl j) 3 aG aJ) k r := by
  unfold yh
  exact hc (br (aA rfl) (aO (l := eC) 4 1145128264 rfl) (by first | exact decide_eq_true rfl | exact decide_eq_true ‹_› | exact decide_eq_false ‹_›)) <|hc aQ <|hc aQ <|hnil
 refine a7 (tb := (aR yh)) (ra := .b false) rfl ((ab (aY (vD m n)) (fun j _ => aT (l := vD m n) rfl j)).hyps ho) rfl lJ.1 lJ.2 (fun e0 e1 e2 => runRba_3 e0 e1 e2 ) (args := [St' m, .int .i64 n]) (by simp only [aH, Rel]; exact ⟨_, _, rfl, rfl, ⟨_, _, rfl, rfl, rfl⟩⟩) w hl fun x hx => ?_
 simp only [Rel, aH] at hx
 exact hx
theorem callsRba (m : LB) (n : Int) (b0 : m.length ≤ 9223372036854775807) (b1 : -9223372036854775808 ≤ n) (b2 : n ≤ 9223372036854775807) (w : World) (hl : aG w) : au 8 #[St' m, .int .i64 n] w (.bool (ax m n)) := by
 by_cases h0 : m = eC
 ·rw [show (.bool (ax m n) : Value) = (.bool true : Value) from by unfold ax; rw [if_pos h0]]
  exact pathRba_0 m n b0 b1 b2 h0 w hl
 ·by_cases h1 : n = 204
  ·rw [show (.bool (ax m n) : Value) = (.bool true : Value) from by unfold ax; rw [if_neg h0, if_pos h1]]
   exact pathRba_1 m n b0 b1 b2 h0 h1 w hl
  ·by_cases h2 : n = 304
   ·rw [show (.bool (ax m n) : Value) = (.bool true : Value) from by unfold ax; rw [if_neg h0, if_neg h1, if_pos h2]]
    exact pathRba_2 m n b0 b1 b2 h0 h1 h2 w hl
   ·rw [show (.bool (ax m n) : Value) = (.bool false : Value) from by unfold ax; rw [if_neg h0, if_neg h1, if_neg h2]]
    exact pathRba_3 m n b0 b1 b2 h0 h1 h2 w hl
theorem gn {x0 x1 r : AV} {m : LB} {n : Int} (i0 : Is (cx nu one 3 aG aJ) x0 (St' m)) (i1 : Is (cx nu one 3 aG aJ) x1 (.int .i64 n)) (hr : Den (cx nu one 3 aG aJ) r (.bool (ax m n))) (b0 : m.length ≤ 9223372036854775807 := by omega) (b1 : -9223372036854775808 ≤ n := by omega) (b2 : n ≤ 9223372036854775807 := by omega) : aS (cx nu one 3 aG aJ) (.call 8 [x0, x1]) r := by
 intro ρ args ha w hl _
 simp only [aH] at ha
 obtain ⟨v0, t0, rfl, a0, v1, t1, rfl, a1, rfl⟩ := ha
 have e0 := i0 ρ _ a0; subst e0
 have e1 := i1 ρ _ a1; subst e1
 exact (callsRba m n b0 b1 b2 w hl).mono fun e w' he => ⟨_, he.1, hr ρ, he.2⟩
theorem z7 : bc.fn.get 24 = some (fI Tryd.f24 0) ∧ (fI Tryd.f24 0).body.isSome = true := ⟨rfl, by kernel_rfl⟩
def zN : LK := [(.bI (.x 0) (.b true), .b true)]
theorem runCon_0 (e0 : Nat) (e1 : Nat) (e2 : Nat) : okA (call (aR zN) 9000 24 [.x 0] ⟨H0 e0 e1 e2 , 3, 0, 0⟩) (.ag [.s 10 cu, .s 10 cg]) = true := by kernel_rfl
def wL (kp : Bool) : List Value := [.bool kp]
theorem pathCon_0 (kp : Bool) (h0 : kp = true) (w : World) (hl : aG w) : au 24 #[.bool kp] w (.agg #[St' eO, St' eM]) := by
 have ho : ∀ k r, (k, r) ∈ zN → aS (cx (aY (wL kp)) (fun j _ => aT (l := wL kp) rfl j) 3 aG aJ) k r := by
  unfold zN
  exact hc (cT (aA rfl) (by assumption)) <|hnil
 refine a7 (tb := (aR zN)) (ra := .ag [.s 10 cu, .s 10 cg]) rfl ((ab (aY (wL kp)) (fun j _ => aT (l := wL kp) rfl j)).hyps ho) rfl z7.1 z7.2 (fun e0 e1 e2 => runCon_0 e0 e1 e2 ) (args := [.bool kp]) (by simp only [aH, Rel]; exact ⟨_, _, rfl, rfl, rfl⟩) w hl fun x hx => ?_
 simp only [Rel, aH] at hx
 obtain ⟨_, rfl, ⟨_, _, rfl, ⟨rfl, _⟩, ⟨_, _, rfl, ⟨rfl, _⟩, rfl⟩⟩⟩ := hx
 rfl
def zM : LK := [(.bI (.x 0) (.b true), .b false)]
theorem runCon_1 (e0 : Nat) (e1 : Nat) (e2 : Nat) : okA (call (aR zM) 9000 24 [.x 0] ⟨H0 e0 e1 e2 , 3, 0, 0⟩) (.ag [.s 10 cu, .s 5 435728378979]) = true := by kernel_rfl
def wK (kp : Bool) : List Value := [.bool kp]
theorem pathCon_1 (kp : Bool) (h0 : ¬ (kp = true)) (w : World) (hl : aG w) : au 24 #[.bool kp] w (.agg #[St' eO, St' pV]) := by
 have ho : ∀ k r, (k, r) ∈ zM → aS (cx (aY (wK kp)) (fun j _ => aT (l := wK kp) rfl j) 3 aG aJ) k r := by
  unfold zM
  exact hc (cL (aA rfl) (by assumption)) <|hnil
 refine a7 (tb := (aR zM)) (ra := .ag [.s 10 cu, .s 5 435728378979]) rfl ((ab (aY (wK kp)) (fun j _ => aT (l := wK kp) rfl j)).hyps ho) rfl z7.1 z7.2 (fun e0 e1 e2 => runCon_1 e0 e1 e2 ) (args := [.bool kp]) (by simp only [aH, Rel]; exact ⟨_, _, rfl, rfl, rfl⟩) w hl fun x hx => ?_
 simp only [Rel, aH] at hx
 obtain ⟨_, rfl, ⟨_, _, rfl, ⟨rfl, _⟩, ⟨_, _, rfl, ⟨rfl, _⟩, rfl⟩⟩⟩ := hx
 rfl
theorem callsCon (kp : Bool) (w : World) (hl : aG w) : au 24 #[.bool kp] w (.agg #[St' eO, St' (aw kp)]) := by
 by_cases h0 : kp = true
 ·rw [show (.agg #[St' eO, St' (aw kp)] : Value) = (.agg #[St' eO, St' eM] : Value) from by unfold aw; rw [if_pos h0]]
  exact pathCon_0 kp h0 w hl
 ·rw [show (.agg #[St' eO, St' (aw kp)] : Value) = (.agg #[St' eO, St' pV] : Value) from by unfold aw; rw [if_neg h0]]
  exact pathCon_1 kp h0 w hl
theorem mP {x0 r : AV} {kp : Bool} (i0 : Is (cx nu one 3 aG aJ) x0 (.bool kp)) (hr : Den (cx nu one 3 aG aJ) r (.agg #[St' eO, St' (aw kp)])) : aS (cx nu one 3 aG aJ) (.call 24 [x0]) r := by
 intro ρ args ha w hl _
 simp only [aH] at ha
 obtain ⟨v0, t0, rfl, a0, rfl⟩ := ha
 have e0 := i0 ρ _ a0; subst e0
 exact (callsCon kp w hl).mono fun e w' he => ⟨_, he.1, hr ρ, he.2⟩
theorem zu : bc.fn.get 26 = some (fI Tryd.f26 0) ∧ (fI Tryd.f26 0).body.isSome = true := ⟨rfl, by kernel_rfl⟩
def ye : LK := [(.bI (.x 0) (.b true), .b true)]
theorem runRco_0 (e0 : Nat) (e1 : Nat) (e2 : Nat) : okA (call (aR ye) 9000 26 [.x 0] ⟨H0 e0 e1 e2 , 3, 0, 0⟩) (.ag [.s 10 cu, .s 10 cg]) = true := by kernel_rfl
def vA (kp : Bool) : List Value := [.bool kp]
theorem pathRco_0 (kp : Bool) (h0 : kp = true) (w : World) (hl : aG w) : au 26 #[.bool kp] w (.agg #[St' eO, St' eM]) := by
 have ho : ∀ k r, (k, r) ∈ ye → aS (cx (aY (vA kp)) (fun j _ => aT (l := vA kp) rfl j) 3 aG aJ) k r := by
  unfold ye
  exact hc (cT (aA rfl) (by assumption)) <|hnil
 refine a7 (tb := (aR ye)) (ra := .ag [.s 10 cu, .s 10 cg]) rfl ((ab (aY (vA kp)) (fun j _ => aT (l := vA kp) rfl j)).hyps ho) rfl zu.1 zu.2 (fun e0 e1 e2 => runRco_0 e0 e1 e2 ) (args := [.bool kp]) (by simp only [aH, Rel]; exact ⟨_, _, rfl, rfl, rfl⟩) w hl fun x hx => ?_
 simp only [Rel, aH] at hx
 obtain ⟨_, rfl, ⟨_, _, rfl, ⟨rfl, _⟩, ⟨_, _, rfl, ⟨rfl, _⟩, rfl⟩⟩⟩ := hx
 rfl
def yd : LK := [(.bI (.x 0) (.b true), .b false)]
theorem runRco_1 (e0 : Nat) (e1 : Nat) (e2 : Nat) : okA (call (aR yd) 9000 26 [.x 0] ⟨H0 e0 e1 e2 , 3, 0, 0⟩) (.ag [.s 10 cu, .s 5 435728378979]) = true := by kernel_rfl
def u9 (kp : Bool) : List Value := [.bool kp]
theorem pathRco_1 (kp : Bool) (h0 : ¬ (kp = true)) (w : World) (hl : aG w) : au 26 #[.bool kp] w (.agg #[St' eO, St' pV]) := by
 have ho : ∀ k r, (k, r) ∈ yd → aS (cx (aY (u9 kp)) (fun j _ => aT (l := u9 kp) rfl j) 3 aG aJ) k r := by
  unfold yd
  exact hc (cL (aA rfl) (by assumption)) <|hnil
 refine a7 (tb := (aR yd)) (ra := .ag [.s 10 cu, .s 5 435728378979]) rfl ((ab (aY (u9 kp)) (fun j _ => aT (l := u9 kp) rfl j)).hyps ho) rfl zu.1 zu.2 (fun e0 e1 e2 => runRco_1 e0 e1 e2 ) (args := [.bool kp]) (by simp only [aH, Rel]; exact ⟨_, _, rfl, rfl, rfl⟩) w hl fun x hx => ?_
 simp only [Rel, aH] at hx
 obtain ⟨_, rfl, ⟨_, _, rfl, ⟨rfl, _⟩, ⟨_, _, rfl, ⟨rfl, _⟩, rfl⟩⟩⟩ := hx
 rfl
theorem callsRco (kp : Bool) (w : World) (hl : aG w) : au 26 #[.bool kp] w (.agg #[St' eO, St' (aw kp)]) := by
 by_cases h0 : kp = true
 ·rw [show (.agg #[St' eO, St' (aw kp)] : Value) = (.agg #[St' eO, St' eM] : Value) from by unfold aw; rw [if_pos h0]]
  exact pathRco_0 kp h0 w hl
 ·rw [show (.agg #[St' eO, St' (aw kp)] : Value) = (.agg #[St' eO, St' pV] : Value) from by unfold aw; rw [if_neg h0]]
  exact pathRco_1 kp h0 w hl
theorem mO {x0 r : AV} {kp : Bool} (i0 : Is (cx nu one 3 aG aJ) x0 (.bool kp)) (hr : Den (cx nu one 3 aG aJ) r (.agg #[St' eO, St' (aw kp)])) : aS (cx nu one 3 aG aJ) (.call 26 [x0]) r := by
 intro ρ args ha w hl _
 simp only [aH] at ha
 obtain ⟨v0, t0, rfl, a0, rfl⟩ := ha
 have e0 := i0 ρ _ a0; subst e0
 exact (callsRco kp w hl).mono fun e w' he => ⟨_, he.1, hr ρ, he.2⟩
theorem z8 : bc.fn.get 17 = some (fI Tryd.f17 0) ∧ (fI Tryd.f17 0).body.isSome = true := ⟨rfl, by kernel_rfl⟩
def zP : LK := [(.bin .eql (.x 2) (I6 1), .b true), (.call 7 [.x 0, .x 5], .x 8), (.un .not (.x 8), .x 9)]
theorem runChk_0 (e0 : Nat) (e1 : Nat) (e2 : Nat) : okA (call (aR zP) 9000 17 [.ag [.x 0, .x 1, .x 2, .x 3, .x 4], .ag [.x 5, .x 6, .x 7]] ⟨H0 e0 e1 e2 , 3, 0, 0⟩) (.x 9) = true := by kernel_rfl
def wN (m rt : LB) (q : Int) (aE : Option Addr) (aC aD : Nat) (rb : LB) (hs : Int) (aB : LB) (ai : Option Addr) (af ah : Nat) : List Value := [St' m, St' rt, .int .i64 (q), .slice aE aC aD, St' rb, .int .i64 (hs), St' aB, .slice ai af ah, .bool (ax m hs), .bool (!(ax m hs))]
theorem pathChk_0 (m rt : LB) (q : Int) (aE : Option Addr) (aC aD : Nat) (rb : LB) (hs : Int) (aB : LB) (ai : Option Addr) (af ah : Nat) (b0 : m.length ≤ 9223372036854775807) (b1 : -9223372036854775808 ≤ q) (b2 : q ≤ 9223372036854775807) (b3 : -9223372036854775808 ≤ hs) (b4 : hs ≤ 9223372036854775807) (b5 : aB.length ≤ 9223372036854775807) (h0 : q = 1) (w : World) (hl : aG w) : au 17 #[.agg #[St' m, St' rt, .int .i64 q, .slice aE aC aD, St' rb], .agg #[.int .i64 hs, St' aB, .slice ai af ah]] w (.bool (!(ax m hs))) := by
 have ho : ∀ k r, (k, r) ∈ zP → aS (cx (aY (wN m rt q aE aC aD rb hs aB ai af ah)) (fun j _ => aT (l := wN m rt q aE aC aD rb hs aB ai af ah) rfl j) 3 aG aJ) k r := by
  unfold zP
  exact hc bu <|hc (gp (aA rfl) (aA rfl) (aF rfl)) <|hc (xM (aA rfl) (aF rfl)) <|hnil
 refine a7 (tb := (aR zP)) (ra := .x 9) rfl ((ab (aY (wN m rt q aE aC aD rb hs aB ai af ah)) (fun j _ => aT (l := wN m rt q aE aC aD rb hs aB ai af ah) rfl j)).hyps ho) rfl z8.1 z8.2 (fun e0 e1 e2 => runChk_0 e0 e1 e2 ) (args := [.agg #[St' m, St' rt, .int .i64 q, .slice aE aC aD, St' rb], .agg #[.int .i64 hs, St' aB, .slice ai af ah]]) (by simp only [aH, Rel]; exact ⟨_, _, rfl, ⟨_, rfl, ⟨_, _, rfl, rfl, ⟨_, _, rfl, rfl, ⟨_, _, rfl, rfl, ⟨_, _, rfl, rfl, ⟨_, _, rfl, rfl, rfl⟩⟩⟩⟩⟩⟩, ⟨_, _, rfl, ⟨_, rfl, ⟨_, _, rfl, rfl, ⟨_, _, rfl, rfl, ⟨_, _, rfl, rfl, rfl⟩⟩⟩⟩, rfl⟩⟩) w hl fun x hx => ?_
 simp only [Rel, aH] at hx
 exact hx
def zO : LK := [(.bin .eql (.x 2) (I6 1), .b false)]
theorem runChk_1 (e0 : Nat) (e1 : Nat) (e2 : Nat) : okA (call (aR zO) 9000 17 [.ag [.x 0, .x 1, .x 2, .x 3, .x 4], .ag [.x 5, .x 6, .x 7]] ⟨H0 e0 e1 e2 , 3, 0, 0⟩) (.b false) = true := by kernel_rfl
def wM (m rt : LB) (q : Int) (aE : Option Addr) (aC aD : Nat) (rb : LB) (hs : Int) (aB : LB) (ai : Option Addr) (af ah : Nat) : List Value := [St' m, St' rt, .int .i64 (q), .slice aE aC aD, St' rb, .int .i64 (hs), St' aB, .slice ai af ah]
theorem pathChk_1 (m rt : LB) (q : Int) (aE : Option Addr) (aC aD : Nat) (rb : LB) (hs : Int) (aB : LB) (ai : Option Addr) (af ah : Nat) (b0 : m.length ≤ 9223372036854775807) (b1 : -9223372036854775808 ≤ q) (b2 : q ≤ 9223372036854775807) (b3 : -9223372036854775808 ≤ hs) (b4 : hs ≤ 9223372036854775807) (b5 : aB.length ≤ 9223372036854775807) (h0 : ¬ (q = 1)) (w : World) (hl : aG w) : au 17 #[.agg #[St' m, St' rt, .int .i64 q, .slice aE aC aD, St' rb], .agg #[.int .i64 hs, St' aB, .slice ai af ah]] w (.bool false) := by
 have ho : ∀ k r, (k, r) ∈ zO → aS (cx (aY (wM m rt q aE aC aD rb hs aB ai af ah)) (fun j _ => aT (l := wM m rt q aE aC aD rb hs aB ai af ah) rfl j) 3 aG aJ) k r := by
  unfold zO
  exact hc aQ <|hnil
 refine a7 (tb := (aR zO)) (ra := .b false) rfl ((ab (aY (wM m rt q aE aC aD rb hs aB ai af ah)) (fun j _ => aT (l := wM m rt q aE aC aD rb hs aB ai af ah) rfl j)).hyps ho) rfl z8.1 z8.2 (fun e0 e1 e2 => runChk_1 e0 e1 e2 ) (args := [.agg #[St' m, St' rt, .int .i64 q, .slice aE aC aD, St' rb], .agg #[.int .i64 hs, St' aB, .slice ai af ah]]) (by simp only [aH, Rel]; exact ⟨_, _, rfl, ⟨_, rfl, ⟨_, _, rfl, rfl, ⟨_, _, rfl, rfl, ⟨_, _, rfl, rfl, ⟨_, _, rfl, rfl, ⟨_, _, rfl, rfl, rfl⟩⟩⟩⟩⟩⟩, ⟨_, _, rfl, ⟨_, rfl, ⟨_, _, rfl, rfl, ⟨_, _, rfl, rfl, ⟨_, _, rfl, rfl, rfl⟩⟩⟩⟩, rfl⟩⟩) w hl fun x hx => ?_
 simp only [Rel, aH] at hx
 exact hx
theorem callsChk (m rt : LB) (q : Int) (aE : Option Addr) (aC aD : Nat) (rb : LB) (hs : Int) (aB : LB) (ai : Option Addr) (af ah : Nat) (b0 : m.length ≤ 9223372036854775807) (b1 : -9223372036854775808 ≤ q) (b2 : q ≤ 9223372036854775807) (b3 : -9223372036854775808 ≤ hs) (b4 : hs ≤ 9223372036854775807) (b5 : aB.length ≤ 9223372036854775807) (w : World) (hl : aG w) : au 17 #[.agg #[St' m, St' rt, .int .i64 q, .slice aE aC aD, St' rb], .agg #[.int .i64 hs, St' aB, .slice ai af ah]] w (.bool (bL q m hs)) := by
 by_cases h0 : q = 1
 ·rw [show (.bool (bL q m hs) : Value) = (.bool (!(ax m hs)) : Value) from by unfold bL; rw [if_pos h0]]
  exact pathChk_0 m rt q aE aC aD rb hs aB ai af ah b0 b1 b2 b3 b4 b5 h0 w hl
 ·rw [show (.bool (bL q m hs) : Value) = (.bool false : Value) from by unfold bL; rw [if_neg h0]]
  exact pathChk_1 m rt q aE aC aD rb hs aB ai af ah b0 b1 b2 b3 b4 b5 h0 w hl
theorem zw : bc.fn.get 18 = some (fI Tryd.f18 0) ∧ (fI Tryd.f18 0).body.isSome = true := ⟨rfl, by kernel_rfl⟩
def yg : LK := [(.bin .eql (.x 2) (I6 1), .b true), (.call 8 [.x 0, .x 5], .x 8), (.un .not (.x 8), .x 9)]
theorem runRck_0 (e0 : Nat) (e1 : Nat) (e2 : Nat) : okA (call (aR yg) 9000 18 [.ag [.x 0, .x 1, .x 2, .x 3, .x 4], .ag [.x 5, .x 6, .x 7]] ⟨H0 e0 e1 e2 , 3, 0, 0⟩) (.x 9) = true := by kernel_rfl
def vC (m rt : LB) (q : Int) (aE : Option Addr) (aC aD : Nat) (rb : LB) (hs : Int) (aB : LB) (ai : Option Addr) (af ah : Nat) : List Value := [St' m, St' rt, .int .i64 (q), .slice aE aC aD, St' rb, .int .i64 (hs), St' aB, .slice ai af ah, .bool (ax m hs), .bool (!(ax m hs))]
theorem pathRck_0 (m rt : LB) (q : Int) (aE : Option Addr) (aC aD : Nat) (rb : LB) (hs : Int) (aB : LB) (ai : Option Addr) (af ah : Nat) (b0 : m.length ≤ 9223372036854775807) (b1 : -9223372036854775808 ≤ q) (b2 : q ≤ 9223372036854775807) (b3 : -9223372036854775808 ≤ hs) (b4 : hs ≤ 9223372036854775807) (b5 : aB.length ≤ 9223372036854775807) (h0 : q = 1) (w : World) (hl : aG w) : au 18 #[.agg #[St' m, St' rt, .int .i64 q, .slice aE aC aD, St' rb], .agg #[.int .i64 hs, St' aB, .slice ai af ah]] w (.bool (!(ax m hs))) := by
 have ho : ∀ k r, (k, r) ∈ yg → aS (cx (aY (vC m rt q aE aC aD rb hs aB ai af ah)) (fun j _ => aT (l := vC m rt q aE aC aD rb hs aB ai af ah) rfl j) 3 aG aJ) k r := by
  unfold yg
  exact hc bu <|hc (gn (aA rfl) (aA rfl) (aF rfl)) <|hc (xM (aA rfl) (aF rfl)) <|hnil
 refine a7 (tb := (aR yg)) (ra := .x 9) rfl ((ab (aY (vC m rt q aE aC aD rb hs aB ai af ah)) (fun j _ => aT (l := vC m rt q aE aC aD rb hs aB ai af ah) rfl j)).hyps ho) rfl zw.1 zw.2 (fun e0 e1 e2 => runRck_0 e0 e1 e2 ) (args := [.agg #[St' m, St' rt, .int .i64 q, .slice aE aC aD, St' rb], .agg #[.int .i64 hs, St' aB, .slice ai af ah]]) (by simp only [aH, Rel]; exact ⟨_, _, rfl, ⟨_, rfl, ⟨_, _, rfl, rfl, ⟨_, _, rfl, rfl, ⟨_, _, rfl, rfl, ⟨_, _, rfl, rfl, ⟨_, _, rfl, rfl, rfl⟩⟩⟩⟩⟩⟩, ⟨_, _, rfl, ⟨_, rfl, ⟨_, _, rfl, rfl, ⟨_, _, rfl, rfl, ⟨_, _, rfl, rfl, rfl⟩⟩⟩⟩, rfl⟩⟩) w hl fun x hx => ?_
 simp only [Rel, aH] at hx
 exact hx
def yf : LK := [(.bin .eql (.x 2) (I6 1), .b false)]
theorem runRck_1 (e0 : Nat) (e1 : Nat) (e2 : Nat) : okA (call (aR yf) 9000 18 [.ag [.x 0, .x 1, .x 2, .x 3, .x 4], .ag [.x 5, .x 6, .x 7]] ⟨H0 e0 e1 e2 , 3, 0, 0⟩) (.b false) = true := by kernel_rfl
def vB (m rt : LB) (q : Int) (aE : Option Addr) (aC aD : Nat) (rb : LB) (hs : Int) (aB : LB) (ai : Option Addr) (af ah : Nat) : List Value := [St' m, St' rt, .int .i64 (q), .slice aE aC aD, St' rb, .int .i64 (hs), St' aB, .slice ai af ah]
theorem pathRck_1 (m rt : LB) (q : Int) (aE : Option Addr) (aC aD : Nat) (rb : LB) (hs : Int) (aB : LB) (ai : Option Addr) (af ah : Nat) (b0 : m.length ≤ 9223372036854775807) (b1 : -9223372036854775808 ≤ q) (b2 : q ≤ 9223372036854775807) (b3 : -9223372036854775808 ≤ hs) (b4 : hs ≤ 9223372036854775807) (b5 : aB.length ≤ 9223372036854775807) (h0 : ¬ (q = 1)) (w : World) (hl : aG w) : au 18 #[.agg #[St' m, St' rt, .int .i64 q, .slice aE aC aD, St' rb], .agg #[.int .i64 hs, St' aB, .slice ai af ah]] w (.bool false) := by
 have ho : ∀ k r, (k, r) ∈ yf → aS (cx (aY (vB m rt q aE aC aD rb hs aB ai af ah)) (fun j _ => aT (l := vB m rt q aE aC aD rb hs aB ai af ah) rfl j) 3 aG aJ) k r := by
  unfold yf
  exact hc aQ <|hnil
 refine a7 (tb := (aR yf)) (ra := .b false) rfl ((ab (aY (vB m rt q aE aC aD rb hs aB ai af ah)) (fun j _ => aT (l := vB m rt q aE aC aD rb hs aB ai af ah) rfl j)).hyps ho) rfl zw.1 zw.2 (fun e0 e1 e2 => runRck_1 e0 e1 e2 ) (args := [.agg #[St' m, St' rt, .int .i64 q, .slice aE aC aD, St' rb], .agg #[.int .i64 hs, St' aB, .slice ai af ah]]) (by simp only [aH, Rel]; exact ⟨_, _, rfl, ⟨_, rfl, ⟨_, _, rfl, rfl, ⟨_, _, rfl, rfl, ⟨_, _, rfl, rfl, ⟨_, _, rfl, rfl, ⟨_, _, rfl, rfl, rfl⟩⟩⟩⟩⟩⟩, ⟨_, _, rfl, ⟨_, rfl, ⟨_, _, rfl, rfl, ⟨_, _, rfl, rfl, ⟨_, _, rfl, rfl, rfl⟩⟩⟩⟩, rfl⟩⟩) w hl fun x hx => ?_
 simp only [Rel, aH] at hx
 exact hx
theorem callsRck (m rt : LB) (q : Int) (aE : Option Addr) (aC aD : Nat) (rb : LB) (hs : Int) (aB : LB) (ai : Option Addr) (af ah : Nat) (b0 : m.length ≤ 9223372036854775807) (b1 : -9223372036854775808 ≤ q) (b2 : q ≤ 9223372036854775807) (b3 : -9223372036854775808 ≤ hs) (b4 : hs ≤ 9223372036854775807) (b5 : aB.length ≤ 9223372036854775807) (w : World) (hl : aG w) : au 18 #[.agg #[St' m, St' rt, .int .i64 q, .slice aE aC aD, St' rb], .agg #[.int .i64 hs, St' aB, .slice ai af ah]] w (.bool (bL q m hs)) := by
 by_cases h0 : q = 1
 ·rw [show (.bool (bL q m hs) : Value) = (.bool (!(ax m hs)) : Value) from by unfold bL; rw [if_pos h0]]
  exact pathRck_0 m rt q aE aC aD rb hs aB ai af ah b0 b1 b2 b3 b4 b5 h0 w hl
 ·rw [show (.bool (bL q m hs) : Value) = (.bool false : Value) from by unfold bL; rw [if_neg h0]]
  exact pathRck_1 m rt q aE aC aD rb hs aB ai af ah b0 b1 b2 b3 b4 b5 h0 w hl
theorem eJ {x0 y0 y1 FA r : AV} {m rt rb aB : LB} {q hs : Int} {aE : Option Addr} {aC aD : Nat} (i0 : Is (cx nu one 3 aG aJ) x0 (.agg #[St' m, St' rt, .int .i64 q, .slice aE aC aD, St' rb])) (j0 : Is (cx nu one 3 aG aJ) y0 (.int .i64 hs)) (j1 : Is (cx nu one 3 aG aJ) y1 (St' aB)) (hF : jz (cx nu one 3 aG aJ) FA) (hd : Den (cx nu one 3 aG aJ) r (.bool (bL q m hs))) (b0 : m.length ≤ 9223372036854775807 := by omega) (b1 : -9223372036854775808 ≤ q := by omega) (b2 : q ≤ 9223372036854775807 := by omega) (b3 : -9223372036854775808 ≤ hs := by omega) (b4 : hs ≤ 9223372036854775807 := by omega) (b5 : aB.length ≤ 9223372036854775807 := by omega) : aS (cx nu one 3 aG aJ) (.call 17 [x0, .ag [y0, y1, FA]]) r := by
 intro ρ args ha w hl _
 simp only [aH, Rel] at ha
 obtain ⟨v0, t0, rfl, a0, v1, t1, rfl, ⟨cs, rfl, u0, s0, rfl, c0, u1, s1, rfl, c1, u2, s2, rfl, c2, rfl⟩, rfl⟩ := ha
 have e0 := i0 ρ _ a0; subst e0
 have e1 := j0 ρ _ c0; subst e1
 have e2 := j1 ρ _ c1; subst e2
 obtain ⟨sa, sn, sc, rfl⟩ := hF ρ _ c2
 exact (callsChk m rt q aE aC aD rb hs aB sa sn sc b0 b1 b2 b3 b4 b5 w hl).mono fun e w' he => ⟨_, he.1, hd ρ, he.2⟩
theorem eI {x0 y0 y1 FA r : AV} {m rt rb aB : LB} {q hs : Int} {aE : Option Addr} {aC aD : Nat} (i0 : Is (cx nu one 3 aG aJ) x0 (.agg #[St' m, St' rt, .int .i64 q, .slice aE aC aD, St' rb])) (j0 : Is (cx nu one 3 aG aJ) y0 (.int .i64 hs)) (j1 : Is (cx nu one 3 aG aJ) y1 (St' aB)) (hF : jz (cx nu one 3 aG aJ) FA) (hd : Den (cx nu one 3 aG aJ) r (.bool (bL q m hs))) (b0 : m.length ≤ 9223372036854775807 := by omega) (b1 : -9223372036854775808 ≤ q := by omega) (b2 : q ≤ 9223372036854775807 := by omega) (b3 : -9223372036854775808 ≤ hs := by omega) (b4 : hs ≤ 9223372036854775807 := by omega) (b5 : aB.length ≤ 9223372036854775807 := by omega) : aS (cx nu one 3 aG aJ) (.call 18 [x0, .ag [y0, y1, FA]]) r := by
 intro ρ args ha w hl _
 simp only [aH, Rel] at ha
 obtain ⟨v0, t0, rfl, a0, v1, t1, rfl, ⟨cs, rfl, u0, s0, rfl, c0, u1, s1, rfl, c1, u2, s2, rfl, c2, rfl⟩, rfl⟩ := ha
 have e0 := i0 ρ _ a0; subst e0
 have e1 := j0 ρ _ c0; subst e1
 have e2 := j1 ρ _ c1; subst e2
 obtain ⟨sa, sn, sc, rfl⟩ := hF ρ _ c2
 exact (callsRck m rt q aE aC aD rb hs aB sa sn sc b0 b1 b2 b3 b4 b5 w hl).mono fun e w' he => ⟨_, he.1, hd ρ, he.2⟩
end Go.Proofs.YtngkglegomkjkaaDoor.replyTells

