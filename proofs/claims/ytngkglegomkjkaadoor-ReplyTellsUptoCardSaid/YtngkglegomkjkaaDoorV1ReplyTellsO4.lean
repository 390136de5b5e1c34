/- A part of the proof: what an interpreter answers on partly known states is what the program answers. No condition. -/
import Derived.Test.YtngkglegomkjkaaDoorV1ReplyTellsO3
set_option maxRecDepth 100000
set_option linter.unusedVariables false
set_option linter.unusedSimpArgs false
set_option maxHeartbeats 4000000
namespace Go.Proofs.YtngkglegomkjkaaDoor.replyTells
open Go Go.AX Go.Proofs Go.Proofs.YtngkglegomkjkaaDoor
variable {nu : Nat → Value} {one : ∀ i, i < 1000000 → (nu i).oneCell' = true} {E' : Cx} {x' : Ex} {e' : LA} {h' : LE}
def dk (q : Int) (m : LB) (n : Int) (s : LB) : LB := if bL q m n = true then dR s else if ax m n = true then [] else s
def fA (q : Int) (m : LB) (n : Int) : LB := if bL q m n = true then pU else []
theorem pC {x Q : Int} (h0 : 0 ≤ x) (h1 : x < 16) (hq : Q = x + 1) : [u8 (dg x)] = (kI.drop x.toNat).take (Int.toNat (Q - x)) := by
 subst hq
 rw [show Int.toNat (x + 1 - x) = 1 by omega]
 obtain ⟨k, rfl⟩ := Int.eq_ofNat_of_zero_le h0
 have h : ∀ m : Fin 16, [u8 (dg (m.val : Int))] = (kI.drop m.val).take 1 := by decide
 exact h ⟨k, by omega⟩
theorem o6 : bc.fn.get 42 = some (fI Tryd.f42 0) ∧ (fI Tryd.f42 0).body.isSome = true := ⟨rfl, by kernel_rfl⟩
def zH : LK := [(.conv 59 (.x 0), .x 1), (.bin .lss (.x 0) (I6 0), .b false), (.bin .geq (.x 1) (.i .u64 (.ofNat 16)), .b false), (.idx (.s 36 gU) (.x 1), .x 2), (.bytes [.x 2], .x 3)]
theorem runFmt_0 (e0 : Nat) (e1 : Nat) (e2 : Nat) : okA (call (aR zH) 9000 42 [.x 0, I6 16] ⟨H0 e0 e1 e2 , 3, 0, 0⟩) (.x 3) = true := by kernel_rfl
def wA (n : Int) : List Value := [.int .i64 (n), .int .u64 (n), .int .u8 (dg n), St' ([u8 (dg n)])]
theorem pathFmt_0 (n : Int) (b0 : 1 ≤ n) (b1 : n ≤ 2000) (h1 : ¬ (16 ≤ n)) (w : World) (hl : aG w) : au 42 #[.int .i64 n, .int .i64 16] w (St' ([u8 (dg n)])) := by
 have := mc n
 have ho : ∀ k r, (k, r) ∈ zH → aS (cx (aY (wA n)) (fun j _ => aT (l := wA n) rfl j) 3 aG aJ) k r := by
  unfold zH
  exact hc (oV (aA rfl) pY (aF rfl) (fO (by omega) (by omega))) <|hc il <|hc rA <|hc (oU (i := n.toNat) (aO (l := ln) 36 gU rfl) (aA rfl) (aF rfl) (by omega) (by simp only [List.length_cons, List.length_nil]; omega) (pD (by omega) (by omega))) <|hc (oW (bs := [u8 (dg n)]) (.cons (lC (aA rfl) (by omega) (by omega)) .nil) (aF rfl)) <|hnil
 refine a7 (tb := (aR zH)) (ra := .x 3) rfl ((ab (aY (wA n)) (fun j _ => aT (l := wA n) rfl j)).hyps ho) rfl o6.1 o6.2 (fun e0 e1 e2 => runFmt_0 e0 e1 e2 ) (args := [.int .i64 n, .int .i64 16]) (by simp only [aH, Rel]; exact ⟨_, _, rfl, rfl, ⟨_, _, rfl, rfl, rfl⟩⟩) w hl fun x hx => ?_
 simp only [Rel, aH] at hx
 exact hx
def zG : LK := [(.conv 59 (.x 0), .x 1), (.bin .lss (.x 0) (I6 0), .b false), (.bin .geq (.x 1) (.i .u64 (.ofNat 16)), .b true), (.bin .and (.x 1) (.i .u64 (.ofNat 15)), .x 2), (.idx (.s 36 gU) (.x 2), .x 3), (.bin .shr (.x 1) (.i .u64 (.ofNat 4)), .x 4), (.bin .geq (.x 4) (.i .u64 (.ofNat 16)), .b false), (.idx (.s 36 gU) (.x 4), .x 5), (.bytes [.x 5, .x 3], .x 6)]
theorem runFmt_1 (e0 : Nat) (e1 : Nat) (e2 : Nat) : okA (call (aR zG) 9000 42 [.x 0, I6 16] ⟨H0 e0 e1 e2 , 3, 0, 0⟩) (.x 6) = true := by kernel_rfl
def v8 (n : Int) : List Value := [.int .i64 (n), .int .u64 (n), .int .u64 (n % 16), .int .u8 (dg (n % 16)), .int .u64 (n / 16), .int .u8 (dg (n / 16)), St' ([u8 (dg (n / 16)), u8 (dg (n % 16))])]
theorem pathFmt_1 (n : Int) (b0 : 1 ≤ n) (b1 : n ≤ 2000) (h1 : 16 ≤ n) (h2 : ¬ (16 ≤ n / 16)) (w : World) (hl : aG w) : au 42 #[.int .i64 n, .int .i64 16] w (St' ([u8 (dg (n / 16)), u8 (dg (n % 16))])) := by
 have := mc (n % 16)
 have := mc (n / 16)
 have ho : ∀ k r, (k, r) ∈ zG → aS (cx (aY (v8 n)) (fun j _ => aT (l := v8 n) rfl j) 3 aG aJ) k r := by
  unfold zG
  exact hc (oV (aA rfl) pY (aF rfl) (fO (by omega) (by omega))) <|hc il <|hc mS <|hc (C8 4 16 rfl (aA rfl) (bw (m := 15) rfl) (aF rfl) (by omega) (fO (by omega) (by omega)) (fO (by omega) (by omega)) rfl rfl) <|hc (oU (i := (Int.toNat (n % 16))) (aO (l := ln) 36 gU rfl) (aA rfl) (aF rfl) (by omega) (by simp only [List.length_cons, List.length_nil]; omega) (pD (by omega) (by omega))) <|hc (C5 4 16 rfl (aA rfl) (bw (m := 4) rfl) (aF rfl) rfl (by decide) (by omega) rfl) <|hc rA <|hc (oU (i := (Int.toNat (n / 16))) (aO (l := ln) 36 gU rfl) (aA rfl) (aF rfl) (by omega) (by simp only [List.length_cons, List.length_nil]; omega) (pD (by omega) (by omega))) <|hc (oW (bs := [u8 (dg (n / 16)), u8 (dg (n % 16))]) (.cons (lC (aA rfl) (by omega) (by omega)) (.cons (lC (aA rfl) (by omega) (by omega)) .nil)) (aF rfl)) <|hnil
 refine a7 (tb := (aR zG)) (ra := .x 6) rfl ((ab (aY (v8 n)) (fun j _ => aT (l := v8 n) rfl j)).hyps ho) rfl o6.1 o6.2 (fun e0 e1 e2 => runFmt_1 e0 e1 e2 ) (args := [.int .i64 n, .int .i64 16]) (by simp only [aH, Rel]; exact ⟨_, _, rfl, rfl, ⟨_, _, rfl, rfl, rfl⟩⟩) w hl fun x hx => ?_
 simp only [Rel, aH] at hx
 exact hx
def zF : LK := [(.conv 59 (.x 0), .x 1), (.bin .lss (.x 0) (I6 0), .b false), (.bin .geq (.x 1) (.i .u64 (.ofNat 16)), .b true), (.bin .and (.x 1) (.i .u64 (.ofNat 15)), .x 2), (.idx (.s 36 gU) (.x 2), .x 3), (.bin .shr (.x 1) (.i .u64 (.ofNat 4)), .x 4), (.bin .geq (.x 4) (.i .u64 (.ofNat 16)), .b true), (.bin .and (.x 4) (.i .u64 (.ofNat 15)), .x 5), (.idx (.s 36 gU) (.x 5), .x 6), (.bin .shr (.x 4) (.i .u64 (.ofNat 4)), .x 7), (.bin .geq (.x 7) (.i .u64 (.ofNat 16)), .b false), (.idx (.s 36 gU) (.x 7), .x 8), (.bytes [.x 8, .x 6, .x 3], .x 9)]
theorem runFmt_2 (e0 : Nat) (e1 : Nat) (e2 : Nat) : okA (call (aR zF) 9000 42 [.x 0, I6 16] ⟨H0 e0 e1 e2 , 3, 0, 0⟩) (.x 9) = true := by kernel_rfl
def v7 (n : Int) : List Value := [.int .i64 (n), .int .u64 (n), .int .u64 (n % 16), .int .u8 (dg (n % 16)), .int .u64 (n / 16), .int .u64 ((n / 16) % 16), .int .u8 (dg ((n / 16) % 16)), .int .u64 ((n / 16) / 16), .int .u8 (dg ((n / 16) / 16)), St' ([u8 (dg ((n / 16) / 16)), u8 (dg ((n / 16) % 16)), u8 (dg (n % 16))])]
theorem pathFmt_2 (n : Int) (b0 : 1 ≤ n) (b1 : n ≤ 2000) (h1 : 16 ≤ n) (h2 : 16 ≤ n / 16) (w : World) (hl : aG w) : au 42 #[.int .i64 n, .int .i64 16] w (St' ([u8 (dg ((n / 16) / 16)), u8 (dg ((n / 16) % 16)), u8 (dg (n % 16))])) := by
 have := mc (n % 16)
 have := mc ((n / 16) % 16)
 have := mc ((n / 16) / 16)
 have ho : ∀ k r, (k, r) ∈ zF → aS (cx (aY (v7 n)) (fun j _ => aT (l := v7 n) rfl j) 3 aG aJ) k r := by
  unfold zF
  exact hc (oV (aA rfl) pY (aF rfl) (fO (by omega) (by omega))) <|hc il <|hc mS <|hc (C8 4 16 rfl (aA rfl) (bw (m := 15) rfl) (aF rfl) (by omega) (fO (by omega) (by omega)) (fO (by omega) (by omega)) rfl rfl) <|hc (oU (i := (Int.toNat (n % 16))) (aO (l := ln) 36 gU rfl) (aA rfl) (aF rfl) (by omega) (by simp only [List.length_cons, List.length_nil]; omega) (pD (by omega) (by omega))) <|hc (C5 4 16 rfl (aA rfl) (bw (m := 4) rfl) (aF rfl) rfl (by decide) (by omega) rfl) <|hc mS <|hc (C8 4 16 rfl (aA rfl) (bw (m := 15) rfl) (aF rfl) (by omega) (fO (by omega) (by omega)) (fO (by omega) (by omega)) rfl rfl) <|hc (oU (i := (Int.toNat ((n / 16) % 16))) (aO (l := ln) 36 gU rfl) (aA rfl) (aF rfl) (by omega) (by simp only [List.length_cons, List.length_nil]; omega) (pD (by omega) (by omega))) <|hc (C5 4 16 rfl (aA rfl) (bw (m := 4) rfl) (aF rfl) rfl (by decide) (by omega) rfl) <|hc rA <|hc (oU (i := (Int.toNat ((n / 16) / 16))) (aO (l := ln) 36 gU rfl) (aA rfl) (aF rfl) (by omega) (by simp only [List.length_cons, List.length_nil]; omega) (pD (by omega) (by omega))) <|hc (oW (bs := [u8 (dg ((n / 16) / 16)), u8 (dg ((n / 16) % 16)), u8 (dg (n % 16))]) (.cons (lC (aA rfl) (by omega) (by omega)) (.cons (lC (aA rfl) (by omega) (by omega)) (.cons (lC (aA rfl) (by omega) (by omega)) .nil))) (aF rfl)) <|hnil
 refine a7 (tb := (aR zF)) (ra := .x 9) rfl ((ab (aY (v7 n)) (fun j _ => aT (l := v7 n) rfl j)).hyps ho) rfl o6.1 o6.2 (fun e0 e1 e2 => runFmt_2 e0 e1 e2 ) (args := [.int .i64 n, .int .i64 16]) (by simp only [aH, Rel]; exact ⟨_, _, rfl, rfl, ⟨_, _, rfl, rfl, rfl⟩⟩) w hl fun x hx => ?_
 simp only [Rel, aH] at hx
 exact hx
theorem callsFmt (n : Int) (b0 : 1 ≤ n) (b1 : n ≤ 2000) (w : World) (hl : aG w) : au 42 #[.int .i64 n, .int .i64 16] w (St' (hexS n)) := by
 by_cases h1 : 16 ≤ n
 ·by_cases h2 : 16 ≤ n / 16
  ·rw [show (St' (hexS n) : Value) = (St' ([u8 (dg ((n / 16) / 16)), u8 (dg ((n / 16) % 16)), u8 (dg (n % 16))]) : Value) from by exact congrArg (fun l => St' l) (by unfold hexS; first | (rw [if_pos (by omega)]; done) | (rw [if_neg (by omega), if_pos (by omega)]; done) | (rw [if_neg (by omega), if_neg (by omega), show n / 256 = n / 16 / 16 by omega]; done))]
   exact pathFmt_2 n b0 b1 h1 h2 w hl
  ·rw [show (St' (hexS n) : Value) = (St' ([u8 (dg (n / 16)), u8 (dg (n % 16))]) : Value) from by exact congrArg (fun l => St' l) (by unfold hexS; first | (rw [if_pos (by omega)]; done) | (rw [if_neg (by omega), if_pos (by omega)]; done) | (rw [if_neg (by omega), if_neg (by omega), show n / 256 = n / 16 / 16 by omega]; done))]
   exact pathFmt_1 n b0 b1 h1 h2 w hl
 ·rw [show (St' (hexS n) : Value) = (St' ([u8 (dg n)]) : Value) from by exact congrArg (fun l => St' l) (by unfold hexS; first | (rw [if_pos (by omega)]; done) | (rw [if_neg (by omega), if_pos (by omega)]; done) | (rw [if_neg (by omega), if_neg (by omega), show n / 256 = n / 16 / 16 by omega]; done))]
  exact pathFmt_0 n b0 b1 h1 w hl
theorem hokFmt {x0 x1 r : AV} {n : Int} (i0 : Is (cx nu one 3 aG aJ) x0 (.int .i64 n)) (i1 : Is (cx nu one 3 aG aJ) x1 (.int .i64 16)) (hr : Den (cx nu one 3 aG aJ) r (St' (hexS n))) (b0 : 1 ≤ n := by omega) (b1 : n ≤ 2000 := by omega) : aS (cx nu one 3 aG aJ) (.call 42 [x0, x1]) r := by
 intro ρ args ha w hl _
 simp only [aH] at ha
 obtain ⟨v0, t0, rfl, a0, v1, t1, rfl, a1, rfl⟩ := ha
 have e0 := i0 ρ _ a0; subst e0
 have e1 := i1 ρ _ a1; subst e1
 exact (callsFmt n b0 b1 w hl).mono fun e w' he => ⟨_, he.1, hr ρ, he.2⟩
theorem o5 : bc.fn.get 43 = some (fI Tryd.f43 0) ∧ (fI Tryd.f43 0).body.isSome = true := ⟨rfl, by kernel_rfl⟩
def yz : LK := [(.bin .lss (.x 0) (I6 16), .b true), (.bin .add (.x 0) (I6 1), .x 1), (.sub (.s 16 gT) (some (.x 0)) (some (.x 1)), .x 2)]
theorem runHex_0 (e0 : Nat) (e1 : Nat) (e2 : Nat) : okA (call (aR yz) 9000 43 [.x 0] ⟨H0 e0 e1 e2 , 3, 0, 0⟩) (.x 2) = true := by kernel_rfl
def vg (n : Int) : List Value := [.int .i64 (n), .int .i64 (n + 1), St' ([u8 (dg n)])]
theorem pathHex_0 (n : Int) (b0 : 1 ≤ n) (b1 : n ≤ 2000) (h0 : n < 16) (w : World) (hl : aG w) : au 43 #[.int .i64 n] w (St' ([u8 (dg n)])) := by
 have := pE (x := n) (by omega) (by omega)
 have ho : ∀ k r, (k, r) ∈ yz → aS (cx (aY (vg n)) (fun j _ => aT (l := vg n) rfl j) 3 aG aJ) k r := by
  unfold yz
  exact hc kb <|hc cQ <|hc (oS (P := n) (Q := n + 1) (aO (l := kI) 16 gT rfl) (.inr ⟨_, _, rfl, (aA rfl)⟩) (.inr ⟨_, _, rfl, (aA rfl)⟩) (by omega) (by omega) (by show _ ≤ (16 : Int); omega) (aF (congrArg (fun l => St' l) (pC (by omega) (by omega) (by omega))))) <|hnil
 refine a7 (tb := (aR yz)) (ra := .x 2) rfl ((ab (aY (vg n)) (fun j _ => aT (l := vg n) rfl j)).hyps ho) rfl o5.1 o5.2 (fun e0 e1 e2 => runHex_0 e0 e1 e2 ) (args := [.int .i64 n]) (by simp only [aH, Rel]; exact ⟨_, _, rfl, rfl, rfl⟩) w hl fun x hx => ?_
 simp only [Rel, aH] at hx
 exact hx
def yy : LK := [(.bin .lss (.x 0) (I6 16), .b false), (.bin .quo (.x 0) (I6 16), .x 1), (.bin .lss (.x 1) (I6 16), .b true), (.bin .add (.x 1) (I6 1), .x 2), (.sub (.s 16 gT) (some (.x 1)) (some (.x 2)), .x 3), (.bin .rem (.x 0) (I6 16), .x 4), (.bin .add (.x 4) (I6 1), .x 5), (.sub (.s 16 gT) (some (.x 4)) (some (.x 5)), .x 6), (.bin .add (.x 3) (.x 6), .x 7)]
theorem runHex_1 (e0 : Nat) (e1 : Nat) (e2 : Nat) : okA (call (aR yy) 9000 43 [.x 0] ⟨H0 e0 e1 e2 , 3, 0, 0⟩) (.x 7) = true := by kernel_rfl
def vf (n : Int) : List Value := [.int .i64 (n), .int .i64 (n / 16), .int .i64 ((n / 16) + 1), St' ([u8 (dg (n / 16))]), .int .i64 (n % 16), .int .i64 ((n % 16) + 1), St' ([u8 (dg (n % 16))]), St' ([u8 (dg (n / 16)), u8 (dg (n % 16))])]
theorem pathHex_1 (n : Int) (b0 : 1 ≤ n) (b1 : n ≤ 2000) (h0 : ¬ (n < 16)) (h1 : n / 16 < 16) (w : World) (hl : aG w) : au 43 #[.int .i64 n] w (St' ([u8 (dg (n / 16)), u8 (dg (n % 16))])) := by
 have := pE (x := n / 16) (by omega) (by omega)
 have := pE (x := n % 16) (by omega) (by omega)
 have ho : ∀ k r, (k, r) ∈ yy → aS (cx (aY (vf n)) (fun j _ => aT (l := vf n) rfl j) 3 aG aJ) k r := by
  unfold yy
  exact hc il <|hc (xL (aA rfl) (bw (m := 16) rfl) (aF rfl) (by omega) (by omega) rfl (rC (by omega) (by omega))) <|hc kb <|hc cQ <|hc (oS (P := n / 16) (Q := (n / 16) + 1) (aO (l := kI) 16 gT rfl) (.inr ⟨_, _, rfl, (aA rfl)⟩) (.inr ⟨_, _, rfl, (aA rfl)⟩) (by omega) (by omega) (by show _ ≤ (16 : Int); omega) (aF (congrArg (fun l => St' l) (pC (by omega) (by omega) (by omega))))) <|hc (xJ (aA rfl) (bw (m := 16) rfl) (aF rfl) (by omega) (by omega) rfl) <|hc cQ <|hc (oS (P := n % 16) (Q := (n % 16) + 1) (aO (l := kI) 16 gT rfl) (.inr ⟨_, _, rfl, (aA rfl)⟩) (.inr ⟨_, _, rfl, (aA rfl)⟩) (by omega) (by omega) (by show _ ≤ (16 : Int); omega) (aF (congrArg (fun l => St' l) (pC (by omega) (by omega) (by omega))))) <|hc (aI (aA rfl) (aA rfl) (aF rfl) (by first | rfl | (simp; done)) (by first | omega | (simp <;> omega))) <|hnil
 refine a7 (tb := (aR yy)) (ra := .x 7) rfl ((ab (aY (vf n)) (fun j _ => aT (l := vf n) rfl j)).hyps ho) rfl o5.1 o5.2 (fun e0 e1 e2 => runHex_1 e0 e1 e2 ) (args := [.int .i64 n]) (by simp only [aH, Rel]; exact ⟨_, _, rfl, rfl, rfl⟩) w hl fun x hx => ?_
 simp only [Rel, aH] at hx
 exact hx
def yx : LK := [(.bin .lss (.x 0) (I6 16), .b false), (.bin .quo (.x 0) (I6 16), .x 1), (.bin .lss (.x 1) (I6 16), .b false), (.bin .quo (.x 1) (I6 16), .x 2), (.bin .lss (.x 2) (I6 16), .b true), (.bin .add (.x 2) (I6 1), .x 3), (.sub (.s 16 gT) (some (.x 2)) (some (.x 3)), .x 4), (.bin .rem (.x 1) (I6 16), .x 5), (.bin .add (.x 5) (I6 1), .x 6), (.sub (.s 16 gT) (some (.x 5)) (some (.x 6)), .x 7), (.bin .add (.x 4) (.x 7), .x 8), (.bin .rem (.x 0) (I6 16), .x 9), (.bin .add (.x 9) (I6 1), .x 10), (.sub (.s 16 gT) (some (.x 9)) (some (.x 10)), .x 11), (.bin .add (.x 8) (.x 11), .x 12)]
theorem runHex_2 (e0 : Nat) (e1 : Nat) (e2 : Nat) : okA (call (aR yx) 9000 43 [.x 0] ⟨H0 e0 e1 e2 , 3, 0, 0⟩) (.x 12) = true := by kernel_rfl
def ve (n : Int) : List Value := [.int .i64 (n), .int .i64 (n / 16), .int .i64 ((n / 16) / 16), .int .i64 (((n / 16) / 16) + 1), St' ([u8 (dg ((n / 16) / 16))]), .int .i64 ((n / 16) % 16), .int .i64 (((n / 16) % 16) + 1), St' ([u8 (dg ((n / 16) % 16))]), St' ([u8 (dg ((n / 16) / 16)), u8 (dg ((n / 16) % 16))]), .int .i64 (n % 16), .int .i64 ((n % 16) + 1), St' ([u8 (dg (n % 16))]), St' ([u8 (dg ((n / 16) / 16)), u8 (dg ((n / 16) % 16)), u8 (dg (n % 16))])]
theorem pathHex_2 (n : Int) (b0 : 1 ≤ n) (b1 : n ≤ 2000) (h0 : ¬ (n < 16)) (h1 : ¬ (n / 16 < 16)) (w : World) (hl : aG w) : au 43 #[.int .i64 n] w (St' ([u8 (dg ((n / 16) / 16)), u8 (dg ((n / 16) % 16)), u8 (dg (n % 16))])) := by
 have := pE (x := (n / 16) / 16) (by omega) (by omega)
 have := pE (x := (n / 16) % 16) (by omega) (by omega)
 have := pE (x := n % 16) (by omega) (by omega)
 have ho : ∀ k r, (k, r) ∈ yx → aS (cx (aY (ve n)) (fun j _ => aT (l := ve n) rfl j) 3 aG aJ) k r := by
  unfold yx
  exact hc il <|hc (xL (aA rfl) (bw (m := 16) rfl) (aF rfl) (by omega) (by omega) rfl (rC (by omega) (by omega))) <|hc il <|hc (xL (aA rfl) (bw (m := 16) rfl) (aF rfl) (by omega) (by omega) rfl (rC (by omega) (by omega))) <|hc kb <|hc cQ <|hc (oS (P := (n / 16) / 16) (Q := ((n / 16) / 16) + 1) (aO (l := kI) 16 gT rfl) (.inr ⟨_, _, rfl, (aA rfl)⟩) (.inr ⟨_, _, rfl, (aA rfl)⟩) (by omega) (by omega) (by show _ ≤ (16 : Int); omega) (aF (congrArg (fun l => St' l) (pC (by omega) (by omega) (by omega))))) <|hc (xJ (aA rfl) (bw (m := 16) rfl) (aF rfl) (by omega) (by omega) rfl) <|hc cQ <|hc (oS (P := (n / 16) % 16) (Q := ((n / 16) % 16) + 1) (aO (l := kI) 16 gT rfl) (.inr ⟨_, _, rfl, (aA rfl)⟩) (.inr ⟨_, _, rfl, (aA rfl)⟩) (by omega) (by omega) (by show _ ≤ (16 : Int); omega) (aF (congrArg (fun l => St' l) (pC (by omega) (by omega) (by omega))))) <|hc (aI (aA rfl) (aA rfl) (aF rfl) (by first | rfl | (simp; done)) (by first | omega | (simp <;> omega))) <|hc (xJ (aA rfl) (bw (m := 16) rfl) (aF rfl) (by omega) (by omega) rfl) <|hc cQ <|hc (oS (P := n % 16) (Q := (n % 16) + 1) (aO (l := kI) 16 gT rfl) (.inr ⟨_, _, rfl, (aA rfl)⟩) (.inr ⟨_, _, rfl, (aA rfl)⟩) (by omega) (by omega) (by show _ ≤ (16 : Int); omega) (aF (congrArg (fun l => St' l) (pC (by omega) (by omega) (by omega))))) <|hc (aI (aA rfl) (aA rfl) (aF rfl) (by first | rfl | (simp; done)) (by first | omega | (simp <;> omega))) <|hnil
 refine a7 (tb := (aR yx)) (ra := .x 12) rfl ((ab (aY (ve n)) (fun j _ => aT (l := ve n) rfl j)).hyps ho) rfl o5.1 o5.2 (fun e0 e1 e2 => runHex_2 e0 e1 e2 ) (args := [.int .i64 n]) (by simp only [aH, Rel]; exact ⟨_, _, rfl, rfl, rfl⟩) w hl fun x hx => ?_
 simp only [Rel, aH] at hx
 exact hx
theorem callsHex (n : Int) (b0 : 1 ≤ n) (b1 : n ≤ 2000) (w : World) (hl : aG w) : au 43 #[.int .i64 n] w (St' (hexS n)) := by
 by_cases h0 : n < 16
 ·rw [show (St' (hexS n) : Value) = (St' ([u8 (dg n)]) : Value) from by exact congrArg (fun l => St' l) (by unfold hexS; first | (rw [if_pos (by omega)]; done) | (rw [if_neg (by omega), if_pos (by omega)]; done) | (rw [if_neg (by omega), if_neg (by omega), show n / 256 = n / 16 / 16 by omega]; done))]
  exact pathHex_0 n b0 b1 h0 w hl
 ·by_cases h1 : n / 16 < 16
  ·rw [show (St' (hexS n) : Value) = (St' ([u8 (dg (n / 16)), u8 (dg (n % 16))]) : Value) from by exact congrArg (fun l => St' l) (by unfold hexS; first | (rw [if_pos (by omega)]; done) | (rw [if_neg (by omega), if_pos (by omega)]; done) | (rw [if_neg (by omega), if_neg (by omega), show n / 256 = n / 16 / 16 by omega]; done))]
   exact pathHex_1 n b0 b1 h0 h1 w hl
  ·rw [show (St' (hexS n) : Value) = (St' ([u8 (dg ((n / 16) / 16)), u8 (dg ((n / 16) % 16)), u8 (dg (n % 16))]) : Value) from by exact congrArg (fun l => St' l) (by unfold hexS; first | (rw [if_pos (by omega)]; done) | (rw [if_neg (by omega), if_pos (by omega)]; done) | (rw [if_neg (by omega), if_neg (by omega), show n / 256 = n / 16 / 16 by omega]; done))]
   exact pathHex_2 n b0 b1 h0 h1 w hl
theorem hokHex {x0 r : AV} {n : Int} (i0 : Is (cx nu one 3 aG aJ) x0 (.int .i64 n)) (hr : Den (cx nu one 3 aG aJ) r (St' (hexS n))) (b0 : 1 ≤ n := by omega) (b1 : n ≤ 2000 := by omega) : aS (cx nu one 3 aG aJ) (.call 43 [x0]) r := by
 intro ρ args ha w hl _
 simp only [aH] at ha
 obtain ⟨v0, t0, rfl, a0, rfl⟩ := ha
 have e0 := i0 ρ _ a0; subst e0
 exact (callsHex n b0 b1 w hl).mono fun e w' he => ⟨_, he.1, hr ρ, he.2⟩
theorem aQ5 (x : LB) : (dR x).length ≤ x.length + 7 := by
 have := Ef (n := (x.length : Int))
 unfold dR; split
 ·simp
 ·simp only [List.length_append, List.length_cons, List.length_nil]; omega
theorem zq : bc.fn.get 32 = some (fI Tryd.f32 0) ∧ (fI Tryd.f32 0).body.isSome = true := ⟨rfl, by kernel_rfl⟩
def xd : LK := [(.bin .eql (.x 0) (.s 0 0), .b true)]
theorem runWra_0 (e0 : Nat) (e1 : Nat) (e2 : Nat) : okA (call (aR xd) 9000 32 [.x 0] ⟨H0 e0 e1 e2 , 3, 0, 0⟩) (.s 0 0) = true := by kernel_rfl
def tr (s : LB) : List Value := [St' s]
theorem pathWra_0 (s : LB) (b0 : s.length ≤ 9223372036854775807) (p0 : s.length ≤ 2000) (h0 : (s.length : Int) = 0) (w : World) (hl : aG w) : au 32 #[St' s] w (St' ([] : LB)) := by
 have ho : ∀ k r, (k, r) ∈ xd → aS (cx (aY (tr s)) (fun j _ => aT (l := tr s) rfl j) 3 aG aJ) k r := by
  unfold xd
  exact hc (br (aA rfl) (aO (l := ([] : LB)) 0 0 rfl) (nilT (by omega))) <|hnil
 refine a7 (tb := (aR xd)) (ra := .s 0 0) rfl ((ab (aY (tr s)) (fun j _ => aT (l := tr s) rfl j)).hyps ho) rfl zq.1 zq.2 (fun e0 e1 e2 => runWra_0 e0 e1 e2 ) (args := [St' s]) (by simp only [aH, Rel]; exact ⟨_, _, rfl, rfl, rfl⟩) w hl fun x hx => ?_
 simp only [Rel, aH] at hx
 exact hx.1
def xb : LK := [(.bin .eql (.x 0) (.s 0 0), .b false), (.len (.x 0), .x 1), (.call 42 [.x 1, I6 16], .x 2), (.bin .add (.x 2) (.s 2 2573), .x 3), (.bin .add (.x 3) (.x 0), .x 4), (.bin .add (.x 4) (.s 2 2573), .x 5)]
theorem runWra_1 (e0 : Nat) (e1 : Nat) (e2 : Nat) : okA (call (aR xb) 9000 32 [.x 0] ⟨H0 e0 e1 e2 , 3, 0, 0⟩) (.x 5) = true := by kernel_rfl
def tq (s : LB) : List Value := [St' s, .int .i64 ((s.length : Int)), St' (hexS (s.length : Int)), St' ((hexS (s.length : Int)) ++ [u8 13, u8 10]), St' ((hexS (s.length : Int)) ++ ([u8 13, u8 10] ++ s)), St' ((hexS (s.length : Int)) ++ ([u8 13, u8 10] ++ (s ++ [u8 13, u8 10])))]
theorem pathWra_1 (s : LB) (b0 : s.length ≤ 9223372036854775807) (p0 : s.length ≤ 2000) (h0 : ¬ ((s.length : Int) = 0)) (w : World) (hl : aG w) : au 32 #[St' s] w (St' ((hexS (s.length : Int)) ++ ([u8 13, u8 10] ++ (s ++ [u8 13, u8 10])))) := by
 have := Ef (n := (s.length : Int))
 have ho : ∀ k r, (k, r) ∈ xb → aS (cx (aY (tq s)) (fun j _ => aT (l := tq s) rfl j) 3 aG aJ) k r := by
  unfold xb
  exact hc (br (aA rfl) (aO (l := ([] : LB)) 0 0 rfl) (nilF (by omega))) <|hc bZ <|hc (hokFmt (aA rfl) (bw (m := 16) rfl) (aF rfl)) <|hc (aI (aA rfl) (aO (l := [u8 13, u8 10]) 2 2573 rfl) (aF rfl) (by first | rfl | (simp; done)) (by first | omega | (simp <;> omega))) <|hc (aI (aA rfl) (aA rfl) (aF rfl) (by first | rfl | (simp; done)) (by first | omega | (simp <;> omega))) <|hc (aI (aA rfl) (aO (l := [u8 13, u8 10]) 2 2573 rfl) (aF rfl) (by first | rfl | (simp; done)) (by first | omega | (simp <;> omega))) <|hnil
 refine a7 (tb := (aR xb)) (ra := .x 5) rfl ((ab (aY (tq s)) (fun j _ => aT (l := tq s) rfl j)).hyps ho) rfl zq.1 zq.2 (fun e0 e1 e2 => runWra_1 e0 e1 e2 ) (args := [St' s]) (by simp only [aH, Rel]; exact ⟨_, _, rfl, rfl, rfl⟩) w hl fun x hx => ?_
 simp only [Rel, aH] at hx
 exact hx
theorem callsWra (s : LB) (b0 : s.length ≤ 9223372036854775807) (p0 : s.length ≤ 2000) (w : World) (hl : aG w) : au 32 #[St' s] w (St' (dR s)) := by
 by_cases h0 : (s.length : Int) = 0
 ·rw [show (St' (dR s) : Value) = (St' ([] : LB) : Value) from by unfold dR; rw [if_pos (by omega)]]
  exact pathWra_0 s b0 p0 h0 w hl
 ·rw [show (St' (dR s) : Value) = (St' ((hexS (s.length : Int)) ++ ([u8 13, u8 10] ++ (s ++ [u8 13, u8 10]))) : Value) from by unfold dR; rw [if_neg (by omega)]]
  exact pathWra_1 s b0 p0 h0 w hl
theorem hokWra {x0 r : AV} {s : LB} (i0 : Is (cx nu one 3 aG aJ) x0 (St' s)) (hr : Den (cx nu one 3 aG aJ) r (St' (dR s))) (b0 : s.length ≤ 9223372036854775807 := by omega) (p0 : s.length ≤ 2000 := by omega) : aS (cx nu one 3 aG aJ) (.call 32 [x0]) r := by
 intro ρ args ha w hl _
 simp only [aH] at ha
 obtain ⟨v0, t0, rfl, a0, rfl⟩ := ha
 have e0 := i0 ρ _ a0; subst e0
 exact (callsWra s b0 p0 w hl).mono fun e w' he => ⟨_, he.1, hr ρ, he.2⟩
theorem zr : bc.fn.get 33 = some (fI Tryd.f33 0) ∧ (fI Tryd.f33 0).body.isSome = true := ⟨rfl, by kernel_rfl⟩
def xf : LK := [(.bin .eql (.x 0) (.s 0 0), .b true)]
theorem runRwr_0 (e0 : Nat) (e1 : Nat) (e2 : Nat) : okA (call (aR xf) 9000 33 [.x 0] ⟨H0 e0 e1 e2 , 3, 0, 0⟩) (.s 0 0) = true := by kernel_rfl
def tz (s : LB) : List Value := [St' s]
theorem pathRwr_0 (s : LB) (b0 : s.length ≤ 9223372036854775807) (p0 : s.length ≤ 2000) (h0 : (s.length : Int) = 0) (w : World) (hl : aG w) : au 33 #[St' s] w (St' ([] : LB)) := by
 have ho : ∀ k r, (k, r) ∈ xf → aS (cx (aY (tz s)) (fun j _ => aT (l := tz s) rfl j) 3 aG aJ) k r := by
  unfold xf
  exact hc (br (aA rfl) (aO (l := ([] : LB)) 0 0 rfl) (nilT (by omega))) <|hnil
 refine a7 (tb := (aR xf)) (ra := .s 0 0) rfl ((ab (aY (tz s)) (fun j _ => aT (l := tz s) rfl j)).hyps ho) rfl zr.1 zr.2 (fun e0 e1 e2 => runRwr_0 e0 e1 e2 ) (args := [St' s]) (by simp only [aH, Rel]; exact ⟨_, _, rfl, rfl, rfl⟩) w hl fun x hx => ?_
 simp only [Rel, aH] at hx
 exact hx.1
def xe : LK := [(.bin .eql (.x 0) (.s 0 0), .b false), (.len (.x 0), .x 1), (.call 43 [.x 1], .x 2), (.bin .add (.x 2) (.s 2 2573), .x 3), (.bin .add (.x 3) (.x 0), .x 4), (.bin .add (.x 4) (.s 2 2573), .x 5)]
theorem runRwr_1 (e0 : Nat) (e1 : Nat) (e2 : Nat) : okA (call (aR xe) 9000 33 [.x 0] ⟨H0 e0 e1 e2 , 3, 0, 0⟩) (.x 5) = true := by kernel_rfl
def tv (s : LB) : List Value := [St' s, .int .i64 ((s.length : Int)), St' (hexS (s.length : Int)), St' ((hexS (s.length : Int)) ++ [u8 13, u8 10]), St' ((hexS (s.length : Int)) ++ ([u8 13, u8 10] ++ s)), St' ((hexS (s.length : Int)) ++ ([u8 13, u8 10] ++ (s ++ [u8 13, u8 10])))]
theorem pathRwr_1 (s : LB) (b0 : s.length ≤ 9223372036854775807) (p0 : s.length ≤ 2000) (h0 : ¬ ((s.length : Int) = 0)) (w : World) (hl : aG w) : au 33 #[St' s] w (St' ((hexS (s.length : Int)) ++ ([u8 13, u8 10] ++ (s ++ [u8 13, u8 10])))) := by
 have := Ef (n := (s.length : Int))
 have ho : ∀ k r, (k, r) ∈ xe → aS (cx (aY (tv s)) (fun j _ => aT (l := tv s) rfl j) 3 aG aJ) k r := by
  unfold xe
  exact hc (br (aA rfl) (aO (l := ([] : LB)) 0 0 rfl) (nilF (by omega))) <|hc bZ <|hc (hokHex (aA rfl) (aF rfl)) <|hc (aI (aA rfl) (aO (l := [u8 13, u8 10]) 2 2573 rfl) (aF rfl) (by first | rfl | (simp; done)) (by first | omega | (simp <;> omega))) <|hc (aI (aA rfl) (aA rfl) (aF rfl) (by first | rfl | (simp; done)) (by first | omega | (simp <;> omega))) <|hc (aI (aA rfl) (aO (l := [u8 13, u8 10]) 2 2573 rfl) (aF rfl) (by first | rfl | (simp; done)) (by first | omega | (simp <;> omega))) <|hnil
 refine a7 (tb := (aR xe)) (ra := .x 5) rfl ((ab (aY (tv s)) (fun j _ => aT (l := tv s) rfl j)).hyps ho) rfl zr.1 zr.2 (fun e0 e1 e2 => runRwr_1 e0 e1 e2 ) (args := [St' s]) (by simp only [aH, Rel]; exact ⟨_, _, rfl, rfl, rfl⟩) w hl fun x hx => ?_
 simp only [Rel, aH] at hx
 exact hx
theorem callsRwr (s : LB) (b0 : s.length ≤ 9223372036854775807) (p0 : s.length ≤ 2000) (w : World) (hl : aG w) : au 33 #[St' s] w (St' (dR s)) := by
 by_cases h0 : (s.length : Int) = 0
 ·rw [show (St' (dR s) : Value) = (St' ([] : LB) : Value) from by unfold dR; rw [if_pos (by omega)]]
  exact pathRwr_0 s b0 p0 h0 w hl
 ·rw [show (St' (dR s) : Value) = (St' ((hexS (s.length : Int)) ++ ([u8 13, u8 10] ++ (s ++ [u8 13, u8 10]))) : Value) from by unfold dR; rw [if_neg (by omega)]]
  exact pathRwr_1 s b0 p0 h0 w hl
theorem hokRwr {x0 r : AV} {s : LB} (i0 : Is (cx nu one 3 aG aJ) x0 (St' s)) (hr : Den (cx nu one 3 aG aJ) r (St' (dR s))) (b0 : s.length ≤ 9223372036854775807 := by omega) (p0 : s.length ≤ 2000 := by omega) : aS (cx nu one 3 aG aJ) (.call 33 [x0]) r := by
 intro ρ args ha w hl _
 simp only [aH] at ha
 obtain ⟨v0, t0, rfl, a0, rfl⟩ := ha
 have e0 := i0 ρ _ a0; subst e0
 exact (callsRwr s b0 p0 w hl).mono fun e w' he => ⟨_, he.1, hr ρ, he.2⟩
theorem oz : bc.fn.get 13 = some (fI Tryd.f13 0) ∧ (fI Tryd.f13 0).body.isSome = true := ⟨rfl, by kernel_rfl⟩
def yo : LK := [(.call 17 [.ag [.x 0, .x 1, .x 2, .x 3, .x 4], .ag [.x 5, .x 6, .x 7]], .x 9), (.bI (.x 9) (.b true), .b true), (.call 32 [.x 8], .x 10)]
theorem runPrt_0 (e0 : Nat) (e1 : Nat) (e2 : Nat) : okA (call (aR yo) 9000 13 [.ag [.x 0, .x 1, .x 2, .x 3, .x 4], .ag [.x 5, .x 6, .x 7], .x 8] ⟨H0 e0 e1 e2 , 3, 0, 0⟩) (.x 10) = true := by kernel_rfl
def vJ (m rt : LB) (q : Int) (aE : Option Addr) (aC aD : Nat) (rb : LB) (hs : Int) (aB : LB) (ai : Option Addr) (af ah : Nat) (s : LB) : List Value := [St' m, St' rt, .int .i64 (q), .slice aE aC aD, St' rb, .int .i64 (hs), St' aB, .slice ai af ah, St' s, .bool (bL q m hs), St' (dR s)]
theorem pathPrt_0 (m rt : LB) (q : Int) (aE : Option Addr) (aC aD : Nat) (rb : LB) (hs : Int) (aB : LB) (ai : Option Addr) (af ah : Nat) (s : LB) (b0 : m.length ≤ 9223372036854775807) (b1 : -9223372036854775808 ≤ q) (b2 : q ≤ 9223372036854775807) (b3 : -9223372036854775808 ≤ hs) (b4 : hs ≤ 9223372036854775807) (b5 : aB.length ≤ 9223372036854775807) (b6 : s.length ≤ 9223372036854775807) (p0 : s.length ≤ 2000) (h0 : (bL q m hs) = true) (w : World) (hl : aG w) : au 13 #[.agg #[St' m, St' rt, .int .i64 q, .slice aE aC aD, St' rb], .agg #[.int .i64 hs, St' aB, .slice ai af ah], St' s] w (St' (dR s)) := by
 have := aQ5 s
 have ho : ∀ k r, (k, r) ∈ yo → aS (cx (aY (vJ m rt q aE aC aD rb hs aB ai af ah s)) (fun j _ => aT (l := vJ m rt q aE aC aD rb hs aB ai af ah s) rfl j) 3 aG aJ) k r := by
  unfold yo
  exact hc (eJ (bY (aA rfl) (aA rfl) (aA rfl) (aA rfl) (aA rfl)) (aA rfl) (aA rfl) (ib rfl) (aF rfl)) <|hc (cT (aA rfl) (by assumption)) <|hc (hokWra (aA rfl) (aF rfl)) <|hnil
 refine a7 (tb := (aR yo)) (ra := .x 10) rfl ((ab (aY (vJ m rt q aE aC aD rb hs aB ai af ah s)) (fun j _ => aT (l := vJ m rt q aE aC aD rb hs aB ai af ah s) rfl j)).hyps ho) rfl oz.1 oz.2 (fun e0 e1 e2 => runPrt_0 e0 e1 e2 ) (args := [.agg #[St' m, St' rt, .int .i64 q, .slice aE aC aD, St' rb], .agg #[.int .i64 hs, St' aB, .slice ai af ah], St' s]) (by simp only [aH, Rel]; exact ⟨_, _, rfl, ⟨_, rfl, ⟨_, _, rfl, rfl, ⟨_, _, rfl, rfl, ⟨_, _, rfl, rfl, ⟨_, _, rfl, rfl, ⟨_, _, rfl, rfl, rfl⟩⟩⟩⟩⟩⟩, ⟨_, _, rfl, ⟨_, rfl, ⟨_, _, rfl, rfl, ⟨_, _, rfl, rfl, ⟨_, _, rfl, rfl, rfl⟩⟩⟩⟩, ⟨_, _, rfl, rfl, rfl⟩⟩⟩) w hl fun x hx => ?_
 simp only [Rel, aH] at hx
 exact hx
def yn : LK := [(.call 17 [.ag [.x 0, .x 1, .x 2, .x 3, .x 4], .ag [.x 5, .x 6, .x 7]], .x 9), (.bI (.x 9) (.b true), .b false), (.call 7 [.x 0, .x 5], .x 10), (.bI (.x 10) (.b true), .b true)]
theorem runPrt_1 (e0 : Nat) (e1 : Nat) (e2 : Nat) : okA (call (aR yn) 9000 13 [.ag [.x 0, .x 1, .x 2, .x 3, .x 4], .ag [.x 5, .x 6, .x 7], .x 8] ⟨H0 e0 e1 e2 , 3, 0, 0⟩) (.s 0 0) = true := by kernel_rfl
def vI (m rt : LB) (q : Int) (aE : Option Addr) (aC aD : Nat) (rb : LB) (hs : Int) (aB : LB) (ai : Option Addr) (af ah : Nat) (s : LB) : List Value := [St' m, St' rt, .int .i64 (q), .slice aE aC aD, St' rb, .int .i64 (hs), St' aB, .slice ai af ah, St' s, .bool (bL q m hs), .bool (ax m hs)]
theorem pathPrt_1 (m rt : LB) (q : Int) (aE : Option Addr) (aC aD : Nat) (rb : LB) (hs : Int) (aB : LB) (ai : Option Addr) (af ah : Nat) (s : LB) (b0 : m.length ≤ 9223372036854775807) (b1 : -9223372036854775808 ≤ q) (b2 : q ≤ 9223372036854775807) (b3 : -9223372036854775808 ≤ hs) (b4 : hs ≤ 9223372036854775807) (b5 : aB.length ≤ 9223372036854775807) (b6 : s.length ≤ 9223372036854775807) (p0 : s.length ≤ 2000) (h0 : ¬ ((bL q m hs) = true)) (h1 : (ax m hs) = true) (w : World) (hl : aG w) : au 13 #[.agg #[St' m, St' rt, .int .i64 q, .slice aE aC aD, St' rb], .agg #[.int .i64 hs, St' aB, .slice ai af ah], St' s] w (St' ([] : LB)) := by
 have ho : ∀ k r, (k, r) ∈ yn → aS (cx (aY (vI m rt q aE aC aD rb hs aB ai af ah s)) (fun j _ => aT (l := vI m rt q aE aC aD rb hs aB ai af ah s) rfl j) 3 aG aJ) k r := by
  unfold yn
  exact hc (eJ (bY (aA rfl) (aA rfl) (aA rfl) (aA rfl) (aA rfl)) (aA rfl) (aA rfl) (ib rfl) (aF rfl)) <|hc (cL (aA rfl) (by assumption)) <|hc (gp (aA rfl) (aA rfl) (aF rfl)) <|hc (cT (aA rfl) (by assumption)) <|hnil
 refine a7 (tb := (aR yn)) (ra := .s 0 0) rfl ((ab (aY (vI m rt q aE aC aD rb hs aB ai af ah s)) (fun j _ => aT (l := vI m rt q aE aC aD rb hs aB ai af ah s) rfl j)).hyps ho) rfl oz.1 oz.2 (fun e0 e1 e2 => runPrt_1 e0 e1 e2 ) (args := [.agg #[St' m, St' rt, .int .i64 q, .slice aE aC aD, St' rb], .agg #[.int .i64 hs, St' aB, .slice ai af ah], St' s]) (by simp only [aH, Rel]; exact ⟨_, _, rfl, ⟨_, rfl, ⟨_, _, rfl, rfl, ⟨_, _, rfl, rfl, ⟨_, _, rfl, rfl, ⟨_, _, rfl, rfl, ⟨_, _, rfl, rfl, rfl⟩⟩⟩⟩⟩⟩, ⟨_, _, rfl, ⟨_, rfl, ⟨_, _, rfl, rfl, ⟨_, _, rfl, rfl, ⟨_, _, rfl, rfl, rfl⟩⟩⟩⟩, ⟨_, _, rfl, rfl, rfl⟩⟩⟩) w hl fun x hx => ?_
 simp only [Rel, aH] at hx
 exact hx.1
def ym : LK := [(.call 17 [.ag [.x 0, .x 1, .x 2, .x 3, .x 4], .ag [.x 5, .x 6, .x 7]], .x 9), (.bI (.x 9) (.b true), .b false), (.call 7 [.x 0, .x 5], .x 10), (.bI (.x 10) (.b true), .b false)]
theorem runPrt_2 (e0 : Nat) (e1 : Nat) (e2 : Nat) : okA (call (aR ym) 9000 13 [.ag [.x 0, .x 1, .x 2, .x 3, .x 4], .ag [.x 5, .x 6, .x 7], .x 8] ⟨H0 e0 e1 e2 , 3, 0, 0⟩) (.x 8) = true := by kernel_rfl
def vH (m rt : LB) (q : Int) (aE : Option Addr) (aC aD : Nat) (rb : LB) (hs : Int) (aB : LB) (ai : Option Addr) (af ah : Nat) (s : LB) : List Value := [St' m, St' rt, .int .i64 (q), .slice aE aC aD, St' rb, .int .i64 (hs), St' aB, .slice ai af ah, St' s, .bool (bL q m hs), .bool (ax m hs)]
theorem pathPrt_2 (m rt : LB) (q : Int) (aE : Option Addr) (aC aD : Nat) (rb : LB) (hs : Int) (aB : LB) (ai : Option Addr) (af ah : Nat) (s : LB) (b0 : m.length ≤ 9223372036854775807) (b1 : -9223372036854775808 ≤ q) (b2 : q ≤ 9223372036854775807) (b3 : -9223372036854775808 ≤ hs) (b4 : hs ≤ 9223372036854775807) (b5 : aB.length ≤ 9223372036854775807) (b6 : s.length ≤ 9223372036854775807) (p0 : s.length ≤ 2000) (h0 : ¬ ((bL q m hs) = true)) (h1 : ¬ ((ax m hs) = true)) (w : World) (hl : aG w) : au 13 #[.agg #[St' m, St' rt, .int .i64 q, .slice aE aC aD, St' rb], .agg #[.int .i64 hs, St' aB, .slice ai af ah], St' s] w (St' s) := by
 have ho : ∀ k r, (k, r) ∈ ym → aS (cx (aY (vH m rt q aE aC aD rb hs aB ai af ah s)) (fun j _ => aT (l := vH m rt q aE aC aD rb hs aB ai af ah s) rfl j) 3 aG aJ) k r := by
  unfold ym
  exact hc (eJ (bY (aA rfl) (aA rfl) (aA rfl) (aA rfl) (aA rfl)) (aA rfl) (aA rfl) (ib rfl) (aF rfl)) <|hc (cL (aA rfl) (by assumption)) <|hc (gp (aA rfl) (aA rfl) (aF rfl)) <|hc (cL (aA rfl) (by assumption)) <|hnil
 refine a7 (tb := (aR ym)) (ra := .x 8) rfl ((ab (aY (vH m rt q aE aC aD rb hs aB ai af ah s)) (fun j _ => aT (l := vH m rt q aE aC aD rb hs aB ai af ah s) rfl j)).hyps ho) rfl oz.1 oz.2 (fun e0 e1 e2 => runPrt_2 e0 e1 e2 ) (args := [.agg #[St' m, St' rt, .int .i64 q, .slice aE aC aD, St' rb], .agg #[.int .i64 hs, St' aB, .slice ai af ah], St' s]) (by simp only [aH, Rel]; exact ⟨_, _, rfl, ⟨_, rfl, ⟨_, _, rfl, rfl, ⟨_, _, rfl, rfl, ⟨_, _, rfl, rfl, ⟨_, _, rfl, rfl, ⟨_, _, rfl, rfl, rfl⟩⟩⟩⟩⟩⟩, ⟨_, _, rfl, ⟨_, rfl, ⟨_, _, rfl, rfl, ⟨_, _, rfl, rfl, ⟨_, _, rfl, rfl, rfl⟩⟩⟩⟩, ⟨_, _, rfl, rfl, rfl⟩⟩⟩) w hl fun x hx => ?_
 simp only [Rel, aH] at hx
 exact hx
theorem callsPrt (m rt : LB) (q : Int) (aE : Option Addr) (aC aD : Nat) (rb : LB) (hs : Int) (aB : LB) (ai : Option Addr) (af ah : Nat) (s : LB) (b0 : m.length ≤ 9223372036854775807) (b1 : -9223372036854775808 ≤ q) (b2 : q ≤ 9223372036854775807) (b3 : -9223372036854775808 ≤ hs) (b4 : hs ≤ 9223372036854775807) (b5 : aB.length ≤ 9223372036854775807) (b6 : s.length ≤ 9223372036854775807) (p0 : s.length ≤ 2000) (w : World) (hl : aG w) : au 13 #[.agg #[St' m, St' rt, .int .i64 q, .slice aE aC aD, St' rb], .agg #[.int .i64 hs, St' aB, .slice ai af ah], St' s] w (St' (dk q m hs s)) := by
 by_cases h0 : (bL q m hs) = true
 ·rw [show (St' (dk q m hs s) : Value) = (St' (dR s) : Value) from by unfold dk; rw [if_pos h0]]
  exact pathPrt_0 m rt q aE aC aD rb hs aB ai af ah s b0 b1 b2 b3 b4 b5 b6 p0 h0 w hl
 ·by_cases h1 : (ax m hs) = true
  ·rw [show (St' (dk q m hs s) : Value) = (St' ([] : LB) : Value) from by unfold dk; rw [if_neg h0, if_pos h1]]
   exact pathPrt_1 m rt q aE aC aD rb hs aB ai af ah s b0 b1 b2 b3 b4 b5 b6 p0 h0 h1 w hl
  ·rw [show (St' (dk q m hs s) : Value) = (St' s : Value) from by unfold dk; rw [if_neg h0, if_neg h1]]
   exact pathPrt_2 m rt q aE aC aD rb hs aB ai af ah s b0 b1 b2 b3 b4 b5 b6 p0 h0 h1 w hl
theorem oy : bc.fn.get 14 = some (fI Tryd.f14 0) ∧ (fI Tryd.f14 0).body.isSome = true := ⟨rfl, by kernel_rfl⟩
def yS : LK := [(.call 18 [.ag [.x 0, .x 1, .x 2, .x 3, .x 4], .ag [.x 5, .x 6, .x 7]], .x 9), (.bI (.x 9) (.b true), .b true), (.call 33 [.x 8], .x 10)]
theorem runRpt_0 (e0 : Nat) (e1 : Nat) (e2 : Nat) : okA (call (aR yS) 9000 14 [.ag [.x 0, .x 1, .x 2, .x 3, .x 4], .ag [.x 5, .x 6, .x 7], .x 8] ⟨H0 e0 e1 e2 , 3, 0, 0⟩) (.x 10) = true := by kernel_rfl
def uk (m rt : LB) (q : Int) (aE : Option Addr) (aC aD : Nat) (rb : LB) (hs : Int) (aB : LB) (ai : Option Addr) (af ah : Nat) (s : LB) : List Value := [St' m, St' rt, .int .i64 (q), .slice aE aC aD, St' rb, .int .i64 (hs), St' aB, .slice ai af ah, St' s, .bool (bL q m hs), St' (dR s)]
theorem pathRpt_0 (m rt : LB) (q : Int) (aE : Option Addr) (aC aD : Nat) (rb : LB) (hs : Int) (aB : LB) (ai : Option Addr) (af ah : Nat) (s : LB) (b0 : m.length ≤ 9223372036854775807) (b1 : -9223372036854775808 ≤ q) (b2 : q ≤ 9223372036854775807) (b3 : -9223372036854775808 ≤ hs) (b4 : hs ≤ 9223372036854775807) (b5 : aB.length ≤ 9223372036854775807) (b6 : s.length ≤ 9223372036854775807) (p0 : s.length ≤ 2000) (h0 : (bL q m hs) = true) (w : World) (hl : aG w) : au 14 #[.agg #[St' m, St' rt, .int .i64 q, .slice aE aC aD, St' rb], .agg #[.int .i64 hs, St' aB, .slice ai af ah], St' s] w (St' (dR s)) := by
 have := aQ5 s
 have ho : ∀ k r, (k, r) ∈ yS → aS (cx (aY (uk m rt q aE aC aD rb hs aB ai af ah s)) (fun j _ => aT (l := uk m rt q aE aC aD rb hs aB ai af ah s) rfl j) 3 aG aJ) k r := by
  unfold yS
  exact hc (eI (bY (aA rfl) (aA rfl) (aA rfl) (aA rfl) (aA rfl)) (aA rfl) (aA rfl) (ib rfl) (aF rfl)) <|hc (cT (aA rfl) (by assumption)) <|hc (hokRwr (aA rfl) (aF rfl)) <|hnil
 refine a7 (tb := (aR yS)) (ra := .x 10) rfl ((ab (aY (uk m rt q aE aC aD rb hs aB ai af ah s)) (fun j _ => aT (l := uk m rt q aE aC aD rb hs aB ai af ah s) rfl j)).hyps ho) rfl oy.1 oy.2 (fun e0 e1 e2 => runRpt_0 e0 e1 e2 ) (args := [.agg #[St' m, St' rt, .int .i64 q, .slice aE aC aD, St' rb], .agg #[.int .i64 hs, St' aB, .slice ai af ah], St' s]) (by simp only [aH, Rel]; exact ⟨_, _, rfl, ⟨_, rfl, ⟨_, _, rfl, rfl, ⟨_, _, rfl, rfl, ⟨_, _, rfl, rfl, ⟨_, _, rfl, rfl, ⟨_, _, rfl, rfl, rfl⟩⟩⟩⟩⟩⟩, ⟨_, _, rfl, ⟨_, rfl, ⟨_, _, rfl, rfl, ⟨_, _, rfl, rfl, ⟨_, _, rfl, rfl, rfl⟩⟩⟩⟩, ⟨_, _, rfl, rfl, rfl⟩⟩⟩) w hl fun x hx => ?_
 simp only [Rel, aH] at hx
 exact hx
def yR : LK := [(.call 18 [.ag [.x 0, .x 1, .x 2, .x 3, .x 4], .ag [.x 5, .x 6, .x 7]], .x 9), (.bI (.x 9) (.b true), .b false), (.call 8 [.x 0, .x 5], .x 10), (.bI (.x 10) (.b true), .b true)]
theorem runRpt_1 (e0 : Nat) (e1 : Nat) (e2 : Nat) : okA (call (aR yR) 9000 14 [.ag [.x 0, .x 1, .x 2, .x 3, .x 4], .ag [.x 5, .x 6, .x 7], .x 8] ⟨H0 e0 e1 e2 , 3, 0, 0⟩) (.s 0 0) = true := by kernel_rfl
def uj (m rt : LB) (q : Int) (aE : Option Addr) (aC aD : Nat) (rb : LB) (hs : Int) (aB : LB) (ai : Option Addr) (af ah : Nat) (s : LB) : List Value := [St' m, St' rt, .int .i64 (q), .slice aE aC aD, St' rb, .int .i64 (hs), St' aB, .slice ai af ah, St' s, .bool (bL q m hs), .bool (ax m hs)]
theorem pathRpt_1 (m rt : LB) (q : Int) (aE : Option Addr) (aC aD : Nat) (rb : LB) (hs : Int) (aB : LB) (ai : Option Addr) (af ah : Nat) (s : LB) (b0 : m.length ≤ 9223372036854775807) (b1 : -9223372036854775808 ≤ q) (b2 : q ≤ 9223372036854775807) (b3 : -9223372036854775808 ≤ hs) (b4 : hs ≤ 9223372036854775807) (b5 : aB.length ≤ 9223372036854775807) (b6 : s.length ≤ 9223372036854775807) (p0 : s.length ≤ 2000) (h0 : ¬ ((bL q m hs) = true)) (h1 : (ax m hs) = true) (w : World) (hl : aG w) : au 14 #[.agg #[St' m, St' rt, .int .i64 q, .slice aE aC aD, St' rb], .agg #[.int .i64 hs, St' aB, .slice ai af ah], St' s] w (St' ([] : LB)) := by
 have ho : ∀ k r, (k, r) ∈ yR → aS (cx (aY (uj m rt q aE aC aD rb hs aB ai af ah s)) (fun j _ => aT (l := uj m rt q aE aC aD rb hs aB ai af ah s) rfl j) 3 aG aJ) k r := by
  unfold yR
  exact hc (eI (bY (aA rfl) (aA rfl) (aA rfl) (aA rfl) (aA rfl)) (aA rfl) (aA rfl) (ib rfl) (aF rfl)) <|hc (cL (aA rfl) (by assumption)) <|hc (gn (aA rfl) (aA rfl) (aF rfl)) <|hc (cT (aA rfl) (by assumption)) <|hnil
 refine a7 (tb := (aR yR)) (ra := .s 0 0) rfl ((ab (aY (uj m rt q aE aC aD rb hs aB ai af ah s)) (fun j _ => aT (l := uj m rt q aE aC aD rb hs aB ai af ah s) rfl j)).hyps ho) rfl oy.1 oy.2 (fun e0 e1 e2 => runRpt_1 e0 e1 e2 ) (args := [.agg #[St' m, St' rt, .int .i64 q, .slice aE aC aD, St' rb], .agg #[.int .i64 hs, St' aB, .slice ai af ah], St' s]) (by simp only [aH, Rel]; exact ⟨_, _, rfl, ⟨_, rfl, ⟨_, _, rfl, rfl, ⟨_, _, rfl, rfl, ⟨_, _, rfl, rfl, ⟨_, _, rfl, rfl, ⟨_, _, rfl, rfl, rfl⟩⟩⟩⟩⟩⟩, ⟨_, _, rfl, ⟨_, rfl, ⟨_, _, rfl, rfl, ⟨_, _, rfl, rfl, ⟨_, _, rfl, rfl, rfl⟩⟩⟩⟩, ⟨_, _, rfl, rfl, rfl⟩⟩⟩) w hl fun x hx => ?_
 simp only [Rel, aH] at hx
 exact hx.1
def yQ : LK := [(.call 18 [.ag [.x 0, .x 1, .x 2, .x 3, .x 4], .ag [.x 5, .x 6, .x 7]], .x 9), (.bI (.x 9) (.b true), .b false), (.call 8 [.x 0, .x 5], .x 10), (.bI (.x 10) (.b true), .b false)]
theorem runRpt_2 (e0 : Nat) (e1 : Nat) (e2 : Nat) : okA (call (aR yQ) 9000 14 [.ag [.x 0, .x 1, .x 2, .x 3, .x 4], .ag [.x 5, .x 6, .x 7], .x 8] ⟨H0 e0 e1 e2 , 3, 0, 0⟩) (.x 8) = true := by kernel_rfl
def ui (m rt : LB) (q : Int) (aE : Option Addr) (aC aD : Nat) (rb : LB) (hs : Int) (aB : LB) (ai : Option Addr) (af ah : Nat) (s : LB) : List Value := [St' m, St' rt, .int .i64 (q), .slice aE aC aD, St' rb, .int .i64 (hs), St' aB, .slice ai af ah, St' s, .bool (bL q m hs), .bool (ax m hs)]
theorem pathRpt_2 (m rt : LB) (q : Int) (aE : Option Addr) (aC aD : Nat) (rb : LB) (hs : Int) (aB : LB) (ai : Option Addr) (af ah : Nat) (s : LB) (b0 : m.length ≤ 9223372036854775807) (b1 : -9223372036854775808 ≤ q) (b2 : q ≤ 9223372036854775807) (b3 : -9223372036854775808 ≤ hs) (b4 : hs ≤ 9223372036854775807) (b5 : aB.length ≤ 9223372036854775807) (b6 : s.length ≤ 9223372036854775807) (p0 : s.length ≤ 2000) (h0 : ¬ ((bL q m hs) = true)) (h1 : ¬ ((ax m hs) = true)) (w : World) (hl : aG w) : au 14 #[.agg #[St' m, St' rt, .int .i64 q, .slice aE aC aD, St' rb], .agg #[.int .i64 hs, St' aB, .slice ai af ah], St' s] w (St' s) := by
 have ho : ∀ k r, (k, r) ∈ yQ → aS (cx (aY (ui m rt q aE aC aD rb hs aB ai af ah s)) (fun j _ => aT (l := ui m rt q aE aC aD rb hs aB ai af ah s) rfl j) 3 aG aJ) k r := by
  unfold yQ
  exact hc (eI (bY (aA rfl) (aA rfl) (aA rfl) (aA rfl) (aA rfl)) (aA rfl) (aA rfl) (ib rfl) (aF rfl)) <|hc (cL (aA rfl) (by assumption)) <|hc (gn (aA rfl) (aA rfl) (aF rfl)) <|hc (cL (aA rfl) (by assumption)) <|hnil
 refine a7 (tb := (aR yQ)) (ra := .x 8) rfl ((ab (aY (ui m rt q aE aC aD rb hs aB ai af ah s)) (fun j _ => aT (l := ui m rt q aE aC aD rb hs aB ai af ah s) rfl j)).hyps ho) rfl oy.1 oy.2 (fun e0 e1 e2 => runRpt_2 e0 e1 e2 ) (args := [.agg #[St' m, St' rt, .int .i64 q, .slice aE aC aD, St' rb], .agg #[.int .i64 hs, St' aB, .slice ai af ah], St' s]) (by simp only [aH, Rel]; exact ⟨_, _, rfl, ⟨_, rfl, ⟨_, _, rfl, rfl, ⟨_, _, rfl, rfl, ⟨_, _, rfl, rfl, ⟨_, _, rfl, rfl, ⟨_, _, rfl, rfl, rfl⟩⟩⟩⟩⟩⟩, ⟨_, _, rfl, ⟨_, rfl, ⟨_, _, rfl, rfl, ⟨_, _, rfl, rfl, ⟨_, _, rfl, rfl, rfl⟩⟩⟩⟩, ⟨_, _, rfl, rfl, rfl⟩⟩⟩) w hl fun x hx => ?_
 simp only [Rel, aH] at hx
 exact hx
theorem callsRpt (m rt : LB) (q : Int) (aE : Option Addr) (aC aD : Nat) (rb : LB) (hs : Int) (aB : LB) (ai : Option Addr) (af ah : Nat) (s : LB) (b0 : m.length ≤ 9223372036854775807) (b1 : -9223372036854775808 ≤ q) (b2 : q ≤ 9223372036854775807) (b3 : -9223372036854775808 ≤ hs) (b4 : hs ≤ 9223372036854775807) (b5 : aB.length ≤ 9223372036854775807) (b6 : s.length ≤ 9223372036854775807) (p0 : s.length ≤ 2000) (w : World) (hl : aG w) : au 14 #[.agg #[St' m, St' rt, .int .i64 q, .slice aE aC aD, St' rb], .agg #[.int .i64 hs, St' aB, .slice ai af ah], St' s] w (St' (dk q m hs s)) := by
 by_cases h0 : (bL q m hs) = true
 ·rw [show (St' (dk q m hs s) : Value) = (St' (dR s) : Value) from by unfold dk; rw [if_pos h0]]
  exact pathRpt_0 m rt q aE aC aD rb hs aB ai af ah s b0 b1 b2 b3 b4 b5 b6 p0 h0 w hl
 ·by_cases h1 : (ax m hs) = true
  ·rw [show (St' (dk q m hs s) : Value) = (St' ([] : LB) : Value) from by unfold dk; rw [if_neg h0, if_pos h1]]
   exact pathRpt_1 m rt q aE aC aD rb hs aB ai af ah s b0 b1 b2 b3 b4 b5 b6 p0 h0 h1 w hl
  ·rw [show (St' (dk q m hs s) : Value) = (St' s : Value) from by unfold dk; rw [if_neg h0, if_neg h1]]
   exact pathRpt_2 m rt q aE aC aD rb hs aB ai af ah s b0 b1 b2 b3 b4 b5 b6 p0 h0 h1 w hl
theorem aY5 {x0 y0 y1 FA x2 r : AV} {m rt rb aB : LB} {q hs : Int} {aE : Option Addr} {aC aD : Nat} {s : LB} (i0 : Is (cx nu one 3 aG aJ) x0 (.agg #[St' m, St' rt, .int .i64 q, .slice aE aC aD, St' rb])) (j0 : Is (cx nu one 3 aG aJ) y0 (.int .i64 hs)) (j1 : Is (cx nu one 3 aG aJ) y1 (St' aB)) (hF : jz (cx nu one 3 aG aJ) FA) (i2 : Is (cx nu one 3 aG aJ) x2 (St' s)) (hd : Den (cx nu one 3 aG aJ) r (St' (dk q m hs s))) (b0 : m.length ≤ 9223372036854775807 := by omega) (b1 : -9223372036854775808 ≤ q := by omega) (b2 : q ≤ 9223372036854775807 := by omega) (b3 : -9223372036854775808 ≤ hs := by omega) (b4 : hs ≤ 9223372036854775807 := by omega) (b5 : aB.length ≤ 9223372036854775807 := by omega) (b6 : s.length ≤ 9223372036854775807 := by omega) (b7 : s.length ≤ 2000 := by omega) : aS (cx nu one 3 aG aJ) (.call 13 [x0, .ag [y0, y1, FA], x2]) r := by
 intro ρ args ha w hl _
 simp only [aH, Rel] at ha
 obtain ⟨v0, t0, rfl, a0, v1, t1, rfl, ⟨cs, rfl, u0, s0, rfl, c0, u1, s1, rfl, c1, u2, s2, rfl, c2, rfl⟩, v2, t2, rfl, a2, rfl⟩ := ha
 have e0 := i0 ρ _ a0; subst e0
 have e1 := j0 ρ _ c0; subst e1
 have e2 := j1 ρ _ c1; subst e2
 have e3 := i2 ρ _ a2; subst e3
 obtain ⟨sa, sn, sc, rfl⟩ := hF ρ _ c2
 exact (callsPrt m rt q aE aC aD rb hs aB sa sn sc s b0 b1 b2 b3 b4 b5 b6 b7 w hl).mono fun e w' he => ⟨_, he.1, hd ρ, he.2⟩
theorem aY3 {x0 y0 y1 FA x2 r : AV} {m rt rb aB : LB} {q hs : Int} {aE : Option Addr} {aC aD : Nat} {s : LB} (i0 : Is (cx nu one 3 aG aJ) x0 (.agg #[St' m, St' rt, .int .i64 q, .slice aE aC aD, St' rb])) (j0 : Is (cx nu one 3 aG aJ) y0 (.int .i64 hs)) (j1 : Is (cx nu one 3 aG aJ) y1 (St' aB)) (hF : jz (cx nu one 3 aG aJ) FA) (i2 : Is (cx nu one 3 aG aJ) x2 (St' s)) (hd : Den (cx nu one 3 aG aJ) r (St' (dk q m hs s))) (b0 : m.length ≤ 9223372036854775807 := by omega) (b1 : -9223372036854775808 ≤ q := by omega) (b2 : q ≤ 9223372036854775807 := by omega) (b3 : -9223372036854775808 ≤ hs := by omega) (b4 : hs ≤ 9223372036854775807 := by omega) (b5 : aB.length ≤ 9223372036854775807 := by omega) (b6 : s.length ≤ 9223372036854775807 := by omega) (b7 : s.length ≤ 2000 := by omega) : aS (cx nu one 3 aG aJ) (.call 14 [x0, .ag [y0, y1, FA], x2]) r := by
 intro ρ args ha w hl _
 simp only [aH, Rel] at ha
 obtain ⟨v0, t0, rfl, a0, v1, t1, rfl, ⟨cs, rfl, u0, s0, rfl, c0, u1, s1, rfl, c1, u2, s2, rfl, c2, rfl⟩, v2, t2, rfl, a2, rfl⟩ := ha
 have e0 := i0 ρ _ a0; subst e0
 have e1 := j0 ρ _ c0; subst e1
 have e2 := j1 ρ _ c1; subst e2
 have e3 := i2 ρ _ a2; subst e3
 obtain ⟨sa, sn, sc, rfl⟩ := hF ρ _ c2
 exact (callsRpt m rt q aE aC aD rb hs aB sa sn sc s b0 b1 b2 b3 b4 b5 b6 b7 w hl).mono fun e w' he => ⟨_, he.1, hd ρ, he.2⟩
theorem zy : bc.fn.get 15 = some (fI Tryd.f15 0) ∧ (fI Tryd.f15 0).body.isSome = true := ⟨rfl, by kernel_rfl⟩
def zJ : LK := [(.call 17 [.ag [.x 0, .x 1, .x 2, .x 3, .x 4], .ag [.x 5, .x 6, .x 7]], .x 8), (.bI (.x 8) (.b true), .b true)]
theorem runEnd_0 (e0 : Nat) (e1 : Nat) (e2 : Nat) : okA (call (aR zJ) 9000 15 [.ag [.x 0, .x 1, .x 2, .x 3, .x 4], .ag [.x 5, .x 6, .x 7]] ⟨H0 e0 e1 e2 , 3, 0, 0⟩) (.s 5 43168435504) = true := by kernel_rfl
def wC (m rt : LB) (q : Int) (aE : Option Addr) (aC aD : Nat) (rb : LB) (hs : Int) (aB : LB) (ai : Option Addr) (af ah : Nat) : List Value := [St' m, St' rt, .int .i64 (q), .slice aE aC aD, St' rb, .int .i64 (hs), St' aB, .slice ai af ah, .bool (bL q m hs)]
theorem pathEnd_0 (m rt : LB) (q : Int) (aE : Option Addr) (aC aD : Nat) (rb : LB) (hs : Int) (aB : LB) (ai : Option Addr) (af ah : Nat) (b0 : m.length ≤ 9223372036854775807) (b1 : -9223372036854775808 ≤ q) (b2 : q ≤ 9223372036854775807) (b3 : -9223372036854775808 ≤ hs) (b4 : hs ≤ 9223372036854775807) (b5 : aB.length ≤ 9223372036854775807) (h0 : (bL q m hs) = true) (w : World) (hl : aG w) : au 15 #[.agg #[St' m, St' rt, .int .i64 q, .slice aE aC aD, St' rb], .agg #[.int .i64 hs, St' aB, .slice ai af ah]] w (St' pU) := by
 have ho : ∀ k r, (k, r) ∈ zJ → aS (cx (aY (wC m rt q aE aC aD rb hs aB ai af ah)) (fun j _ => aT (l := wC m rt q aE aC aD rb hs aB ai af ah) rfl j) 3 aG aJ) k r := by
  unfold zJ
  exact hc (eJ (bY (aA rfl) (aA rfl) (aA rfl) (aA rfl) (aA rfl)) (aA rfl) (aA rfl) (ib rfl) (aF rfl)) <|hc (cT (aA rfl) (by assumption)) <|hnil
 refine a7 (tb := (aR zJ)) (ra := .s 5 43168435504) rfl ((ab (aY (wC m rt q aE aC aD rb hs aB ai af ah)) (fun j _ => aT (l := wC m rt q aE aC aD rb hs aB ai af ah) rfl j)).hyps ho) rfl zy.1 zy.2 (fun e0 e1 e2 => runEnd_0 e0 e1 e2 ) (args := [.agg #[St' m, St' rt, .int .i64 q, .slice aE aC aD, St' rb], .agg #[.int .i64 hs, St' aB, .slice ai af ah]]) (by simp only [aH, Rel]; exact ⟨_, _, rfl, ⟨_, rfl, ⟨_, _, rfl, rfl, ⟨_, _, rfl, rfl, ⟨_, _, rfl, rfl, ⟨_, _, rfl, rfl, ⟨_, _, rfl, rfl, rfl⟩⟩⟩⟩⟩⟩, ⟨_, _, rfl, ⟨_, rfl, ⟨_, _, rfl, rfl, ⟨_, _, rfl, rfl, ⟨_, _, rfl, rfl, rfl⟩⟩⟩⟩, rfl⟩⟩) w hl fun x hx => ?_
 simp only [Rel, aH] at hx
 exact hx.1
def zI : LK := [(.call 17 [.ag [.x 0, .x 1, .x 2, .x 3, .x 4], .ag [.x 5, .x 6, .x 7]], .x 8), (.bI (.x 8) (.b true), .b false)]
theorem runEnd_1 (e0 : Nat) (e1 : Nat) (e2 : Nat) : okA (call (aR zI) 9000 15 [.ag [.x 0, .x 1, .x 2, .x 3, .x 4], .ag [.x 5, .x 6, .x 7]] ⟨H0 e0 e1 e2 , 3, 0, 0⟩) (.s 0 0) = true := by kernel_rfl
def wB (m rt : LB) (q : Int) (aE : Option Addr) (aC aD : Nat) (rb : LB) (hs : Int) (aB : LB) (ai : Option Addr) (af ah : Nat) : List Value := [St' m, St' rt, .int .i64 (q), .slice aE aC aD, St' rb, .int .i64 (hs), St' aB, .slice ai af ah, .bool (bL q m hs)]
theorem pathEnd_1 (m rt : LB) (q : Int) (aE : Option Addr) (aC aD : Nat) (rb : LB) (hs : Int) (aB : LB) (ai : Option Addr) (af ah : Nat) (b0 : m.length ≤ 9223372036854775807) (b1 : -9223372036854775808 ≤ q) (b2 : q ≤ 9223372036854775807) (b3 : -9223372036854775808 ≤ hs) (b4 : hs ≤ 9223372036854775807) (b5 : aB.length ≤ 9223372036854775807) (h0 : ¬ ((bL q m hs) = true)) (w : World) (hl : aG w) : au 15 #[.agg #[St' m, St' rt, .int .i64 q, .slice aE aC aD, St' rb], .agg #[.int .i64 hs, St' aB, .slice ai af ah]] w (St' ([] : LB)) := by
 have ho : ∀ k r, (k, r) ∈ zI → aS (cx (aY (wB m rt q aE aC aD rb hs aB ai af ah)) (fun j _ => aT (l := wB m rt q aE aC aD rb hs aB ai af ah) rfl j) 3 aG aJ) k r := by
  unfold zI
  exact hc (eJ (bY (aA rfl) (aA rfl) (aA rfl) (aA rfl) (aA rfl)) (aA rfl) (aA rfl) (ib rfl) (aF rfl)) <|hc (cL (aA rfl) (by assumption)) <|hnil
 refine a7 (tb := (aR zI)) (ra := .s 0 0) rfl ((ab (aY (wB m rt q aE aC aD rb hs aB ai af ah)) (fun j _ => aT (l := wB m rt q aE aC aD rb hs aB ai af ah) rfl j)).hyps ho) rfl zy.1 zy.2 (fun e0 e1 e2 => runEnd_1 e0 e1 e2 ) (args := [.agg #[St' m, St' rt, .int .i64 q, .slice aE aC aD, St' rb], .agg #[.int .i64 hs, St' aB, .slice ai af ah]]) (by simp only [aH, Rel]; exact ⟨_, _, rfl, ⟨_, rfl, ⟨_, _, rfl, rfl, ⟨_, _, rfl, rfl, ⟨_, _, rfl, rfl, ⟨_, _, rfl, rfl, ⟨_, _, rfl, rfl, rfl⟩⟩⟩⟩⟩⟩, ⟨_, _, rfl, ⟨_, rfl, ⟨_, _, rfl, rfl, ⟨_, _, rfl, rfl, ⟨_, _, rfl, rfl, rfl⟩⟩⟩⟩, rfl⟩⟩) w hl fun x hx => ?_
 simp only [Rel, aH] at hx
 exact hx.1
theorem callsEnd (m rt : LB) (q : Int) (aE : Option Addr) (aC aD : Nat) (rb : LB) (hs : Int) (aB : LB) (ai : Option Addr) (af ah : Nat) (b0 : m.length ≤ 9223372036854775807) (b1 : -9223372036854775808 ≤ q) (b2 : q ≤ 9223372036854775807) (b3 : -9223372036854775808 ≤ hs) (b4 : hs ≤ 9223372036854775807) (b5 : aB.length ≤ 9223372036854775807) (w : World) (hl : aG w) : au 15 #[.agg #[St' m, St' rt, .int .i64 q, .slice aE aC aD, St' rb], .agg #[.int .i64 hs, St' aB, .slice ai af ah]] w (St' (fA q m hs)) := by
 by_cases h0 : (bL q m hs) = true
 ·rw [show (St' (fA q m hs) : Value) = (St' pU : Value) from by unfold fA; rw [if_pos h0]]
  exact pathEnd_0 m rt q aE aC aD rb hs aB ai af ah b0 b1 b2 b3 b4 b5 h0 w hl
 ·rw [show (St' (fA q m hs) : Value) = (St' ([] : LB) : Value) from by unfold fA; rw [if_neg h0]]
  exact pathEnd_1 m rt q aE aC aD rb hs aB ai af ah b0 b1 b2 b3 b4 b5 h0 w hl
theorem zt : bc.fn.get 16 = some (fI Tryd.f16 0) ∧ (fI Tryd.f16 0).body.isSome = true := ⟨rfl, by kernel_rfl⟩
def yc : LK := [(.call 18 [.ag [.x 0, .x 1, .x 2, .x 3, .x 4], .ag [.x 5, .x 6, .x 7]], .x 8), (.bI (.x 8) (.b true), .b true)]
theorem runRen_0 (e0 : Nat) (e1 : Nat) (e2 : Nat) : okA (call (aR yc) 9000 16 [.ag [.x 0, .x 1, .x 2, .x 3, .x 4], .ag [.x 5, .x 6, .x 7]] ⟨H0 e0 e1 e2 , 3, 0, 0⟩) (.s 5 43168435504) = true := by kernel_rfl
def u7 (m rt : LB) (q : Int) (aE : Option Addr) (aC aD : Nat) (rb : LB) (hs : Int) (aB : LB) (ai : Option Addr) (af ah : Nat) : List Value := [St' m, St' rt, .int .i64 (q), .slice aE aC aD, St' rb, .int .i64 (hs), St' aB, .slice ai af ah, .bool (bL q m hs)]
theorem pathRen_0 (m rt : LB) (q : Int) (aE : Option Addr) (aC aD : Nat) (rb : LB) (hs : Int) (aB : LB) (ai : Option Addr) (af ah : Nat) (b0 : m.length ≤ 9223372036854775807) (b1 : -9223372036854775808 ≤ q) (b2 : q ≤ 9223372036854775807) (b3 : -9223372036854775808 ≤ hs) (b4 : hs ≤ 9223372036854775807) (b5 : aB.length ≤ 9223372036854775807) (h0 : (bL q m hs) = true) (w : World) (hl : aG w) : au 16 #[.agg #[St' m, St' rt, .int .i64 q, .slice aE aC aD, St' rb], .agg #[.int .i64 hs, St' aB, .slice ai af ah]] w (St' pU) := by
 have ho : ∀ k r, (k, r) ∈ yc → aS (cx (aY (u7 m rt q aE aC aD rb hs aB ai af ah)) (fun j _ => aT (l := u7 m rt q aE aC aD rb hs aB ai af ah) rfl j) 3 aG aJ) k r := by
  unfold yc
  exact hc (eI (bY (aA rfl) (aA rfl) (aA rfl) (aA rfl) (aA rfl)) (aA rfl) (aA rfl) (ib rfl) (aF rfl)) <|hc (cT (aA rfl) (by assumption)) <|hnil
 refine a7 (tb := (aR yc)) (ra := .s 5 43168435504) rfl ((ab (aY (u7 m rt q aE aC aD rb hs aB ai af ah)) (fun j _ => aT (l := u7 m rt q aE aC aD rb hs aB ai af ah) rfl j)).hyps ho) rfl zt.1 zt.2 (fun e0 e1 e2 => runRen_0 e0 e1 e2 ) (args := [.agg #[St' m, St' rt, .int .i64 q, .slice aE aC aD, St' rb], .agg #[.int .i64 hs, St' aB, .slice ai af ah]]) (by simp only [aH, Rel]; exact ⟨_, _, rfl, ⟨_, rfl, ⟨_, _, rfl, rfl, ⟨_, _, rfl, rfl, ⟨_, _, rfl, rfl, ⟨_, _, rfl, rfl, ⟨_, _, rfl, rfl, rfl⟩⟩⟩⟩⟩⟩, ⟨_, _, rfl, ⟨_, rfl, ⟨_, _, rfl, rfl, ⟨_, _, rfl, rfl, ⟨_, _, rfl, rfl, rfl⟩⟩⟩⟩, rfl⟩⟩) w hl fun x hx => ?_
 simp only [Rel, aH] at hx
 exact hx.1
def yb : LK := [(.call 18 [.ag [.x 0, .x 1, .x 2, .x 3, .x 4], .ag [.x 5, .x 6, .x 7]], .x 8), (.bI (.x 8) (.b true), .b false)]
theorem runRen_1 (e0 : Nat) (e1 : Nat) (e2 : Nat) : okA (call (aR yb) 9000 16 [.ag [.x 0, .x 1, .x 2, .x 3, .x 4], .ag [.x 5, .x 6, .x 7]] ⟨H0 e0 e1 e2 , 3, 0, 0⟩) (.s 0 0) = true := by kernel_rfl
def u6 (m rt : LB) (q : Int) (aE : Option Addr) (aC aD : Nat) (rb : LB) (hs : Int) (aB : LB) (ai : Option Addr) (af ah : Nat) : List Value := [St' m, St' rt, .int .i64 (q), .slice aE aC aD, St' rb, .int .i64 (hs), St' aB, .slice ai af ah, .bool (bL q m hs)]
theorem pathRen_1 (m rt : LB) (q : Int) (aE : Option Addr) (aC aD : Nat) (rb : LB) (hs : Int) (aB : LB) (ai : Option Addr) (af ah : Nat) (b0 : m.length ≤ 9223372036854775807) (b1 : -9223372036854775808 ≤ q) (b2 : q ≤ 9223372036854775807) (b3 : -9223372036854775808 ≤ hs) (b4 : hs ≤ 9223372036854775807) (b5 : aB.length ≤ 9223372036854775807) (h0 : ¬ ((bL q m hs) = true)) (w : World) (hl : aG w) : au 16 #[.agg #[St' m, St' rt, .int .i64 q, .slice aE aC aD, St' rb], .agg #[.int .i64 hs, St' aB, .slice ai af ah]] w (St' ([] : LB)) := by
 have ho : ∀ k r, (k, r) ∈ yb → aS (cx (aY (u6 m rt q aE aC aD rb hs aB ai af ah)) (fun j _ => aT (l := u6 m rt q aE aC aD rb hs aB ai af ah) rfl j) 3 aG aJ) k r := by
  unfold yb
  exact hc (eI (bY (aA rfl) (aA rfl) (aA rfl) (aA rfl) (aA rfl)) (aA rfl) (aA rfl) (ib rfl) (aF rfl)) <|hc (cL (aA rfl) (by assumption)) <|hnil
 refine a7 (tb := (aR yb)) (ra := .s 0 0) rfl ((ab (aY (u6 m rt q aE aC aD rb hs aB ai af ah)) (fun j _ => aT (l := u6 m rt q aE aC aD rb hs aB ai af ah) rfl j)).hyps ho) rfl zt.1 zt.2 (fun e0 e1 e2 => runRen_1 e0 e1 e2 ) (args := [.agg #[St' m, St' rt, .int .i64 q, .slice aE aC aD, St' rb], .agg #[.int .i64 hs, St' aB, .slice ai af ah]]) (by simp only [aH, Rel]; exact ⟨_, _, rfl, ⟨_, rfl, ⟨_, _, rfl, rfl, ⟨_, _, rfl, rfl, ⟨_, _, rfl, rfl, ⟨_, _, rfl, rfl, ⟨_, _, rfl, rfl, rfl⟩⟩⟩⟩⟩⟩, ⟨_, _, rfl, ⟨_, rfl, ⟨_, _, rfl, rfl, ⟨_, _, rfl, rfl, ⟨_, _, rfl, rfl, rfl⟩⟩⟩⟩, rfl⟩⟩) w hl fun x hx => ?_
 simp only [Rel, aH] at hx
 exact hx.1
theorem callsRen (m rt : LB) (q : Int) (aE : Option Addr) (aC aD : Nat) (rb : LB) (hs : Int) (aB : LB) (ai : Option Addr) (af ah : Nat) (b0 : m.length ≤ 9223372036854775807) (b1 : -9223372036854775808 ≤ q) (b2 : q ≤ 9223372036854775807) (b3 : -9223372036854775808 ≤ hs) (b4 : hs ≤ 9223372036854775807) (b5 : aB.length ≤ 9223372036854775807) (w : World) (hl : aG w) : au 16 #[.agg #[St' m, St' rt, .int .i64 q, .slice aE aC aD, St' rb], .agg #[.int .i64 hs, St' aB, .slice ai af ah]] w (St' (fA q m hs)) := by
 by_cases h0 : (bL q m hs) = true
 ·rw [show (St' (fA q m hs) : Value) = (St' pU : Value) from by unfold fA; rw [if_pos h0]]
  exact pathRen_0 m rt q aE aC aD rb hs aB ai af ah b0 b1 b2 b3 b4 b5 h0 w hl
 ·rw [show (St' (fA q m hs) : Value) = (St' ([] : LB) : Value) from by unfold fA; rw [if_neg h0]]
  exact pathRen_1 m rt q aE aC aD rb hs aB ai af ah b0 b1 b2 b3 b4 b5 h0 w hl
theorem aY6 {x0 y0 y1 FA r : AV} {m rt rb aB : LB} {q hs : Int} {aE : Option Addr} {aC aD : Nat} (i0 : Is (cx nu one 3 aG aJ) x0 (.agg #[St' m, St' rt, .int .i64 q, .slice aE aC aD, St' rb])) (j0 : Is (cx nu one 3 aG aJ) y0 (.int .i64 hs)) (j1 : Is (cx nu one 3 aG aJ) y1 (St' aB)) (hF : jz (cx nu one 3 aG aJ) FA) (hd : Den (cx nu one 3 aG aJ) r (St' (fA q m hs))) (b0 : m.length ≤ 9223372036854775807 := by omega) (b1 : -9223372036854775808 ≤ q := by omega) (b2 : q ≤ 9223372036854775807 := by omega) (b3 : -9223372036854775808 ≤ hs := by omega) (b4 : hs ≤ 9223372036854775807 := by omega) (b5 : aB.length ≤ 9223372036854775807 := by omega) : aS (cx nu one 3 aG aJ) (.call 15 [x0, .ag [y0, y1, FA]]) r := by
 intro ρ args ha w hl _
 simp only [aH, Rel] at ha
 obtain ⟨v0, t0, rfl, a0, v1, t1, rfl, ⟨cs, rfl, u0, s0, rfl, c0, u1, s1, rfl, c1, u2, s2, rfl, c2, rfl⟩, rfl⟩ := ha
 have e0 := i0 ρ _ a0; subst e0
 have e1 := j0 ρ _ c0; subst e1
 have e2 := j1 ρ _ c1; subst e2
 obtain ⟨sa, sn, sc, rfl⟩ := hF ρ _ c2
 exact (callsEnd m rt q aE aC aD rb hs aB sa sn sc b0 b1 b2 b3 b4 b5 w hl).mono fun e w' he => ⟨_, he.1, hd ρ, he.2⟩
theorem aY4 {x0 y0 y1 FA r : AV} {m rt rb aB : LB} {q hs : Int} {aE : Option Addr} {aC aD : Nat} (i0 : Is (cx nu one 3 aG aJ) x0 (.agg #[St' m, St' rt, .int .i64 q, .slice aE aC aD, St' rb])) (j0 : Is (cx nu one 3 aG aJ) y0 (.int .i64 hs)) (j1 : Is (cx nu one 3 aG aJ) y1 (St' aB)) (hF : jz (cx nu one 3 aG aJ) FA) (hd : Den (cx nu one 3 aG aJ) r (St' (fA q m hs))) (b0 : m.length ≤ 9223372036854775807 := by omega) (b1 : -9223372036854775808 ≤ q := by omega) (b2 : q ≤ 9223372036854775807 := by omega) (b3 : -9223372036854775808 ≤ hs := by omega) (b4 : hs ≤ 9223372036854775807 := by omega) (b5 : aB.length ≤ 9223372036854775807 := by omega) : aS (cx nu one 3 aG aJ) (.call 16 [x0, .ag [y0, y1, FA]]) r := by
 intro ρ args ha w hl _
 simp only [aH, Rel] at ha
 obtain ⟨v0, t0, rfl, a0, v1, t1, rfl, ⟨cs, rfl, u0, s0, rfl, c0, u1, s1, rfl, c1, u2, s2, rfl, c2, rfl⟩, rfl⟩ := ha
 have e0 := i0 ρ _ a0; subst e0
 have e1 := j0 ρ _ c0; subst e1
 have e2 := j1 ρ _ c1; subst e2
 obtain ⟨sa, sn, sc, rfl⟩ := hF ρ _ c2
 exact (callsRen m rt q aE aC aD rb hs aB sa sn sc b0 b1 b2 b3 b4 b5 w hl).mono fun e w' he => ⟨_, he.1, hd ρ, he.2⟩
end Go.Proofs.YtngkglegomkjkaaDoor.replyTells

