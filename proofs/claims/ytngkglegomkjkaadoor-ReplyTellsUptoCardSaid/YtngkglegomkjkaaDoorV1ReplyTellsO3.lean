/- A part of the proof: what an interpreter answers on partly known states is what the program answers. No condition. -/
import Derived.Test.YtngkglegomkjkaaDoorV1ReplyTellsO2
set_option maxRecDepth 100000
set_option linter.unusedVariables false
set_option linter.unusedSimpArgs false
set_option maxHeartbeats 4000000
namespace Go.Proofs.YtngkglegomkjkaaDoor.replyTells
open Go Go.AX Go.Proofs Go.Proofs.YtngkglegomkjkaaDoor
variable {nu : Nat → Value} {one : ∀ i, i < 1000000 → (nu i).oneCell' = true} {E' : Cx} {x' : Ex} {e' : LA} {h' : LE}
section
open Go.Shelf Go.RowKit
def sh_shI_ren : Go.Shelf.Ren := ⟨fun | 171 => 21 | 243 => 35 | 246 => 44 | 283 => 46 | 284 => 47 | 285 => 48 | 286 => 49 | 129 => 52 | 317 => 51 | 318 => 53 | 319 => 54 | 320 => 55 | 337 => 56 | 338 => 57 | n => n, fun | 3 => 3 | 9 => 9 | 2 => 2 | 4 => 4 | 171 => 63 | 0 => 0 | 53 => 59 | 37 => 51 | 5 => 5 | 173 => 66 | 212 => 72 | 51 => 73 | 20 => 20 | 213 => 74 | 46 => 75 | 232 => 78 | 233 => 79 | n => n, fun | 17 => 0 | 18 => 1 | 19 => 2 | n => n⟩
theorem sh_shI : Go.Proofs.LaysM.n171 Tryd.prog sh_shI_ren := {
 mixed := by kernel_rfl
 f129 := Tryd.func52.trans (congrArg some (by kernel_rfl))
 f171 := Tryd.func21.trans (congrArg some (by kernel_rfl))
 f243 := Tryd.func35.trans (congrArg some (by kernel_rfl))
 f246 := Tryd.func44.trans (congrArg some (by kernel_rfl))
 f283 := Tryd.func46.trans (congrArg some (by kernel_rfl))
 f284 := Tryd.func47.trans (congrArg some (by kernel_rfl))
 f285 := Tryd.func48.trans (congrArg some (by kernel_rfl))
 f286 := Tryd.func49.trans (congrArg some (by kernel_rfl))
 f317 := Tryd.func51.trans (congrArg some (by kernel_rfl))
 f318 := Tryd.func53.trans (congrArg some (by kernel_rfl))
 f319 := Tryd.func54.trans (congrArg some (by kernel_rfl))
 f320 := Tryd.func55.trans (congrArg some (by kernel_rfl))
 f337 := Tryd.func56.trans (congrArg some (by kernel_rfl))
 f338 := Tryd.func57.trans (congrArg some (by kernel_rfl))
 t0 := Tryd.underlying0
 a0 := Tryd.isAgg0
 z0 := Tryd.sizeOf0
 v0 := Tryd.zeroValue0
 t2 := Tryd.underlying2
 a2 := Tryd.isAgg2
 z2 := Tryd.sizeOf2
 v2 := Tryd.zeroValue2
 t3 := Tryd.underlying3
 a3 := Tryd.isAgg3
 z3 := Tryd.sizeOf3
 v3 := Tryd.zeroValue3
 t4 := Tryd.underlying4
 a4 := Tryd.isAgg4
 z4 := Tryd.sizeOf4
 v4 := Tryd.zeroValue4
 t5 := Tryd.underlying5
 a5 := Tryd.isAgg5
 z5 := Tryd.sizeOf5
 v5 := Tryd.zeroValue5
 t9 := Tryd.underlying9
 a9 := Tryd.isAgg9
 z9 := Tryd.sizeOf9
 v9 := Tryd.zeroValue9
 t20 := Tryd.underlying20
 a20 := Tryd.isAgg20
 z20 := Tryd.sizeOf20
 v20 := Tryd.zeroValue20
 t37 := Tryd.underlying51
 a37 := Tryd.isAgg51
 z37 := Tryd.sizeOf51
 v37 := Tryd.zeroValue51
 t46 := Tryd.underlying75
 a46 := Tryd.isAgg75
 z46 := Tryd.sizeOf75
 v46 := Tryd.zeroValue75
 t51 := Tryd.underlying73
 a51 := Tryd.isAgg73
 z51 := Tryd.sizeOf73
 v51 := Tryd.zeroValue73
 t53 := Tryd.underlying59
 a53 := Tryd.isAgg59
 z53 := Tryd.sizeOf59
 v53 := Tryd.zeroValue59
 t171 := Tryd.underlying63
 a171 := Tryd.isAgg63
 z171 := Tryd.sizeOf63
 v171 := Tryd.zeroValue63
 t173 := Tryd.underlying66
 a173 := Tryd.isAgg66
 z173 := Tryd.sizeOf66
 v173 := Tryd.zeroValue66
 t212 := Tryd.underlying72
 a212 := Tryd.isAgg72
 z212 := Tryd.sizeOf72
 v212 := Tryd.zeroValue72
 t213 := Tryd.underlying74
 a213 := Tryd.isAgg74
 z213 := Tryd.sizeOf74
 t232 := Tryd.underlying78
 a232 := Tryd.isAgg78
 z232 := Tryd.sizeOf78
 v232 := Tryd.zeroValue78
 t233 := Tryd.underlying79
 a233 := Tryd.isAgg79
 z233 := Tryd.sizeOf79
 v233 := Tryd.zeroValue79
 g17 := by kernel_rfl
 g18 := by kernel_rfl
 g19 := by kernel_rfl
 i0 := by kernel_rfl
 i2 := by kernel_rfl
 i3 := by kernel_rfl
 i4 := by kernel_rfl
 i5 := by kernel_rfl
 i9 := by kernel_rfl
 i20 := by kernel_rfl
 i37 := by kernel_rfl
 i46 := by kernel_rfl
 i51 := by kernel_rfl
 i53 := by kernel_rfl
 i171 := by kernel_rfl
 i173 := by kernel_rfl
 i212 := by kernel_rfl
 i232 := by kernel_rfl
 i233 := by kernel_rfl
 m17 := by kernel_rfl
 m18 := by kernel_rfl
 m19 := by kernel_rfl }
open Go.Sort Go.Lib in
theorem shI (n : Int) (h0 : -9223372036854775808 ≤ n) (h1 : n ≤ 9223372036854775807) (w : World) (htab : Lib.TabIs Tryd.prog w "internal/strconv.uint64pow10" .u64 Lib.pow10Tab) :
 Calls Tryd.prog 21 #[.int .i64 n] w fun e w' => e = .returned (.string ⟨(Lib.itoa n).toArray⟩) ∧ ∃ k os, w' = grow (w.drewN k) os := Any.strconv_Itoa sh_shI n h0 h1 w htab
end
theorem tabI {w : World} (h : aG w) : Lib.TabIs Tryd.prog w "internal/strconv.uint64pow10" .u64 Lib.pow10Tab := by
 obtain ⟨h0, _⟩ := h
 obtain ⟨ty, arr, fz, hw, hs, hi⟩ := h0
 unfold Lib.TabIs World.var?
 rw [show Tryd.prog.globalNamed "internal/strconv.uint64pow10" = some 0 by kernel_rfl]
 simp only [Option.bind_some, hw]
 congr 1
 apply Array.ext
 ·rw [hs]; rfl
 ·intro i h1 h2
  have hz : zs0[i]? = some (zs0[i]'(by rw [← hs]; exact h1)) := List.getElem?_eq_getElem _
  have := hi i _ hz
  rw [Array.getElem?_eq_getElem h1] at this
  injection this with this
  rw [this]
  simp [show Lib.pow10Tab = zs0 from rfl]
theorem cC (n : Int) (h0 : -9223372036854775808 ≤ n) (h1 : n ≤ 9223372036854775807) : (Lib.itoa n).length ≤ 21 := Lib.itoa_length_le n h0 h1
theorem eT {x r : AV} {n : Int} (i0 : Is (cx nu one 3 aG aJ) x (.int .i64 n)) (hr : Den (cx nu one 3 aG aJ) r (St' (Lib.itoa n))) (b0 : -9223372036854775808 ≤ n := by omega) (b1 : n ≤ 9223372036854775807 := by omega) : aS (cx nu one 3 aG aJ) (.call 21 [x]) r := by
 intro ρ args ha w hl _
 simp only [aH] at ha
 obtain ⟨v0, t0, rfl, a0, rfl⟩ := ha
 have e0 := i0 ρ _ a0; subst e0
 refine (shI n b0 b1 w (tabI hl)).mono fun e w' he => ?_
 obtain ⟨rfl, k, os, rfl⟩ := he
 exact ⟨_, rfl, hr ρ, FN (Lib.below_grow _ w (Nat.le_refl _) k os)⟩
theorem dgLen : ∀ (k u : Nat), u < 10 ^ (k + 1) → (Lib.decDigits u).length ≤ k + 1
 | 0, u, h => by rw [Lib.decDigits, dif_pos (by omega)]; simp
 | k + 1, u, h => by
  rw [Lib.decDigits]
  split
  ·simp
  ·have := dgLen k (u / 10) (by rw [Nat.pow_succ] at h; omega)
   rw [List.length_append]; simp only [List.length_cons, List.length_nil]; omega
theorem E7 {n : Int} (h : n ≤ 18446744073709551615) : (Lib.decDigits n.toNat).length ≤ 20 := dgLen 19 _ (by omega)
theorem nat1 {n : Int} (h0 : 0 ≤ n) (h1 : n < 10) : Lib.decDigits n.toNat = [u8 ((n + 48) % 256)] := by
 rw [Lib.decDigits, dif_pos (by omega)]; unfold u8; congr 2; omega
theorem nat2 {n : Int} (h0 : 0 ≤ n) (h1 : ¬ n < 10) : Lib.decDigits n.toNat = Lib.decDigits (Int.toNat (n / 10)) ++ [u8 ((n % 10) + 48)] := by
 rw [Lib.decDigits, dif_neg (by omega), show (n / 10).toNat = n.toNat / 10 by omega]; unfold u8; congr 3; omega
theorem dec1 {n : Int} (h : n < 0) : Lib.itoa n = [u8 45] ++ Lib.decDigits (Int.toNat (-(n))) := by
 unfold Lib.itoa; rw [if_pos h, show Int.toNat (-(n)) = n.natAbs by omega]; rfl
theorem dec2 {n : Int} (h : ¬ n < 0) : Lib.itoa n = Lib.decDigits n.toNat := by unfold Lib.itoa; rw [if_neg h]
theorem natIH {x r : AV} {z : Int} (i0 : Is (cx nu one 3 aG aJ) x (.int .u64 z)) (hr : Den (cx nu one 3 aG aJ) r (St' (Lib.decDigits z.toNat))) (h : ∀ w, aG w → au 38 #[.int .u64 z] w (St' (Lib.decDigits z.toNat))) : aS (cx nu one 3 aG aJ) (.call 38 [x]) r := by
 intro ρ args ha w hl _
 simp only [aH] at ha
 obtain ⟨v0, t0, rfl, a0, rfl⟩ := ha
 have e0 := i0 ρ _ a0; subst e0
 exact (h w hl).mono fun e w' he => ⟨_, he.1, hr ρ, he.2⟩
theorem zx : bc.fn.get 38 = some (fI Tryd.f38 0) ∧ (fI Tryd.f38 0).body.isSome = true := ⟨rfl, by kernel_rfl⟩
def yw : LK := [(.bin .lss (.x 0) (.i .u64 (.ofNat 10)), .b true), (.bin .add (.i .u64 (.ofNat 48)) (.x 0), .x 1), (.conv 5 (.x 1), .x 2), (.bytes [.x 2], .x 3)]
theorem runNat_0 (e0 : Nat) (e1 : Nat) (e2 : Nat) : okA (call (aR yw) 9000 38 [.x 0] ⟨H0 e0 e1 e2 , 3, 0, 0⟩) (.x 3) = true := by kernel_rfl
def vP (n : Int) : List Value := [.int .u64 (n), .int .u64 (n + 48), .int .u8 ((n + 48) % 256), St' ([u8 ((n + 48) % 256)])]
theorem pathNat_0 (n : Int) (b0 : 0 ≤ n) (b1 : n ≤ 18446744073709551615) (p0 : ∀ z : Int, 0 ≤ z → z < n → ∀ w : World, aG w → au 38 #[.int .u64 z] w (St' (Lib.decDigits z.toNat))) (h0 : n < 10) (w : World) (hl : aG w) : au 38 #[.int .u64 n] w (St' ([u8 ((n + 48) % 256)])) := by
 have ho : ∀ k r, (k, r) ∈ yw → aS (cx (aY (vP n)) (fun j _ => aT (l := vP n) rfl j) 3 aG aJ) k r := by
  unfold yw
  exact hc kb <|hc (oX (bw (m := 48) rfl) (aA rfl) (aF rfl) (by omega) (fO (by omega) (by omega))) <|hc (kConv8 (aA rfl) tu5 (aF rfl) rfl) <|hc (oW (bs := [u8 ((n + 48) % 256)]) (.cons (lC (aA rfl) (by omega) (by omega)) .nil) (aF rfl)) <|hnil
 refine a7 (tb := (aR yw)) (ra := .x 3) rfl ((ab (aY (vP n)) (fun j _ => aT (l := vP n) rfl j)).hyps ho) rfl zx.1 zx.2 (fun e0 e1 e2 => runNat_0 e0 e1 e2 ) (args := [.int .u64 n]) (by simp only [aH, Rel]; exact ⟨_, _, rfl, rfl, rfl⟩) w hl fun x hx => ?_
 simp only [Rel, aH] at hx
 exact hx
def yu : LK := [(.bin .lss (.x 0) (.i .u64 (.ofNat 10)), .b false), (.bin .quo (.x 0) (.i .u64 (.ofNat 10)), .x 1), (.call 38 [.x 1], .x 2), (.bin .rem (.x 0) (.i .u64 (.ofNat 10)), .x 3), (.bin .add (.i .u64 (.ofNat 48)) (.x 3), .x 4), (.conv 5 (.x 4), .x 5), (.bytes [.x 5], .x 6), (.bin .add (.x 2) (.x 6), .x 7)]
theorem runNat_1 (e0 : Nat) (e1 : Nat) (e2 : Nat) : okA (call (aR yu) 9000 38 [.x 0] ⟨H0 e0 e1 e2 , 3, 0, 0⟩) (.x 7) = true := by kernel_rfl
def vO (n : Int) : List Value := [.int .u64 (n), .int .u64 (n / 10), St' (Lib.decDigits (Int.toNat (n / 10))), .int .u64 (n % 10), .int .u64 ((n % 10) + 48), .int .u8 ((n % 10) + 48), St' ([u8 ((n % 10) + 48)]), St' ((Lib.decDigits (Int.toNat (n / 10))) ++ [u8 ((n % 10) + 48)])]
theorem pathNat_1 (n : Int) (b0 : 0 ≤ n) (b1 : n ≤ 18446744073709551615) (p0 : ∀ z : Int, 0 ≤ z → z < n → ∀ w : World, aG w → au 38 #[.int .u64 z] w (St' (Lib.decDigits z.toNat))) (h0 : ¬ (n < 10)) (w : World) (hl : aG w) : au 38 #[.int .u64 n] w (St' ((Lib.decDigits (Int.toNat (n / 10))) ++ [u8 ((n % 10) + 48)])) := by
 have := E7 (n := n / 10) (by omega)
 have ho : ∀ k r, (k, r) ∈ yu → aS (cx (aY (vO n)) (fun j _ => aT (l := vO n) rfl j) 3 aG aJ) k r := by
  unfold yu
  exact hc il <|hc (xL (aA rfl) (bw (m := 10) rfl) (aF rfl) (by omega) (by omega) rfl (fO (by omega) (by omega))) <|hc (natIH (aA rfl) (aF rfl) (fun w hl => p0 _ (by omega) (by omega) w hl)) <|hc (xJ (aA rfl) (bw (m := 10) rfl) (aF rfl) (by omega) (by omega) rfl) <|hc (oX (bw (m := 48) rfl) (aA rfl) (aF rfl) (by omega) (fO (by omega) (by omega))) <|hc (oV (aA rfl) tu5 (aF rfl) (fU8 (by omega) (by omega))) <|hc (oW (bs := [u8 ((n % 10) + 48)]) (.cons (lC (aA rfl) (by omega) (by omega)) .nil) (aF rfl)) <|hc (aI (aA rfl) (aA rfl) (aF rfl) (by first | rfl | (simp; done)) (by first | omega | (simp <;> omega))) <|hnil
 refine a7 (tb := (aR yu)) (ra := .x 7) rfl ((ab (aY (vO n)) (fun j _ => aT (l := vO n) rfl j)).hyps ho) rfl zx.1 zx.2 (fun e0 e1 e2 => runNat_1 e0 e1 e2 ) (args := [.int .u64 n]) (by simp only [aH, Rel]; exact ⟨_, _, rfl, rfl, rfl⟩) w hl fun x hx => ?_
 simp only [Rel, aH] at hx
 exact hx
theorem callsNat (n : Int) (b0 : 0 ≤ n) (b1 : n ≤ 18446744073709551615) (p0 : ∀ z : Int, 0 ≤ z → z < n → ∀ w : World, aG w → au 38 #[.int .u64 z] w (St' (Lib.decDigits z.toNat))) (w : World) (hl : aG w) : au 38 #[.int .u64 n] w (St' (Lib.decDigits n.toNat)) := by
 by_cases h0 : n < 10
 ·rw [show (St' (Lib.decDigits n.toNat) : Value) = (St' ([u8 ((n + 48) % 256)]) : Value) from by rw [nat1 (by omega) (by omega)]]
  exact pathNat_0 n b0 b1 p0 h0 w hl
 ·rw [show (St' (Lib.decDigits n.toNat) : Value) = (St' ((Lib.decDigits (Int.toNat (n / 10))) ++ [u8 ((n % 10) + 48)]) : Value) from by rw [nat2 (by omega) (by omega)]]
  exact pathNat_1 n b0 b1 p0 h0 w hl
theorem natAll : ∀ (k : Nat) (n : Int), n.toNat = k → 0 ≤ n → n ≤ 18446744073709551615 → ∀ w : World, aG w → au 38 #[.int .u64 n] w (St' (Lib.decDigits n.toNat)) := fun k => by
 induction k using Nat.strongRecOn with
 | ind k ih => exact fun n hn h0 h1 w hl => callsNat n h0 h1 (fun z z0 z1 w hl => ih z.toNat (by omega) z rfl z0 (by omega) w hl) w hl
theorem hokNt {x r : AV} {z : Int} (i0 : Is (cx nu one 3 aG aJ) x (.int .u64 z)) (hr : Den (cx nu one 3 aG aJ) r (St' (Lib.decDigits z.toNat))) (b0 : 0 ≤ z := by omega) (b1 : z ≤ 18446744073709551615 := by omega) : aS (cx nu one 3 aG aJ) (.call 38 [x]) r := natIH i0 hr (natAll _ z rfl b0 b1)
theorem z6 : bc.fn.get 25 = some (fI Tryd.f25 0) ∧ (fI Tryd.f25 0).body.isSome = true := ⟨rfl, by kernel_rfl⟩
def zL : LK := [(.bin .lss (.x 0) (I6 0), .b false), (.conv 59 (.x 0), .x 1), (.call 38 [.x 1], .x 2)]
theorem runDec_0 (e0 : Nat) (e1 : Nat) (e2 : Nat) : okA (call (aR zL) 9000 25 [.x 0] ⟨H0 e0 e1 e2 , 3, 0, 0⟩) (.x 2) = true := by kernel_rfl
def wJ (n : Int) : List Value := [.int .i64 (n), .int .u64 (n), St' (Lib.decDigits n.toNat)]
theorem pathDec_0 (n : Int) (b0 : -9223372036854775808 ≤ n) (b1 : n ≤ 9223372036854775807) (h0 : ¬ (n < 0)) (w : World) (hl : aG w) : au 25 #[.int .i64 n] w (St' (Lib.decDigits n.toNat)) := by
 have := E7 (n := n) (by omega)
 have ho : ∀ k r, (k, r) ∈ zL → aS (cx (aY (wJ n)) (fun j _ => aT (l := wJ n) rfl j) 3 aG aJ) k r := by
  unfold zL
  exact hc il <|hc (oV (aA rfl) pY (aF rfl) (fO (by omega) (by omega))) <|hc (hokNt (aA rfl) (aF rfl)) <|hnil
 refine a7 (tb := (aR zL)) (ra := .x 2) rfl ((ab (aY (wJ n)) (fun j _ => aT (l := wJ n) rfl j)).hyps ho) rfl z6.1 z6.2 (fun e0 e1 e2 => runDec_0 e0 e1 e2 ) (args := [.int .i64 n]) (by simp only [aH, Rel]; exact ⟨_, _, rfl, rfl, rfl⟩) w hl fun x hx => ?_
 simp only [Rel, aH] at hx
 exact hx
def zK : LK := [(.bin .lss (.x 0) (I6 0), .b true), (.bin .add (.x 0) (I6 1), .x 1), (.un .neg (.x 1), .x 2), (.conv 59 (.x 2), .x 3), (.bin .add (.x 3) (.i .u64 (.ofNat 1)), .x 4), (.call 38 [.x 4], .x 5), (.bin .add (.s 1 45) (.x 5), .x 6)]
theorem runDec_1 (e0 : Nat) (e1 : Nat) (e2 : Nat) : okA (call (aR zK) 9000 25 [.x 0] ⟨H0 e0 e1 e2 , 3, 0, 0⟩) (.x 6) = true := by kernel_rfl
def wI (n : Int) : List Value := [.int .i64 (n), .int .i64 (n + 1), .int .i64 (-(n) - 1), .int .u64 (-(n) - 1), .int .u64 (-(n)), St' (Lib.decDigits (Int.toNat (-(n)))), St' ([u8 45] ++ (Lib.decDigits (Int.toNat (-(n)))))]
theorem pathDec_1 (n : Int) (b0 : -9223372036854775808 ≤ n) (b1 : n ≤ 9223372036854775807) (h0 : n < 0) (w : World) (hl : aG w) : au 25 #[.int .i64 n] w (St' ([u8 45] ++ (Lib.decDigits (Int.toNat (-(n)))))) := by
 have := E7 (n := -(n)) (by omega)
 have ho : ∀ k r, (k, r) ∈ zK → aS (cx (aY (wI n)) (fun j _ => aT (l := wI n) rfl j) 3 aG aJ) k r := by
  unfold zK
  exact hc kb <|hc cQ <|hc (kNeg (aA rfl) (aF rfl) (by omega) (rC (by omega) (by omega))) <|hc (oV (aA rfl) pY (aF rfl) (fO (by omega) (by omega))) <|hc (oX (aA rfl) (bw (m := 1) rfl) (aF rfl) (by omega) (fO (by omega) (by omega))) <|hc (hokNt (aA rfl) (aF rfl)) <|hc (aI (aO (l := [u8 45]) 1 45 rfl) (aA rfl) (aF rfl) (by first | rfl | (simp; done)) (by first | omega | (simp <;> omega))) <|hnil
 refine a7 (tb := (aR zK)) (ra := .x 6) rfl ((ab (aY (wI n)) (fun j _ => aT (l := wI n) rfl j)).hyps ho) rfl z6.1 z6.2 (fun e0 e1 e2 => runDec_1 e0 e1 e2 ) (args := [.int .i64 n]) (by simp only [aH, Rel]; exact ⟨_, _, rfl, rfl, rfl⟩) w hl fun x hx => ?_
 simp only [Rel, aH] at hx
 exact hx
theorem callsDec (n : Int) (b0 : -9223372036854775808 ≤ n) (b1 : n ≤ 9223372036854775807) (w : World) (hl : aG w) : au 25 #[.int .i64 n] w (St' (Lib.itoa n)) := by
 by_cases h0 : n < 0
 ·rw [show (St' (Lib.itoa n) : Value) = (St' ([u8 45] ++ (Lib.decDigits (Int.toNat (-(n))))) : Value) from by rw [dec1 (by omega)]]
  exact pathDec_1 n b0 b1 h0 w hl
 ·rw [show (St' (Lib.itoa n) : Value) = (St' (Lib.decDigits n.toNat) : Value) from by rw [dec2 (by omega)]]
  exact pathDec_0 n b0 b1 h0 w hl
theorem dr {x0 r : AV} {n : Int} (i0 : Is (cx nu one 3 aG aJ) x0 (.int .i64 n)) (hr : Den (cx nu one 3 aG aJ) r (St' (Lib.itoa n))) (b0 : -9223372036854775808 ≤ n := by omega) (b1 : n ≤ 9223372036854775807 := by omega) : aS (cx nu one 3 aG aJ) (.call 25 [x0]) r := by
 intro ρ args ha w hl _
 simp only [aH] at ha
 obtain ⟨v0, t0, rfl, a0, rfl⟩ := ha
 have e0 := i0 ρ _ a0; subst e0
 exact (callsDec n b0 b1 w hl).mono fun e w' he => ⟨_, he.1, hr ρ, he.2⟩
end Go.Proofs.YtngkglegomkjkaaDoor.replyTells

